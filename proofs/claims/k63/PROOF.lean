import PyProof.Rows.All
import Wide.All
import OpenK.AllK
import Wide.FinOn
import Lean
import PyProof.EqAt
import PyProof.EqKinds
import PyProof.TupleCall
import PyProof.NeKinds
import KE.KEqDict
import KE.KDictSum
import PyProof.Rows.StrMul
import PyProof.Rows.SortStr
import PyProof.Rows.SortWalk
import KE.KSortTup
import PyProof.IsiH_list
import KE.KDictOf
import KE.KItemsList
import PyProof.SetKind
import PyProof.Rows.SetFrom
import PyProof.IsRules
import PyProof.EnumStmt
import PyProof.EnumFor
import PyProof.EnumMake
import PyProof.Rows.StrJoin2
import KE.KDictList
import PyProof.ZipIter
import PyProof.DictCompW
import PyProof.DictUpdate
import PyProof.FactsAll.set_2
import KE.KSetDisp
import PySem.Challenge.RW_outlineward_k63_duties_of_calls
set_option Elab.async false
set_option linter.all false
set_option maxRecDepth 100000
set_option maxHeartbeats 4000000
namespace L2
open PySem PySem.Spec PyProof.Rows
abbrev Key:=Sum Int Str
def KO:Key→Value→Bool
 | .inl k,v=>Value.isInt k v
 | .inr x,v=>Value.isStrOf x v
def jhc (w:World):Key→Int
 | .inl k=>hashInt k
 | .inr x=>hashStr w x
theorem kl:∀ {k:Key} {v:Value},KO k v=true→(∃ i t,k=Sum.inl i∧v=Value.int i t)∨(∃ x t,k=Sum.inr x∧v=Value.str x t)
 | .inl i,v,h=>by
  obtain ⟨t,e⟩:=Value.isInt_shape (k:=i) (v:=v) h
  exact .inl ⟨i,t,rfl,e⟩
 | .inr x,v,h=>by
  obtain ⟨t,e⟩:=Value.isStrOf_shape (x:=x) (v:=v) h
  exact .inr ⟨x,t,rfl,e⟩
theorem jbL (i:Int) (t:Tok):KO (.inl i) (.int i t)=true:=by simp [KO,Value.isInt]
theorem jbK (x:Str) (t:Tok):KO (.inr x) (.str x t)=true:=by simp [KO,Value.isStrOf]
theorem jf3 (a b:Int):decide ((Sum.inl a:Key)=Sum.inl b)=(a == b):=by
 by_cases e:a=b
 ·subst e;simp
 ·have h:¬ (Sum.inl a:Key)=Sum.inl b:=fun q=>e (Sum.inl.inj q)
  rw [decide_eq_false h]
  exact (beq_eq_false_iff_ne.mpr e).symm
theorem jf0 (a b:Str):decide ((Sum.inr a:Key)=Sum.inr b)=decide (a=b):=by
 by_cases e:a=b
 ·subst e;simp
 ·have h:¬ (Sum.inr a:Key)=Sum.inr b:=fun q=>e (Sum.inr.inj q)
  rw [decide_eq_false h,decide_eq_false e]
theorem jf2 (a:Int) (b:Str):decide ((Sum.inl a:Key)=Sum.inr b)=false:=decide_eq_false (fun q=>nomatch q)
theorem jf1 (a:Str) (b:Int):decide ((Sum.inr a:Key)=Sum.inl b)=false:=decide_eq_false (fun q=>nomatch q)
def j4 (prog:Program) (w:World):PySem.KeyKind prog w Key where
 is:=KO
 hash:=jhc w
 inj:=fun v a b ha hb=>by
  rcases kl ha with ⟨i,t,rfl,rfl⟩ | ⟨x,t,rfl,rfl⟩
  ·rcases kl hb with ⟨j,u,rfl,e⟩ | ⟨y,u,rfl,e⟩
   ·injection e with e1 _;rw [e1]
   ·exact nomatch e
  ·rcases kl hb with ⟨j,u,rfl,e⟩ | ⟨y,u,rfl,e⟩
   ·exact nomatch e
   ·injection e with e1 _;rw [e1]
 byValue:=fun k v h=>by
  rcases kl h with ⟨i,t,rfl,rfl⟩ | ⟨x,t,rfl,rfl⟩ <;> rfl
 pyHash:=fun hv h=>by
  rcases kl hv with ⟨i,t,rfl,rfl⟩ | ⟨x,t,rfl,rfl⟩
  ·exact wpAny_pyHash_int h
  ·exact wpAny_pyHash_str h
 eqBool:=fun hu hv h=>by
  rcases kl hu with ⟨i,t,rfl,rfl⟩ | ⟨x,t,rfl,rfl⟩
  ·rcases kl hv with ⟨j,u,rfl,rfl⟩ | ⟨y,u,rfl,rfl⟩
   ·rw [jf3] at h;exact wpAny_eqBool_int h
   ·rw [jf2] at h;exact SeqAt.EqAt.int_str i t y u _ _ _ _ h
  ·rcases kl hv with ⟨j,u,rfl,rfl⟩ | ⟨y,u,rfl,rfl⟩
   ·rw [jf1] at h;exact SeqAt.EqAt.str_int x t j u _ _ _ _ h
   ·rw [jf0] at h;exact wpAny_eqBool_str h
 «strs»:=fun k x t v h=>by
  rcases kl h with ⟨i,u,rfl,e⟩ | ⟨y,u,rfl,e⟩
  ·exact nomatch e
  ·injection e with e1 _
   subst e1
   cases v <;> rfl
theorem Zh (prog:Program) (w:World) (i:Int) (t:Tok):(j4 prog w).is (.inl i) (.int i t)=true:=jbL i t
theorem Zg (prog:Program) (w:World) (x:Str) (t:Tok):(j4 prog w).is (.inr x) (.str x t)=true:=jbK x t
inductive V where
 | non | bl (b:Bool) | int (i:Int) | str (x:Str) | byt (b:Array UInt8) | flt (b:UInt64) | ref (a:Addr) | ty (n:String)
 deriving DecidableEq
def RelV:V→Value→Prop
 | .non,u=>u=Value.none
 | .bl b,u=>u=Value.bool b
 | .int i,u=>∃ t,u=Value.int i t
 | .str x,u=>∃ t,u=Value.str x t
 | .byt b,u=>∃ t,u=Value.bytes b t
 | .flt b,u=>∃ t,u=Value.float b t
 | .ref a,u=>u=Value.ref a
 | .ty n,u=>u=Value.type n
abbrev Vals:List V→List Value→Prop:=Paired RelV
theorem Vals.length {xs:List V} {us:List Value} (r:Vals xs us):xs.length=us.length:=Paired.length r
theorem Vals.get:∀ {xs:List V} {us:List Value} {i:Nat} {x:V},Vals xs us→xs[i]?=some x→∃ u,us[i]?=some u∧RelV x u
 | _,_,_,_,.nil,e=>by simp at e
 | _,_,0,_,.cons r _,e=>by simp at e;subst e;exact ⟨_,rfl,r⟩
 | _,_,i+1,x,.cons _ t,e=>by
  obtain ⟨u,h1,h2⟩:=Vals.get (i:=i) (x:=x) t (by simpa using e)
  exact ⟨u,by simpa using h1,h2⟩
theorem Vals.append:∀ {xs ys:List V} {us ws:List Value},Vals xs us→Vals ys ws→Vals (xs++ys) (us++ws)
 | _,_,_,_,.nil,s=>s
 | _,_,_,_,.cons r t,s=>.cons r (Vals.append t s)
theorem Vals.take:∀ {xs:List V} {us:List Value} (n:Nat),Vals xs us→Vals (xs.take n) (us.take n)
 | _,_,0,_=>.nil
 | _,_,_+1,.nil=>.nil
 | _,_,n+1,.cons r t=>.cons r (Vals.take n t)
theorem Vals.drop:∀ {xs:List V} {us:List Value} (n:Nat),Vals xs us→Vals (xs.drop n) (us.drop n)
 | _,_,0,r=>r
 | _,_,_+1,.nil=>.nil
 | _,_,n+1,.cons _ t=>Vals.drop n t
def RelO:Option V→Option Value→Prop
 | some v,some u=>RelV v u
 | none,none=>True
 | _,_=>False
def KV {κ:Type}:List (κ×V)→List (κ×Value)→Prop:=Paired fun (p:κ×V) (q:κ×Value)=>p.1=q.1∧RelV p.2 q.2
def kV:Key→V
 | .inl i=>.int i
 | .inr x=>.str x
inductive HO where
 | lst (xs:List V)
 | tup (xs:List V)
 | dK (kvs:List (Key×V)) | dT (kvs:List (List Key×V))
 | set (S:Int→Bool) (n:Nat)
 | ins (C dx:Addr) (fs:List (Str×V))
 | own (x:Addr)
 | xd (fs:List (Str×V))
 | met (f x:Addr)
 | rng (lo hi:Int)
 | frz (o:Obj) (u:HO)
 | tbl (ps:Array Value)
 | ext (φ:Heap→Prop)
abbrev Hp:=Addr→Option HO
def upd (H:Hp) (a:Addr) (o:HO):Hp:=fun b=>if b=a then some o else H b
theorem jb {H:Hp} {a:Addr} {o:HO}:upd H a o a=some o:=by unfold upd;rw [if_pos rfl]
theorem jr {H:Hp} {a b:Addr} {o:HO} (h:b≠a):upd H a o b=H b:=by unfold upd;rw [if_neg h]
theorem jfj {H:Hp} {a b:Addr} {o u:HO} (h:H a=some o) (h':H b=some u) (d:o≠u):a≠b:=by
 intro e;subst e;rw [h] at h';exact d (Option.some.inj h')
theorem jn {H:Hp} {a b:Addr} {o:HO} (h:H a=some o) (h':H b=none):a≠b:=by
 intro e;subst e;rw [h] at h';cases h'
section
variable (P:Program) (w:World)
def ObjOk (H:Hp) (h:Heap) (a:Addr):HO→Prop
 | .lst xs=>xs.length≤sizeLine∧∃ (its:List Value) (n:Nat),Vals xs its∧h.get? a=some { cls:=.type "list",data:=.seq its.toArray n }
 | .tup xs=>xs.length≤sizeLine∧∃ its:List Value,Vals xs its∧IsTup h a its.toArray
 | .dK kvs=>kvs.length≤sizeLine∧(a == sysModules)=false∧∃ vs,KV kvs vs∧h.DictOf (j4 P w) a vs
 | .dT kvs=>kvs.length≤sizeLine∧(a == sysModules)=false∧∃ xs:List (List Key×Addr×Value),
   Paired (fun (p:List Key×V) (q:List Key×Addr×Value)=>p.1=q.1∧H q.2.1=some (.tup (p.1.map kV))∧RelV p.2 q.2.2) kvs xs∧
   ∃ o es ep,h.get? a=some o∧o.ExactDict∧o.data=.dict es ep∧es.toList=xs.map (entryOfKey (tupleKind (j4 P w)))∧(xs.map (·.1)).Nodup
 | .set S n=>h.SetOf (intKind P w) a S n
 | .ins C dx fs=>H dx=some (.own a)∧fs.length≤1000∧dx≠a∧h.get? a=some (PySem.W.instObj C dx)∧
   ∃ mA,h.Ns1 dx mA∧(∀ f,RelO (fs.lookup f) (mA f))∧PySem.Within mA (fs.map (·.1))
 | .own _=>∃ o,h.get? a=some o
 | .xd fs=>∃ mA,h.Ns1 a mA∧∀ f,RelO (fs.lookup f) (mA f)
 | .rng lo hi=>∃ t u v,h.get? a=some { cls:=.type "range",data:=.fields #[.int lo t,.int hi u,.int 1 v] }
 | .frz o u=>h.get? a=some o∧ObjOk H h a u
 | .tbl ps=>h.get? a=some { cls:=.none,data:=.fields ps }
 | .met f x=>h.get? a=some (PySem.W.methodObj (.ref f) (.ref x))
 | .ext φ=>φ h∧(∃ o,h.get? a=some o)∧∀ h1 h2:Heap,φ h1→(∀ o,h1.get? a=some o→h2.get? a=some o)→φ h2
def HOk (H:Hp) (h:Heap):Prop:=∀ a o,H a=some o→ObjOk P w H h a o
end
section
variable {P:Program} {w:World} {H H':Hp} {h h':Heap} {a:Addr} {o:HO}
theorem ObjOk.lt (x:ObjOk P w H h a o):a < h.objs.size:=by
 cases o with
 | lst xs=>obtain ⟨_,_,_,_,e⟩:=x;exact Heap.lt_size e
 | tup xs=>obtain ⟨_,_,_,p⟩:=x;exact p.lt
 | dK kvs=>obtain ⟨_,_,_,_,o,_,_,e,_⟩:=x;exact Heap.lt_size e
 | dT kvs=>obtain ⟨_,_,_,_,o,_,_,e,_⟩:=x;exact Heap.lt_size e
 | set S n=>obtain ⟨o,_,_,_,e,_⟩:=x;exact Heap.lt_size e
 | ins C dx fs=>obtain ⟨_,_,_,e,_⟩:=x;exact Heap.lt_size e
 | own y=>obtain ⟨_,e⟩:=x;exact Heap.lt_size e
 | xd fs=>obtain ⟨_,⟨_,_,_,e,_⟩,_⟩:=x;exact Heap.lt_size e
 | rng lo hi=>obtain ⟨_,_,_,e⟩:=x;exact Heap.lt_size e
 | frz ob u=>obtain ⟨e,_⟩:=x;exact Heap.lt_size e
 | tbl ps=>exact Heap.lt_size (show h.get? a=some _ from x)
 | met f y=>exact Heap.lt_size (show h.get? a=some _ from x)
 | ext φ=>obtain ⟨_,⟨_,e⟩,_⟩:=x;exact Heap.lt_size e
theorem Paired.mapP {α β:Type} {F G:α→β→Prop}:∀ {l₁:List α} {l₂:List β},Paired F l₁ l₂→(∀ a b,F a b→G a b)→Paired G l₁ l₂
 | _,_,.nil,_=>.nil
 | _,_,.cons r t,f=>.cons (f _ _ r) (Paired.mapP t f)
theorem ObjOk.stay (x:ObjOk P w H h a o) (k:∀ b u,(b=a∨H b=some (.own a))→h.get? b=some u→h'.get? b=some u)
  (ho:∀ b,H b=some (.own a)→H' b=some (.own a)) (ht:∀ b xs,H b=some (.tup xs)→H' b=some (.tup xs)):ObjOk P w H' h' a o:=by
 induction o with
 | lst xs=>obtain ⟨z,its,n,r,e⟩:=x;exact ⟨z,its,n,r,k _ _ (.inl rfl) e⟩
 | tup xs=>obtain ⟨z,its,r,ob,e,c⟩:=x;exact ⟨z,its,r,ob,k _ _ (.inl rfl) e,c⟩
 | dK kvs=>obtain ⟨z,y,vs,r,ob,es,ep,e,c⟩:=x;exact ⟨z,y,vs,r,ob,es,ep,k _ _ (.inl rfl) e,c⟩
 | dT kvs=>
  obtain ⟨z,y,xs,r,ob,es,ep,e,c⟩:=x
  exact ⟨z,y,xs,Paired.mapP r fun p q z=>⟨z.1,ht _ _ z.2.1,z.2.2⟩,ob,es,ep,k _ _ (.inl rfl) e,c⟩
 | set S n=>obtain ⟨ob,es,ep,t,e,c⟩:=x;exact ⟨ob,es,ep,t,k _ _ (.inl rfl) e,c⟩
 | ins C dx fs=>
  obtain ⟨d,z,ne,e,mA,⟨od,es,ep,e2,c⟩,r⟩:=x
  exact ⟨ho _ d,z,ne,k _ _ (.inl rfl) e,mA,⟨od,es,ep,k _ _ (.inr d) e2,c⟩,r⟩
 | own y=>obtain ⟨ob,e⟩:=x;exact ⟨ob,k _ _ (.inl rfl) e⟩
 | xd fs=>obtain ⟨mA,⟨od,es,ep,e,c⟩,r⟩:=x;exact ⟨mA,⟨od,es,ep,k _ _ (.inl rfl) e,c⟩,r⟩
 | rng lo hi=>obtain ⟨t,u,v,e⟩:=x;exact ⟨t,u,v,k _ _ (.inl rfl) e⟩
 | frz ob u ih=>obtain ⟨e,q⟩:=x;exact ⟨k _ _ (.inl rfl) e,ih q⟩
 | tbl ps=>
  have e:h.get? a=some { cls:=.none,data:=.fields ps }:=x
  show h'.get? a=some { cls:=.none,data:=.fields ps }
  exact k a _ (.inl rfl) e
 | met f y=>
  have e:h.get? a=some (PySem.W.methodObj (.ref f) (.ref y)):=x
  show h'.get? a=some (PySem.W.methodObj (.ref f) (.ref y))
  exact k a _ (.inl rfl) e
 | ext φ=>obtain ⟨p,⟨o,e⟩,st⟩:=x;exact ⟨st _ _ p fun o q=>k _ _ (.inl rfl) q,⟨o,k _ _ (.inl rfl) e⟩,st⟩
theorem HOk.lt (x:HOk P w H h) (e:H a=some o):a < h.objs.size:=(x a o e).lt
theorem HOk.fresh (x:HOk P w H h) (e:h.objs.size≤a):H a=none:=by
 cases q:H a with
 | none=>rfl
 | some u=>exact absurd (Nat.lt_of_lt_of_le (x.lt q) e) (Nat.lt_irrefl _)
theorem HOk.kept (x:HOk P w H h) (k:∀ b u,h.get? b=some u→h'.get? b=some u):HOk P w H h':=fun a o e=>
 (x a o e).stay (fun b u _ q=>k b u q) (fun _ q=>q) fun _ _ q=>q
theorem HOk.laid (x:HOk P w H h) (k:∀ b u,h.get? b=some u→h'.get? b=some u) (hp:h.objs.size≤a) (new:ObjOk P w (upd H a o) h' a o):HOk P w (upd H a o) h':=fun b u e=>by
 have hn:=x.fresh hp
 by_cases hb:b=a
 ·subst hb;rw [jb] at e;cases e;exact new
 ·rw [jr hb] at e
  exact (x b u e).stay (fun c v _ q=>k c v q) (fun c q=>by rw [jr (jn q hn)];exact q) fun c xs q=>by rw [jr (jn q hn)];exact q
end
def Rd (H:Hp) (a:Addr) (u:HO):Prop:=H a=some u∨∃ o,H a=some (.frz o u)
theorem Rd.ok {P:Program} {w:World} {H:Hp} {h:Heap} {a:Addr} {u:HO} (r:Rd H a u) (x:HOk P w H h):ObjOk P w H h a u:=by
 rcases r with r | ⟨o,r⟩
 ·exact x a u r
 ·obtain ⟨_,q⟩:=x a _ r
  exact q
def Mut:Option HO→Prop
 | some (.lst _)=>True
 | some (.dK _)=>True
 | some (.dT _)=>True
 | some (.set _ _)=>True
 | some (.ins _ _ _)=>True
 | some (.ext _)=>True
 | _=>False
section
variable {P:Program} {w:World} {H:Hp} {h h':Heap} {x e:Addr} {o':HO}
theorem HOk.write (ok:HOk P w H h) (mu:Mut (H x)) (he:e=x∨H e=some (.own x)) (k:∀ b u,b≠e→h.get? b=some u→h'.get? b=some u) (heo:∃ u,h'.get? e=some u)
  (new:ObjOk P w (upd H x o') h' x o'):HOk P w (upd H x o') h':=fun b u q=>by
 have nown:∀ c y,H c=some (.own y)→c≠x:=fun c y r z=>by subst z;rw [r] at mu;exact mu
 have ntup:∀ c xs,H c=some (.tup xs)→c≠x:=fun c xs r z=>by subst z;rw [r] at mu;exact mu
 by_cases hb:b=x
 ·subst hb;rw [jb] at q;cases q;exact new
 ·rw [jr hb] at q
  by_cases hbe:b=e
  ·have q':H b=some (.own x):=by
    rcases he with z | z
    ·exact absurd (hbe.trans z) hb
    ·rw [hbe];exact z
   rw [q] at q';cases q'
   obtain ⟨v,hv⟩:=heo
   exact ⟨v,by rw [hbe];exact hv⟩
  ·refine (ok b u q).stay (fun c v hc r=>k c v ?_ r) (fun c r=>by rw [jr (nown c b r)];exact r) fun c xs r=>by rw [jr (ntup c xs r)];exact r
   rcases hc with rfl | hc
   ·exact hbe
   ·rintro rfl
    rcases he with z | z
    ·exact nown c b hc z
    ·rw [hc] at z;cases z;exact hb rfl
end
structure Un (fs ex:List Addr) (H H':Hp) (h h':Heap):Prop where
 keep:∀ b o,h.get? b=some o→H b=none→b ∉ fs→b ∉ ex→h'.get? b=some o
 slot:∀ b o,h.get? b=some o→H b=none→b∈fs→b ∉ ex→∃ sl,h'.get? b=some { o with slots:=sl }
 free:∀ b o,h.get? b=some o→H b=none→b ∉ ex→H' b=none
 there:∀ b o,h.get? b=some o→b ∉ ex→∃ o',h'.get? b=some o'
 tups:∀ b xs,H b=some (.tup xs)→H' b=some (.tup xs)
 frzs:∀ b o u,H b=some (.frz o u)→H' b=some (.frz o u)
 tbls:∀ b ps,H b=some (.tbl ps)→∃ more,H' b=some (.tbl (ps++more))
section
variable {fs fs' ex ex':List Addr} {H H1 H2:Hp} {h h1 h2 h':Heap} {a x e:Addr} {o:HO}
theorem Un.any (u:Un fs ex H H1 h h1) {b:Addr} {ob:Obj} (q:h.get? b=some ob) (n:H b=none) (hx:b ∉ ex):∃ sl,h1.get? b=some { ob with slots:=sl }:=by
 by_cases hb:b∈fs
 ·exact u.slot b ob q n hb hx
 ·exact ⟨ob.slots,u.keep b ob q n hb hx⟩
theorem Un.kept (k:∀ b u,h.get? b=some u→h'.get? b=some u):Un fs ex H H h h':=
 ⟨fun b ob q _ _ _=>k b ob q,fun b ob q _ _ _=>⟨ob.slots,k b ob q⟩,fun _ _ _ n _=>n,fun b ob q _=>⟨ob,k b ob q⟩,fun _ _ q=>q,fun _ _ _ q=>q,fun _ ps q=>⟨#[],by rw [q];simp⟩⟩
theorem Un.refl:Un fs ex H H h h:=Un.kept fun _ _ q=>q
theorem Un.laid (k:∀ b u,h.get? b=some u→h'.get? b=some u) (hp:h.objs.size≤a) (hn:H a=none):Un fs ex H (upd H a o) h h' where
 keep:=fun b u q _ _ _=>k b u q
 slot:=fun b u q _ _ _=>⟨u.slots,k b u q⟩
 free:=fun b u q n _=>by rw [jr (Nat.ne_of_lt (Nat.lt_of_lt_of_le (Heap.lt_size q) hp))];exact n
 there:=fun b u q _=>⟨u,k b u q⟩
 tups:=fun b xs q=>by rw [jr (jn q hn)];exact q
 frzs:=fun b u xs q=>by rw [jr (jn q hn)];exact q
 tbls:=fun b ps q=>⟨#[],by rw [jr (jn q hn),q];simp⟩
theorem Un.write (mu:Mut (H x)) (he:e=x∨H e=some (.own x)) (k:∀ b u,b≠e→h.get? b=some u→h'.get? b=some u) (heo:∃ u,h'.get? e=some u):Un fs ex H (upd H x o) h h':=by
 have hx:∀ b,H b=none→b≠x:=fun b n z=>by subst z;rw [n] at mu;exact mu
 have hb:∀ b,H b=none→b≠e:=fun b n z=>by
  subst z
  rcases he with r | r
  ·exact hx b n r
  ·rw [n] at r;cases r
 have hm:∀ b u,H b=some u→¬ Mut (some u)→b≠x:=fun b u q nm z=>by subst z;rw [q] at mu;exact nm mu
 refine ⟨fun b u q n _ _=>k b u (hb b n) q,fun b u q n _ _=>⟨u.slots,k b u (hb b n) q⟩,fun b u q n _=>by rw [jr (hx b n)];exact n,fun b u q _=>?_,
  fun b xs q=>by rw [jr (hm b _ q fun z=>z)];exact q,fun b u xs q=>by rw [jr (hm b _ q fun z=>z)];exact q,fun b ps q=>⟨#[],by rw [jr (hm b _ q fun z=>z),q];simp⟩⟩
 by_cases hbe:b=e
 ·subst hbe;exact heo
 ·exact ⟨u,k b u hbe q⟩
end
def trk (h:Heap) (H:Hp):List Addr:=(List.range h.objs.size).filter fun a=>(H a).isSome
def YE (h:Heap) (H:Hp):Heap:=PySem.W.hideAll h (trk h H)
theorem jbP (h:Heap) (H:Hp):(YE h H).objs.size=h.objs.size:=PySem.W.hideAll_size _ _
theorem jdD {h:Heap} {H:Hp} {b:Addr} {o:Obj} (e:h.get? b=some o) (n:H b=none):(YE h H).get? b=some o:=
 PySem.W.hideAll_get _ e fun hm=>by
  have q:(H b).isSome=true:=(List.mem_filter.mp hm).2
  rw [n] at q;simp at q
theorem jeO {h:Heap} {H:Hp} {b:Addr} {o:Obj} (e:(YE h H).get? b=some o):h.get? b=some o∧H b=none:=by
 have e':h.get? b=some o:=PySem.W.of_hideAll (trk h H) e
 refine ⟨e',?_⟩
 cases q:H b with
 | none=>rfl
 | some x=>
  have hm:b∈trk h H:=List.mem_filter.mpr ⟨List.mem_range.mpr (Heap.lt_size e'),by simp [q]⟩
  have z:(YE h H).get? b=none:=PySem.W.hideAll_none (trk h H) hm
  rw [z] at e;cases e
def je3 (g h:Heap) (L:Addr):List (Addr×Obj):=(List.range h.objs.size).filterMap fun a=>if a=L∨(g.get? a).isSome=true then none else (h.get? a).map fun o=>(a,o)
def qc (g h:Heap) (L d:Addr):List (Addr×Obj):=(je3 g h L).filter fun p=>decide (p.1≠d)
structure Mod (K:PySem.W.Frag) (mg:Str→Option Value) (base:Heap):Prop where
 kin:K.In base
 glob:base.Ns mainGlobals mg
 blt:∃ mb,base.Ns builtinsNs mb∧∀ x:Str,x≠"__name__"→mb x=bootBuiltins x
 nolimit:base.NoLimit
structure Cx where
 prog:Program
 w:World
 K:PySem.W.Frag
 mg:Str→Option Value
 base:Heap
 A:Around
 N:List Str
 s₀:Shared
 H₀:Hp
 env:Env
 outer:List Env
 stack:List Env
 ex:List Addr
 fn:Str→Bool
 calm:Bool
 pn:List (Addr×Obj)
 xe:Value→Shared→Prop
def frs (l:List Env):List Addr:=l.filterMap (·.frame)
abbrev Cx.fs (X:Cx):List Addr:=frs X.outer
def Vis (sc:Scope) (x:Str):Prop:=sc.names.lookup x=some .local∨sc.names.lookup x=some .cell∨sc.names.lookup x=some .free
def Loc (sc:Scope) (x:Str):Prop:=sc.names.lookup x=some .local∨sc.names.lookup x=some .cell
def jhg (env:Env) (h:Heap) (m:Str→Option Value) (x:Str) (u:Value):Prop:=
 (env.kindOf x=some .local∧m x=some u)∨((env.kindOf x=some .cell∨env.kindOf x=some .free)∧∃ c,env.cells.lookup x=some c∧h.IsCell c (some u))
structure Cx.Ok (X:Cx):Prop where
 mod:Mod X.K X.mg X.base
 kind:X.env.scope.kind=.function
 glob:X.env.globals=mainGlobals
 blt:X.env.builtins=builtinsNs
 above:X.s₀.heap.objs.size≤X.env.locals
 inj:∀ x y c,X.env.cells.lookup x=some c→X.env.cells.lookup y=some c→x=y
 has:∀ x,(X.env.kindOf x=some .cell∨X.env.kindOf x=some .free)→∃ c,X.env.cells.lookup x=some c
 cab:∀ x c,X.fn x=true→X.env.cells.lookup x=some c→X.s₀.heap.objs.size≤c
 hd:X.calm=true→X.A.handled=none
 frames:X.A.frames=some X.stack
 stk:X.stack=X.outer∨(X.stack=X.env :: X.outer∧X.env.frame=some X.env.locals)
 exf:∀ b∈X.ex,b≠X.env.locals∧∀ x c,X.env.cells.lookup x=some c→c≠b
 bs:∀ b o,X.base.get? b=some o→X.s₀.heap.get? b=some o∧X.H₀ b=none
 bsz:X.base.objs.size≤X.s₀.heap.objs.size
 noex:∀ b o,X.base.get? b=some o→b ∉ X.ex
 exfs:∀ b∈X.ex,b ∉ X.fs
 funs:X.s₀.heap.FunFrames X.base X.outer
 frf:∀ b∈X.fs,X.H₀ b=none
structure Inv (X:Cx) (pins:List (Addr×Obj)) (σ:List (Option V)) (H:Hp) (s:Shared):Prop where
 ok:X.Ok
 os:s.os=X.s₀.os
 bare:AllBare s.gens
 base:Un X.fs X.ex X.H₀ H X.s₀.heap s.heap
 loc:∃ m,s.heap.Ns X.env.locals m∧∀ (i:Nat) (x:Str) (v:V),X.N[i]?=some x→σ[i]?=some (some v)→Vis X.env.scope x→∃ u,RelV v u∧jhg X.env s.heap m x u
 cell:∀ x c,X.env.cells.lookup x=some c→∃ v,s.heap.IsCell c v
 free:H X.env.locals=none
 freeC:∀ x c,X.env.cells.lookup x=some c→H c=none
 pin:∀ p∈X.pn++pins,s.heap.get? p.1=some p.2∧H p.1=none∧p.1≠X.env.locals∧p.1 ∉ X.fs∧∀ v,p.2.data≠.cell v
 hok:HOk X.prog X.w H s.heap
 len:σ.length=X.N.length
section
variable {X:Cx} {pins:List (Addr×Obj)} {σ:List (Option V)} {H H':Hp} {s:Shared} {h':Heap}
theorem Cx.Ok.nofr (ok:X.Ok) {b:Addr} {o:Obj} (e:X.base.get? b=some o):b ∉ X.fs:=fun hb=>by
 have:=(ok.funs.mem hb).1
 rw [e] at this;cases this
theorem Inv.bs (I:Inv X pins σ H s):∀ b o,X.base.get? b=some o→s.heap.get? b=some o∧H b=none:=fun b o e=>
 ⟨I.base.keep b o (I.ok.bs b o e).1 (I.ok.bs b o e).2 (I.ok.nofr e) (I.ok.noex b o e),I.base.free b o (I.ok.bs b o e).1 (I.ok.bs b o e).2 (I.ok.noex b o e)⟩
theorem Inv.bk (I:Inv X pins σ H s):∀ b o,X.base.get? b=some o→s.heap.get? b=some o:=fun b o e=>(I.bs b o e).1
theorem Inv.mod (I:Inv X pins σ H s):Mod X.K X.mg X.base:=I.ok.mod
theorem Inv.kIn (I:Inv X pins σ H s):X.K.In s.heap:=I.ok.mod.kin.keeps I.bk
theorem Inv.nolimit (I:Inv X pins σ H s):s.heap.NoLimit:=I.ok.mod.nolimit.keeps I.bk
theorem Inv.fr (I:Inv X pins σ H s):∃ m,Fr X.base X.env.locals s.heap m:=
 let ⟨m,hn,_⟩:=I.loc
 ⟨m,hn,I.bk,Nat.le_trans I.ok.bsz I.ok.above⟩
theorem Inv.lt (I:Inv X pins σ H s):X.env.locals < s.heap.objs.size:=let ⟨_,hn,_⟩:=I.loc;hn.lt
theorem Inv.sz (I:Inv X pins σ H s):X.s₀.heap.objs.size≤s.heap.objs.size:=Nat.le_trans I.ok.above (Nat.le_of_lt I.lt)
theorem Inv.nofs (I:Inv X pins σ H s) {a:Addr} (h:s.heap.objs.size≤a):a ∉ X.fs:=fun hb=>by
 obtain ⟨_,o,ho,_⟩:=I.ok.funs.mem hb
 exact absurd (Nat.lt_of_lt_of_le (Heap.lt_size ho) (Nat.le_trans I.sz h)) (Nat.lt_irrefl _)
theorem Inv.cne (I:Inv X pins σ H s):∀ x c,X.env.cells.lookup x=some c→c≠X.env.locals:=fun x c e z=>by
 obtain ⟨v,o,ho,hd⟩:=I.cell x c e
 obtain ⟨m,⟨o',es,ep,ho',hd',_⟩,_⟩:=I.loc
 rw [z,ho'] at ho;cases ho;rw [hd'] at hd;cases hd
theorem Inv.funs (I:Inv X pins σ H s):s.heap.FunFrames X.base X.outer:=by
 have all:∀ (l:List Env),(∀ b∈frs l,b∈X.fs)→X.s₀.heap.FunFrames X.base l→s.heap.FunFrames X.base l:=by
  intro l
  induction l with
  | nil=>intro _ _;trivial
  | cons env r ih=>
   intro hs hl
   obtain ⟨hk,⟨L,o,hf,hn,ho,hd⟩,hr⟩:=hl
   have hL:L∈X.fs:=hs L (by unfold frs;rw [List.filterMap_cons,hf];exact List.mem_cons_self)
   obtain ⟨sl,e⟩:=I.base.slot L o ho (I.ok.frf L hL) hL fun z=>I.ok.exfs L z hL
   exact ⟨hk,⟨L,_,hf,hn,e,hd⟩,ih (fun b hb=>hs b (by unfold frs;rw [List.filterMap_cons,hf];exact List.mem_cons_of_mem _ hb)) hr⟩
 exact all X.outer (fun _ hb=>hb) I.ok.funs
theorem Inv.stack (I:Inv X pins σ H s):s.heap.FunFrames X.base X.stack:=by
 rcases I.ok.stk with e | ⟨e,hf⟩
 ·rw [e];exact I.funs
 ·rw [e]
  obtain ⟨m,hn,_⟩:=I.loc
  refine .cons (by rw [I.ok.kind];decide) hf hn ?_ I.funs
  exact Heap.get?_none_of_le (Nat.le_trans I.ok.bsz I.ok.above)
theorem Inv.stkSub (I:Inv X pins σ H s):∀ b∈frs X.stack,b∈X.env.locals :: X.fs:=fun b hb=>by
 rcases I.ok.stk with e | ⟨e,hf⟩
 ·rw [e] at hb;exact List.mem_cons_of_mem _ hb
 ·rw [e] at hb
  unfold frs at hb
  rw [List.filterMap_cons,hf] at hb
  exact hb
theorem Inv.stkFree (I:Inv X pins σ H s):∀ b∈frs X.stack,H b=none:=fun b hb=>by
 rcases List.mem_cons.mp (I.stkSub b hb) with e | hb
 ·rw [e];exact I.free
 ·obtain ⟨_,o,ho,_⟩:=I.ok.funs.mem hb
  exact I.base.free b o ho (I.ok.frf b hb) fun z=>I.ok.exfs b z hb
theorem Inv.step {g':Array GenState} {t':Nat} {d':Drawn} {ch:List Addr} (I:Inv X pins σ H s)
  (hch:∀ b∈ch,(b∈X.ex∨X.s₀.heap.objs.size≤b)∧b≠X.env.locals∧(∀ x c,X.env.cells.lookup x=some c→c≠b)∧∀ p∈X.pn++pins,p.1≠b)
  (keep:∀ b o,b≠X.env.locals→b ∉ X.fs→b ∉ ch→s.heap.get? b=some o→H b=none→h'.get? b=some o)
  (slot:∀ b o,b≠X.env.locals→b∈X.fs→b ∉ ch→s.heap.get? b=some o→H b=none→∃ sl,h'.get? b=some { o with slots:=sl }) (free:∀ b o,b ∉ ch→s.heap.get? b=some o→H b=none→H' b=none)
  (there:∀ b o,b ∉ ch→s.heap.get? b=some o→∃ o',h'.get? b=some o')
  (tups:∀ b xs,H b=some (.tup xs)→H' b=some (.tup xs)) (frzs:∀ b o u,H b=some (.frz o u)→H' b=some (.frz o u)) (tbls:∀ b ps,H b=some (.tbl ps)→∃ more,H' b=some (.tbl (ps++more)))
  (ns:∀ m,s.heap.Ns X.env.locals m→h'.Ns X.env.locals m) (hok:HOk X.prog X.w H' h') (hg:AllBare g') :
  Inv X pins σ H' { s with heap:=h',gens:=g',drawn:=d',toks:=t' }:=by
 have neL:∀ b o,X.s₀.heap.get? b=some o→b≠X.env.locals:=fun b o e=>Nat.ne_of_lt (Nat.lt_of_lt_of_le (Heap.lt_size e) I.ok.above)
 have neC:∀ b o,X.s₀.heap.get? b=some o→b ∉ X.ex→b ∉ ch:=fun b o e hx hb=>by
  rcases (hch b hb).1 with z | z
  ·exact hx z
  ·exact absurd (Nat.lt_of_lt_of_le (Heap.lt_size e) z) (Nat.lt_irrefl _)
 have cellK:∀ x c,X.env.cells.lookup x=some c→∀ v,s.heap.IsCell c v→h'.IsCell c v:=fun x c e v ⟨o,ho,hd⟩=>by
  have nch:c ∉ ch:=fun z=>(hch c z).2.2.1 x c e rfl
  by_cases hc:c∈X.fs
  ·obtain ⟨sl,q⟩:=slot c o (I.cne x c e) hc nch ho (I.freeC x c e)
   exact ⟨_,q,hd⟩
  ·exact ⟨o,keep c o (I.cne x c e) hc nch ho (I.freeC x c e),hd⟩
 refine ⟨I.ok,I.os,hg,⟨fun b o e n hb hx=>?_,fun b o e n hb hx=>?_,fun b o e n hx=>?_,fun b o e hx=>?_,fun b xs e=>tups b xs (I.base.tups b xs e),fun b o xs e=>frzs b o xs (I.base.frzs b o xs e),fun b ps e=>?_⟩,?_,fun x c e=>?_,?_,fun x c e=>?_,fun p hp=>?_,hok,I.len⟩
 ·exact keep b o (neL b o e) hb (neC b o e hx) (I.base.keep b o e n hb hx) (I.base.free b o e n hx)
 ·obtain ⟨sl,e1⟩:=I.base.slot b o e n hb hx
  obtain ⟨sl',e2⟩:=slot b _ (neL b o e) hb (neC b o e hx) e1 (I.base.free b o e n hx)
  exact ⟨sl',e2⟩
 ·obtain ⟨o',e1⟩:=I.base.there b o e hx
  exact free b o' (neC b o e hx) e1 (I.base.free b o e n hx)
 ·obtain ⟨o',e1⟩:=I.base.there b o e hx
  exact there b o' (neC b o e hx) e1
 ·obtain ⟨m1,e1⟩:=I.base.tbls b ps e
  obtain ⟨m2,e2⟩:=tbls b _ e1
  exact ⟨m1++m2,by rw [e2,Array.append_assoc]⟩
 ·obtain ⟨m,hn,hl⟩:=I.loc
  refine ⟨m,ns m hn,fun i x v e1 e2 e3=>?_⟩
  obtain ⟨u,r,l⟩:=hl i x v e1 e2 e3
  refine ⟨u,r,?_⟩
  rcases l with l | ⟨k,c,e,z⟩
  ·exact .inl l
  ·exact .inr ⟨k,c,e,cellK x c e _ z⟩
 ·obtain ⟨v,z⟩:=I.cell x c e
  exact ⟨v,cellK x c e v z⟩
 ·obtain ⟨m,⟨o,_,_,ho,_⟩,_⟩:=I.loc
  exact free _ o (fun z=>(hch _ z).2.1 rfl) ho I.free
 ·obtain ⟨v,o,ho,hd⟩:=I.cell x c e
  exact free c o (fun z=>(hch c z).2.2.1 x c e rfl) ho (I.freeC x c e)
 ·obtain ⟨e,n,ne,nf,d⟩:=I.pin p hp
  have nch:p.1 ∉ ch:=fun z=>(hch p.1 z).2.2.2 p hp rfl
  exact ⟨keep p.1 p.2 ne nf nch e n,free p.1 p.2 nch e n,ne,nf,d⟩
theorem Inv.un {t':Nat} (I:Inv X pins σ H s) (u:Un X.fs [] H H' s.heap h') (hok:HOk X.prog X.w H' h'):Inv X pins σ H' { s with heap:=h',toks:=t' }:=by
 obtain ⟨m,⟨o,es,ep,ho,r⟩,_⟩:=id I.loc
 obtain ⟨sl,hL⟩:=u.any ho I.free (by simp)
 exact I.step (g':=s.gens) (d':=s.drawn) (ch:=[]) (fun _ z=>nomatch z) (fun b o _ hb _ e n=>u.keep b o e n hb (by simp)) (fun b o _ hb _ e n=>u.slot b o e n hb (by simp)) (fun b o _ e n=>u.free b o e n (by simp)) (fun b o _ e=>u.there b o e (by simp)) u.tups u.frzs u.tbls (fun m' hm=>by
  obtain ⟨o',es',ep',ho',r'⟩:=hm
  rw [ho] at ho';cases ho'
  exact ⟨_,es',ep',hL,r'⟩) hok I.bare
theorem Inv.call {g':Array GenState} {t':Nat} {d':Drawn} {ch:List Addr} (I:Inv X pins σ H s) (u:Un (frs X.stack) ch H H' s.heap h') (hok:HOk X.prog X.w H' h') (hg:AllBare g')
  (hch:∀ b∈ch,(b∈X.ex∨X.s₀.heap.objs.size≤b)∧b≠X.env.locals∧(∀ x c,X.env.cells.lookup x=some c→c≠b)∧∀ p∈X.pn++pins,p.1≠b) :
  Inv X pins σ H' { s with heap:=h',gens:=g',drawn:=d',toks:=t' }:=by
 obtain ⟨m,⟨o,es,ep,ho,r⟩,_⟩:=id I.loc
 obtain ⟨sl,hL⟩:=u.any ho I.free fun z=>(hch _ z).2.1 rfl
 exact I.step (ch:=ch) hch (fun b o hL hb hc e n=>u.keep b o e n (fun z=>(List.mem_cons.mp (I.stkSub b z)).elim hL hb) hc) (fun b o _ _ hc e n=>u.any e n hc) (fun b o hc e n=>u.free b o e n hc) (fun b o hc e=>u.there b o e hc) u.tups u.frzs u.tbls (fun m' hm=>by
  obtain ⟨o',es',ep',ho',r'⟩:=hm
  rw [ho] at ho';cases ho'
  exact ⟨_,es',ep',hL,r'⟩) hok hg
theorem Inv.turned {t':Nat} {it:Addr} (I:Inv X pins σ H s) (k:∀ b o,b≠it→s.heap.get? b=some o→h'.get? b=some o) (hn:H it=none) (hL:it≠X.env.locals)
  (h1:it∈X.ex∨X.s₀.heap.objs.size≤it) (h2:∀ x c,X.env.cells.lookup x=some c→c≠it) (h3:∀ p∈X.pn++pins,p.1≠it):Inv X pins σ H { s with heap:=h',toks:=t' }:=by
 have nit:∀ b u,H b=some u→b≠it:=fun b u e z=>by rw [z,hn] at e;cases e
 refine I.step (g':=s.gens) (d':=s.drawn) (ch:=[it]) (fun b hb=>?_) (fun b o _ _ hc e _=>k b o (fun z=>hc (by simp [z])) e) (fun b o _ _ hc e _=>⟨o.slots,k b o (fun z=>hc (by simp [z])) e⟩) (fun _ _ _ _ n=>n)
  (fun b o hc e=>⟨o,k b o (fun z=>hc (by simp [z])) e⟩) (fun _ _ e=>e) (fun _ _ _ e=>e) (fun b ps e=>⟨#[],by rw [e];simp⟩) (fun m hm=>?_) (fun b u e=>?_) I.bare
 ·have e:b=it:=by simpa using hb
  subst e
  exact ⟨h1,hL,h2,h3⟩
 ·obtain ⟨o,es,ep,ho,r⟩:=hm
  exact ⟨o,es,ep,k _ o (Ne.symm hL) ho,r⟩
 ·refine (I.hok b u e).stay (fun c v hc q=>k c v ?_ q) (fun _ q=>q) fun _ _ q=>q
  rcases hc with z | z
  ·rw [z];exact nit b u e
  ·exact nit c _ z
theorem Inv.tok (I:Inv X pins σ H s) (t:Nat):Inv X pins σ H { s with toks:=t }:=I.un (h':=s.heap) (t':=t) Un.refl I.hok
theorem Inv.kept {t':Nat} (I:Inv X pins σ H s) (k:∀ b u,s.heap.get? b=some u→h'.get? b=some u):Inv X pins σ H { s with heap:=h',toks:=t' }:=I.un (Un.kept k) (I.hok.kept k)
theorem Inv.laid {a:Addr} {o:HO} {t':Nat} (I:Inv X pins σ H s) (k:∀ b u,s.heap.get? b=some u→h'.get? b=some u) (hp:s.heap.objs.size≤a) (new:ObjOk X.prog X.w (upd H a o) h' a o) :
  Inv X pins σ (upd H a o) { s with heap:=h',toks:=t' }:=I.un (Un.laid k hp (I.hok.fresh hp)) (I.hok.laid k hp new)
theorem Inv.write {x e:Addr} {o:HO} {t':Nat} (I:Inv X pins σ H s) (mu:Mut (H x)) (he:e=x∨H e=some (.own x)) (k:∀ b u,b≠e→s.heap.get? b=some u→h'.get? b=some u) (heo:∃ u,h'.get? e=some u)
  (new:ObjOk X.prog X.w (upd H x o) h' x o):Inv X pins σ (upd H x o) { s with heap:=h',toks:=t' }:=I.un (Un.write mu he k heo) (I.hok.write mu he k heo new)
theorem Inv.pins_of {pins':List (Addr×Obj)} (I:Inv X pins σ H s) (h:∀ p∈pins',s.heap.get? p.1=some p.2∧H p.1=none∧p.1≠X.env.locals∧p.1 ∉ X.fs∧∀ v,p.2.data≠.cell v):Inv X pins' σ H s:=
 ⟨I.ok,I.os,I.bare,I.base,I.loc,I.cell,I.free,I.freeC,fun p hp=>(List.mem_append.mp hp).elim (fun z=>I.pin p (List.mem_append_left _ z)) (h p),I.hok,I.len⟩
theorem Zd {N:List Str} (hN:N.Nodup) {i j:Nat} {x:Str} (a:N[i]?=some x) (b:N[j]?=some x):i=j:=by
 obtain ⟨h1,e1⟩:=List.getElem?_eq_some_iff.mp a
 obtain ⟨h2,e2⟩:=List.getElem?_eq_some_iff.mp b
 exact (List.getElem_inj hN).mp (e1.trans e2.symm)
theorem Kz {M:Model} {A:Around} {E:Value→Shared→Prop} {i:Nat} {x:Str} {v:V} {u:Value} {Q:Unit→Shared→Prop} (I:Inv X pins σ H s) (hN:X.N.Nodup) (hi:X.N[i]?=some x) (hx:Loc X.env.scope x) (r:RelV v u)
  (h:∀ s',Inv X pins (σ.set i (some v)) H s'→(∃ a,Heap.SameBut a s.heap s'.heap∧(a=X.env.locals∨X.env.cells.lookup x=some a))→Q () s') (hf:X.fn x=true∨X.env.scope.names.lookup x=some .local:=by first | exact .inl rfl | exact .inr rfl | assumption):wpAny M A (storeName X.env x u) Q E s:=by
 obtain ⟨m,hn,hl⟩:=id I.loc
 have hcls:(X.env.scope.kind == .class || (X.env.scope.kind == .module && X.env.locals != X.env.globals))=false:=by rw [I.ok.kind];rfl
 have hiσ:i < σ.length:=by rw [I.len];exact (List.getElem?_eq_some_iff.mp hi).1
 have cne:=I.cne
 have tracked:∀ {a:Addr} {h':Heap},(∃ o,s.heap.get? a=some o∧H a=none)→Heap.SameBut a s.heap h'→HOk X.prog X.w H h':=fun {a h'} ha hs b ob e=>by
  obtain ⟨_,_,hfree⟩:=ha
  refine (I.hok b ob e).stay (fun c w' hc q=>(hs.2 c ?_).trans q) (fun _ q=>q) fun _ _ q=>q
  rintro rfl
  rcases hc with rfl | hc
  ·rw [hfree] at e;cases e
  ·rw [hfree] at hc;cases hc
 rcases hx with hk | hk
 ·refine wpAny_storeName_local hk hn (fun h' hn' hs=>?_) hcls
  obtain ⟨oL,_,_,hoL,_⟩:=id hn
  refine h _ ⟨I.ok,I.os,I.bare,⟨fun b o e n hb hx=>?_,fun b o e n hb hx=>?_,I.base.free,fun b o e hx=>?_,I.base.tups,I.base.frzs,I.base.tbls⟩,⟨_,hn',fun j y v' e1 e2 e3=>?_⟩,fun y c e=>?_,I.free,I.freeC,fun p hp=>?_,tracked ⟨oL,hoL,I.free⟩ hs,by simpa using I.len⟩ ⟨_,hs,.inl rfl⟩
  ·exact (hs.2 b (Nat.ne_of_lt (Nat.lt_of_lt_of_le (Heap.lt_size e) I.ok.above))).trans (I.base.keep b o e n hb hx)
  ·obtain ⟨sl,e1⟩:=I.base.slot b o e n hb hx
   exact ⟨sl,(hs.2 b (Nat.ne_of_lt (Nat.lt_of_lt_of_le (Heap.lt_size e) I.ok.above))).trans e1⟩
  ·obtain ⟨o',e1⟩:=I.base.there b o e hx
   exact ⟨o',(hs.2 b (Nat.ne_of_lt (Nat.lt_of_lt_of_le (Heap.lt_size e) I.ok.above))).trans e1⟩
  ·by_cases hj:j=i
   ·subst hj
    rw [hi] at e1;cases e1
    rw [List.getElem?_set_self hiσ] at e2
    cases e2
    exact ⟨u,r,.inl ⟨hk,by simp⟩⟩
   ·rw [List.getElem?_set_ne (Ne.symm hj)] at e2
    obtain ⟨u',r',q⟩:=hl j y v' e1 e2 e3
    refine ⟨u',r',?_⟩
    rcases q with ⟨k,e⟩ | ⟨k,c,e,z⟩
    ·refine .inl ⟨k,?_⟩
     have:y≠x:=fun e=>hj (Zd hN e1 (e ▸ hi))
     simp [this,e]
    ·exact .inr ⟨k,c,e,z.sameBut hs (cne y c e)⟩
  ·obtain ⟨w',z⟩:=I.cell y c e
   exact ⟨w',z.sameBut hs (cne y c e)⟩
  ·obtain ⟨e,n,ne,nf,d⟩:=I.pin p hp
   exact ⟨(hs.2 p.1 ne).trans e,n,ne,nf,d⟩
 ·have hfn:X.fn x=true:=by
   rcases hf with z | z
   ·exact z
   ·rw [z] at hk;cases hk
  obtain ⟨c,hc⟩:=I.ok.has x (.inl hk)
  obtain ⟨w',z⟩:=I.cell x c hc
  refine wpAny_storeName_cell I.ok.kind hk hc z (fun h' hc' hs=>?_)
  obtain ⟨oc,hoc,hocd⟩:=id z
  refine h { s with heap:=h' } ⟨I.ok,I.os,I.bare,⟨fun b o e n hb hx=>?_,fun b o e n hb hx=>?_,I.base.free,fun b o e hx=>?_,I.base.tups,I.base.frzs,I.base.tbls⟩,⟨m,hn.sameBut hs (Ne.symm (cne x c hc)),fun j y v' e1 e2 e3=>?_⟩,fun y c' e=>?_,I.free,I.freeC,fun p hp=>?_,tracked ⟨oc,hoc,I.freeC x c hc⟩ hs,by simpa using I.len⟩ ⟨c,hs,.inr hc⟩
  ·exact (hs.2 b (Nat.ne_of_lt (Nat.lt_of_lt_of_le (Heap.lt_size e) (I.ok.cab x c hfn hc)))).trans (I.base.keep b o e n hb hx)
  ·obtain ⟨sl,e1⟩:=I.base.slot b o e n hb hx
   exact ⟨sl,(hs.2 b (Nat.ne_of_lt (Nat.lt_of_lt_of_le (Heap.lt_size e) (I.ok.cab x c hfn hc)))).trans e1⟩
  ·obtain ⟨o',e1⟩:=I.base.there b o e hx
   exact ⟨o',(hs.2 b (Nat.ne_of_lt (Nat.lt_of_lt_of_le (Heap.lt_size e) (I.ok.cab x c hfn hc)))).trans e1⟩
  ·by_cases hj:j=i
   ·subst hj
    rw [hi] at e1;cases e1
    rw [List.getElem?_set_self hiσ] at e2
    cases e2
    exact ⟨u,r,.inr ⟨.inl hk,c,hc,hc'⟩⟩
   ·rw [List.getElem?_set_ne (Ne.symm hj)] at e2
    obtain ⟨u',r',q⟩:=hl j y v' e1 e2 e3
    refine ⟨u',r',?_⟩
    rcases q with q | ⟨k,c',e,z'⟩
    ·exact .inl q
    ·refine .inr ⟨k,c',e,z'.sameBut hs ?_⟩
     rintro rfl
     exact hj (Zd hN e1 (I.ok.inj _ _ _ e hc ▸ hi))
  ·by_cases hcc:c'=c
   ·subst hcc;exact ⟨_,hc'⟩
   ·obtain ⟨w2,z2⟩:=I.cell y c' e
    exact ⟨w2,z2.sameBut hs hcc⟩
  ·obtain ⟨e,n,ne,nf,d⟩:=I.pin p hp
   refine ⟨(hs.2 p.1 ?_).trans e,n,ne,nf,d⟩
   intro q
   rw [q,hoc] at e
   have q':oc=p.2:=Option.some.inj e
   exact d w' (by rw [← q'];exact hocd)
theorem zK {M:Model} {A:Around} {E:Value→Shared→Prop} {i:Nat} {x:Str} {v:V} {u:Value} {Q:Unit→Shared→Prop} (I:Inv X pins σ H s) (hN:X.N.Nodup) (hi:X.N[i]?=some x) (hx:Loc X.env.scope x) (r:RelV v u)
  (h:∀ s',Inv X pins (σ.set i (some v)) H s'→Q () s') (hf:X.fn x=true∨X.env.scope.names.lookup x=some .local:=by first | exact .inl rfl | exact .inr rfl | assumption):wpAny M A (storeName X.env x u) Q E s:=
 Kz I hN hi hx r (fun s' I' _=>h s' I') hf
theorem Inv.call' {s':Shared} {ch:List Addr} (I:Inv X pins σ H s) (ho:s'.os=s.os) (u:Un (frs X.stack) ch H H' s.heap s'.heap) (hok:HOk X.prog X.w H' s'.heap) (hg:AllBare s'.gens)
  (hch:∀ b∈ch,(b∈X.ex∨X.s₀.heap.objs.size≤b)∧b≠X.env.locals∧(∀ x c,X.env.cells.lookup x=some c→c≠b)∧∀ p∈X.pn++pins,p.1≠b):Inv X pins σ H' s':=by
 obtain ⟨h',g',d',t',o'⟩:=s'
 have e:o'=s.os:=ho
 subst e
 exact I.call (g':=g') (t':=t') (d':=d') u hok hg hch
end
abbrev XK:=Value→Option Addr→Hp→Prop
abbrev St:=List (Option V)
abbrev VK:=V→Hp→Prop
abbrev TE:=St→Hp→VK→Prop
abbrev TT:=St→Hp→(Bool→Hp→Prop)→Prop
abbrev TA:=St→Hp→(List V→Hp→Prop)→Prop
structure Ends where
 nx:St→Hp→Prop
 rt:VK
 bk:St→Hp→Prop:=fun _ _=>False
 ct:St→Hp→Prop:=fun _ _=>False
abbrev TS:=Ends→St→Hp→Prop
def EP (X:Cx) (pins:List (Addr×Obj)) (σ:St) (Q:VK) (u:Value) (s':Shared):Prop:=∃ v H',Inv X pins σ H' s'∧RelV v u∧Q v H'
def TP (X:Cx) (pins:List (Addr×Obj)) (σ:St) (Q:Bool→Hp→Prop) (b:Bool) (s':Shared):Prop:=∃ H',Inv X pins σ H' s'∧Q b H'
def AP (X:Cx) (pins:List (Addr×Obj)) (σ:St) (Q:List V→Hp→Prop) (us:List Value) (s':Shared):Prop:=∃ vs H',Inv X pins σ H' s'∧Vals vs us∧Q vs H'
def SP (X:Cx) (pins:List (Addr×Obj)) (D:Ends) (f:Flow) (s':Shared):Prop:=
 match f with
 | .next=>∃ σ' H',Inv X pins σ' H' s'∧D.nx σ' H'
 | .brk=>∃ σ' H',Inv X pins σ' H' s'∧D.bk σ' H'
 | .cont=>∃ σ' H',Inv X pins σ' H' s'∧D.ct σ' H'
 | .ret u=>∃ v σ' H',Inv X pins σ' H' s'∧RelV v u∧D.rt v H'
def PE (X:Cx) (e:Expr) (t:TE):Prop:=
 ∀ (pins:List (Addr×Obj)) (s:Shared) (σ:St) (H:Hp) (Q:VK),Inv X pins σ H s→t σ H Q→wpAny (model X.prog X.w) X.A (eval e X.env) (EP X pins σ Q) X.xe s
def PT (X:Cx) (e:Expr) (t:TT):Prop:=
 ∀ (pins:List (Addr×Obj)) (s:Shared) (σ:St) (H:Hp) (Q:Bool→Hp→Prop),Inv X pins σ H s→t σ H Q→wpAny (model X.prog X.w) X.A (isTrue e X.env (eval e X.env)) (TP X pins σ Q) X.xe s
def PW (X:Cx) (e:Expr) (t:TT):Prop:=
 ∀ (whole:Sem Value) (pins:List (Addr×Obj)) (s:Shared) (σ:St) (H:Hp) (Q:Bool→Hp→Prop),Inv X pins σ H s→t σ H Q→wpAny (model X.prog X.w) X.A (isTrue e X.env whole) (TP X pins σ Q) X.xe s
theorem PW.pt {X:Cx} {e:Expr} {t:TT} (h:PW X e t):PT X e t:=h _
def PA (X:Cx) (es:List Expr) (t:TA):Prop:=
 ∀ (pos:Pos) (pins:List (Addr×Obj)) (s:Shared) (σ:St) (H:Hp) (Q:List V→Hp→Prop),Inv X pins σ H s→t σ H Q→wpAny (model X.prog X.w) X.A (spliced (backTo pos (starEach es X.env))) (AP X pins σ Q) X.xe s
def PS (X:Cx) (st:Stmt) (t:TS):Prop:=
 ∀ (pins:List (Addr×Obj)) (s:Shared) (σ:St) (H:Hp) (D:Ends),Inv X pins σ H s→t D σ H→wpAny (model X.prog X.w) X.A (exec st X.env) (SP X pins D) X.xe s
def PSs (X:Cx) (st:List Stmt) (t:TS):Prop:=
 ∀ (pins:List (Addr×Obj)) (s:Shared) (σ:St) (H:Hp) (D:Ends),Inv X pins σ H s→t D σ H→wpAny (model X.prog X.w) X.A (execs st X.env) (SP X pins D) X.xe s
theorem thn {α:Type} {t:Sem α} {Q Q':α→Shared→Prop} {M:Model} {A:Around} {E:Value→Shared→Prop} {s:Shared} (h:wpAny M A t Q E s) (hQ:∀ a s,Q a s→Q' a s):wpAny M A t Q' E s:=wpAny_mono h hQ fun _ _ x=>x
section
variable {X:Cx}
theorem bin {a b:Expr} {ta tb:TE} (ha:PE X a ta) (hb:PE X b tb) {pins:List (Addr×Obj)} {s:Shared} {σ:St} {H:Hp} {R:V→V→Hp→Prop} (I:Inv X pins σ H s) (h:ta σ H fun x H1=>tb σ H1 fun y H2=>R x y H2)
  {α:Type} {Q:α→Shared→Prop} {f:Value→Value→Sem α}
  (hf:∀ v u s2 x y H2,Inv X pins σ H2 s2→RelV x v→RelV y u→R x y H2→wpAny (model X.prog X.w) X.A (f v u) Q X.xe s2) :
  wpAny (model X.prog X.w) X.A (eval a X.env) (fun v s₁=>wpAny (model X.prog X.w) X.A (eval b X.env) (fun u s₂=>wpAny (model X.prog X.w) X.A (f v u) Q X.xe s₂) X.xe s₁) X.xe s:=by
 refine thn (ha pins s σ H _ I h) fun v s1 ⟨x,H1,I1,r1,q1⟩=>?_
 refine thn (hb pins s1 σ H1 _ I1 q1) fun u s2 ⟨y,H2,I2,r2,q2⟩=>?_
 exact hf v u s2 x y H2 I2 r1 r2 q2
def jft (i:Nat):TE:=fun σ H Q=>∃ v,σ[i]?=some (some v)∧Q v H
def tC (v:V):TE:=fun _ H Q=>Q v H
theorem jcP {i:Nat} {x:Str} {pos:Pos} (hN:X.N[i]?=some x) (hv:Vis X.env.scope x) (hd:(x == ("__debug__" : Str))=false:=by decide) (hcd:(x == ("__classdict__" : Str))=false:=by decide):PE X (.Name x pos) (jft i):=by
 intro pins s σ H Q I h
 obtain ⟨v,e,h⟩:=h
 obtain ⟨m,hn,hl⟩:=I.loc
 obtain ⟨u,r,l⟩:=hl i x v hN e hv
 have fin:EP X pins σ Q u s:=⟨v,H,I,r,h⟩
 rcases l with ⟨hk,hm⟩ | ⟨hk,c,hc,hcell⟩
 ·exact wpAny_Name (wpAny_loadName_local I.ok.kind hk hn hm fin) hd
 ·rcases hk with hk | hk
  ·exact wpAny_Name (wpAny_loadName_cell I.ok.kind hk hc hcell fin) hd
  ·exact wpAny_Name (wpAny_loadName_free I.ok.kind hk hc hcell fin hcd) hd
theorem jcU {i j pos}:PE X (.Constant (.int i) j pos) (tC (.int i)):=fun _ _ _ H _ I h=>wpAny_Constant_int ⟨.int i,H,I.tok _,⟨_,rfl⟩,h⟩
theorem jcR {x j pos}:PE X (.Constant (.str x) j pos) (tC (.str x)):=fun _ _ _ H _ I h=>Calls.Constant_str ⟨.str x,H,I.tok _,⟨_,rfl⟩,h⟩
def Gl (X:Cx) (x:Str):Prop:=X.env.kindOf x=some .globalImplicit
theorem YA {E:Value→Shared→Prop} {pins:List (Addr×Obj)} {s:Shared} {σ:St} {H:Hp} {x:Str} {u:Value} {pos:Pos} {Q:Value→Shared→Prop} (I:Inv X pins σ H s) (hg:Gl X x) (hm:X.mg x=some u) (h:Q u s)
  (hd:(x == ("__debug__" : Str))=false:=by decide):wpAny (model X.prog X.w) X.A (eval (.Name x pos) X.env) Q E s:=
 Calls.Name_function_global I.ok.kind hg (Calls.loadGlobal_global (by rw [I.ok.glob];exact I.mod.glob.keeps I.bk) hm h) hd
theorem zx {E:Value→Shared→Prop} {pins:List (Addr×Obj)} {s:Shared} {σ:St} {H:Hp} {x:Str} {u:Value} {pos:Pos} {Q:Value→Shared→Prop} (I:Inv X pins σ H s) (hg:Gl X x) (hm:X.mg x=none) (hv:bootBuiltins x=some u) (h:Q u s)
  (hn:x≠"__name__":=by decide) (hd:(x == ("__debug__" : Str))=false:=by decide):wpAny (model X.prog X.w) X.A (eval (.Name x pos) X.env) Q E s:=by
 obtain ⟨mb,h1,h2⟩:=I.mod.blt
 exact Calls.Name_function_global I.ok.kind hg (Calls.loadGlobal_builtin (by rw [I.ok.glob];exact I.mod.glob.keeps I.bk) hm (by rw [I.ok.blt];exact h1.keeps I.bk) ((h2 x hn).trans hv) h) hd
theorem jew {x:Str} {v:V} {u:Value} {pos:Pos} (hg:Gl X x) (hm:X.mg x=some u) (r:RelV v u) (hd:(x == ("__debug__" : Str))=false:=by decide):PE X (.Name x pos) (tC v):=
 fun _ _ _ H _ I h=>YA I hg hm ⟨v,H,I,r,h⟩ hd
theorem jeC {x:Str} {v:V} {u:Value} {pos:Pos} (hg:Gl X x) (hm:X.mg x=none) (hv:bootBuiltins x=some u) (r:RelV v u) (hn:x≠"__name__":=by decide) (hd:(x == ("__debug__" : Str))=false:=by decide):PE X (.Name x pos) (tC v):=
 fun _ _ _ H _ I h=>zx I hg hm hv ⟨v,H,I,r,h⟩ hn hd
variable {a b:Expr} {ta tb:TE} {pos:Pos}
def PC (X:Cx) (op:CmpOp) (a b:Expr) (t:TE):Prop:=
 ∀ (pins:List (Addr×Obj)) (s:Shared) (σ:St) (H:Hp) (Q:VK),Inv X pins σ H s→t σ H Q→
  wpAny (model X.prog X.w) X.A (eval a X.env) (fun v s₁=>wpAny (model X.prog X.w) X.A (eval b X.env) (fun u s₂=>wpAny (model X.prog X.w) X.A (compareOp op v u) (EP X pins σ Q) X.xe s₂) X.xe s₁) X.xe s
theorem jdp (b:Expr) {op:CmpOp} (h:op≠.In) (h2:op≠.NotIn):behindInMarks op b=false:=by
 have e1:(op == CmpOp.In)=false:=by cases op <;> first | rfl | exact absurd rfl h
 have e2:(op == CmpOp.NotIn)=false:=by cases op <;> first | rfl | exact absurd rfl h2
 cases b <;> simp [behindInMarks,e1,e2]
def tB (t:TE):TT:=fun σ H Q=>t σ H fun x H1=>∃ c,x=.bl c∧Q c H1
theorem jg9 {op:CmpOp} {t:TE} (h:PC X op a b t) (h1:behindInMarks op b=false:=by first | exact jdp _ (by decide) (by decide) | rfl):PT X (.Compare a [op] [b] pos) (tB t):=by
 intro pins s σ H Q I hw
 refine wpAny_isTrue_Compare1 (thn (h pins s σ H _ I hw) fun v s1 h1=>thn h1 fun u s2 h2=>thn h2 fun c s3 ⟨x,H1,I1,r1,q1⟩=>?_) h1
 obtain ⟨d,rfl,q⟩:=q1
 cases r1
 exact wpAny_truthy_bool ⟨H1,I1,q⟩
theorem jfB {e:Expr} {t:TE} (h:PE X e t) (he:∀ whole,isTrue e X.env whole=(do let v ← whole;standAt e.pos;holding [v] (truthy v)):=by intro _;rfl):PT X e (tB t):=by
 intro pins s σ H Q I hw
 refine isTrue_plain (thn (h pins s σ H _ I hw) fun v s1 ⟨x,H1,I1,r1,q1⟩=>?_) (he _)
 obtain ⟨d,rfl,q⟩:=q1
 cases r1
 exact wpAny_truthy_bool ⟨H1,I1,q⟩
variable {tA tB':TT} {qc:List Expr}
def jgs (t u:TT):TT:=fun σ H Q=>t σ H fun c H1=>if c=true then u σ H1 Q else Q false H1
def tOr (t u:TT):TT:=fun σ H Q=>t σ H fun c H1=>if c=true then Q true H1 else u σ H1 Q
theorem jed (ha:PT X a tA):PW X (.BoolOp .And [a] pos) tA:=by
 intro wh pins s σ H Q I h
 refine isTrue_and (thn (ha pins s σ H Q I h) fun c s1 e=>?_)
 cases c with
 | true=>exact isTrue_and_nil e
 | false=>exact e
theorem jfz (ha:PT X a tA):PW X (.BoolOp .Or [a] pos) tA:=by
 intro wh pins s σ H Q I h
 refine isTrue_or (thn (ha pins s σ H Q I h) fun c s1 e=>?_)
 cases c with
 | false=>exact isTrue_or_nil e
 | true=>exact e
theorem jfA (ha:PT X a tA) (hb:PW X (.BoolOp .And (b :: qc) pos) tB'):PW X (.BoolOp .And (a :: b :: qc) pos) (jgs tA tB'):=by
 intro wh pins s σ H Q I h
 refine isTrue_and (thn (ha pins s σ H _ I h) fun c s1 ⟨H1,I1,q1⟩=>?_)
 cases c with
 | true=>exact hb wh pins s1 σ H1 Q I1 q1
 | false=>exact ⟨H1,I1,q1⟩
theorem jgA (ha:PT X a tA) (hb:PW X (.BoolOp .Or (b :: qc) pos) tB'):PW X (.BoolOp .Or (a :: b :: qc) pos) (tOr tA tB'):=by
 intro wh pins s σ H Q I h
 refine isTrue_or (thn (ha pins s σ H _ I h) fun c s1 ⟨H1,I1,q1⟩=>?_)
 cases c with
 | true=>exact ⟨H1,I1,q1⟩
 | false=>exact hb wh pins s1 σ H1 Q I1 q1
end
def SqL (K:PySem.W.Frag) (H:Hp) (a:Addr) (xs:List V):Prop:=
 Rd H a (.lst xs)∨
  ∃ (o:Obj) (its:Array Value) (n:Nat),K.lookup a=some o∧o.cls=.type "list"∧o.dict=none∧o.data=.seq its n∧its.size≤sizeLine∧Vals xs its.toList
def SqT (K:PySem.W.Frag) (H:Hp) (a:Addr) (xs:List V):Prop:=
 Rd H a (.tup xs)∨
  ∃ (o:Obj) (its:Array Value) (n:Nat),K.lookup a=some o∧o.cls=.type "tuple"∧o.data=.seq its n∧its.size≤sizeLine∧Vals xs its.toList
def jhf:Value→Option V
 | .none=>some .non
 | .bool b=>some (.bl b)
 | .int i _=>some (.int i)
 | .str x _=>some (.str x)
 | .bytes b _=>some (.byt b)
 | .float b _=>some (.flt b)
 | .ref a=>some (.ref a)
 | .type n=>some (.ty n)
 | _=>none
theorem RelV.abs {x:V} {u:Value} (r:RelV x u):jhf u=some x:=by
 cases x with
 | non=>cases r;rfl
 | bl _=>cases r;rfl
 | int _=>obtain ⟨t,rfl⟩:=r;rfl
 | str _=>obtain ⟨t,rfl⟩:=r;rfl
 | byt _=>obtain ⟨t,rfl⟩:=r;rfl
 | flt _=>obtain ⟨t,rfl⟩:=r;rfl
 | ref _=>cases r;rfl
 | ty _=>cases r;rfl
theorem RelV.inj {x y:V} {u:Value} (r:RelV x u) (q:RelV y u):x=y:=Option.some.inj (r.abs.symm.trans q.abs)
theorem Vals.inj:∀ {xs ys:List V} {us:List Value},Vals xs us→Vals ys us→xs=ys
 | _,_,_,.nil,.nil=>rfl
 | _,_,_,.cons r t,.cons r' t'=>by rw [r.inj r',Vals.inj t t']
section
variable {X:Cx} {pins:List (Addr×Obj)} {σ:St} {H:Hp} {s:Shared} {a:Addr} {xs ys:List V}
theorem SqL.of {K:PySem.W.Frag} (h:H a=some (.lst xs)):SqL K H a xs:=.inl (.inl h)
theorem SqT.of {K:PySem.W.Frag} (h:H a=some (.tup xs)):SqT K H a xs:=.inl (.inl h)
theorem Inv.list (I:Inv X pins σ H s) (h:SqL X.K H a xs):∃ its:List Value,Vals xs its∧PlainL s.heap a its.toArray∧xs.length≤sizeLine:=by
 rcases h with h | ⟨o,its,n,hk,hc,hd,hs,hz,r⟩
 ·obtain ⟨z,its,n,r,e⟩:=h.ok I.hok
  exact ⟨its,r,⟨_,n,e,rfl,rfl,rfl⟩,z⟩
 ·refine ⟨its.toList,r,⟨o,n,I.kIn a o hk,hc,hd,by simpa using hs⟩,?_⟩
  have e:=r.length
  simp only [Array.length_toList] at e
  omega
theorem Inv.tuple (I:Inv X pins σ H s) (h:SqT X.K H a xs):∃ its:List Value,Vals xs its∧IsTup s.heap a its.toArray∧xs.length≤sizeLine:=by
 rcases h with h | ⟨o,its,n,hk,hc,hs,hz,r⟩
 ·obtain ⟨z,its,r,p⟩:=h.ok I.hok
  exact ⟨its,r,p,z⟩
 ·refine ⟨its.toList,r,⟨o,I.kIn a o hk,hc,n,by simpa using hs⟩,?_⟩
  have e:=r.length
  simp only [Array.length_toList] at e
  omega
theorem Inv.list_inj (I:Inv X pins σ H s) (h:SqL X.K H a xs) (h':SqL X.K H a ys):xs=ys:=by
 obtain ⟨its,r,⟨o,n,e,_,_,d⟩,_⟩:=I.list h
 obtain ⟨its',r',⟨o',n',e',_,_,d'⟩,_⟩:=I.list h'
 rw [e] at e';cases e'
 rw [d] at d'
 injection d' with d1 _
 have:its=its':=by simpa using congrArg Array.toList d1
 subst this
 exact r.inj r'
theorem Inv.tuple_inj (I:Inv X pins σ H s) (h:SqT X.K H a xs) (h':SqT X.K H a ys):xs=ys:=by
 obtain ⟨its,r,⟨o,e,_,n,d⟩,_⟩:=I.tuple h
 obtain ⟨its',r',⟨o',e',_,n',d'⟩,_⟩:=I.tuple h'
 rw [e] at e';cases e'
 rw [d] at d'
 injection d' with d1 _
 have:its=its':=by simpa using congrArg Array.toList d1
 subst this
 exact r.inj r'
end
abbrev Cx.wish (X:Cx) (E:Value→Shared→Prop):Cx:={ X with xe:=E }
abbrev Cx.nox (X:Cx):Cx:=X.wish fun _ _=>False
theorem Cx.Ok.wish {X:Cx} (ok:X.Ok) (E:Value→Shared→Prop):(X.wish E).Ok:=
 ⟨ok.mod,ok.kind,ok.glob,ok.blt,ok.above,ok.inj,ok.has,ok.cab,ok.hd,ok.frames,ok.stk,ok.exf,ok.bs,ok.bsz,ok.noex,ok.exfs,ok.funs,ok.frf⟩
theorem Cx.Ok.unwish {X:Cx} {E:Value→Shared→Prop} (ok:(X.wish E).Ok):X.Ok:=
 ⟨ok.mod,ok.kind,ok.glob,ok.blt,ok.above,ok.inj,ok.has,ok.cab,ok.hd,ok.frames,ok.stk,ok.exf,ok.bs,ok.bsz,ok.noex,ok.exfs,ok.funs,ok.frf⟩
section
variable {X:Cx} {pins:List (Addr×Obj)} {σ:St} {H:Hp} {s:Shared} {E:Value→Shared→Prop}
theorem Inv.wish (I:Inv X pins σ H s) (E:Value→Shared→Prop):Inv (X.wish E) pins σ H s:=⟨I.ok.wish E,I.os,I.bare,I.base,I.loc,I.cell,I.free,I.freeC,I.pin,I.hok,I.len⟩
theorem Inv.unwish (I:Inv (X.wish E) pins σ H s):Inv X pins σ H s:=⟨I.ok.unwish,I.os,I.bare,I.base,I.loc,I.cell,I.free,I.freeC,I.pin,I.hok,I.len⟩
theorem SP.unwish {D:Ends} {f:Flow} {s':Shared} (h:SP (X.wish E) pins D f s'):SP X pins D f s':=by
 cases f with
 | next=>obtain ⟨σ',H',I,q⟩:=h;exact ⟨σ',H',I.unwish,q⟩
 | brk=>obtain ⟨σ',H',I,q⟩:=h;exact ⟨σ',H',I.unwish,q⟩
 | cont=>obtain ⟨σ',H',I,q⟩:=h;exact ⟨σ',H',I.unwish,q⟩
 | ret u=>obtain ⟨v,σ',H',I,r,q⟩:=h;exact ⟨v,σ',H',I.unwish,r,q⟩
theorem PSs.nox {st:List Stmt} {t:TS} (h:PSs X.nox st t):PSs X st t:=fun pins s σ H D I hw=>
 wpAny_mono (h pins s σ H D (I.wish _) hw) (fun _ _ q=>q.unwish) fun _ _ z=>False.elim z
end
section
variable {X:Cx} {st:Stmt} {qc:List Stmt} {t u:TS} {e:Expr} {te:TE} {pos:Pos}
def je7:TS:=fun D σ H=>D.nx σ H
def jgi (t u:TS):TS:=fun D σ H=>t { D with nx:=u D } σ H
theorem jei:PSs X [] je7:=fun _ _ σ H _ I h=>wpAny_execs_nil ⟨σ,H,I,h⟩
theorem jcI (h1:PS X st t) (h2:PSs X qc u):PSs X (st :: qc) (jgi t u):=by
 intro pins s σ H D I h
 refine wpAny_execs_cons (thn (h1 pins s σ H { D with nx:=u D } I h) fun f s1 q=>?_)
 cases f with
 | next=>
  obtain ⟨σ',H',I',q⟩:=q
  exact h2 pins s1 σ' H' D I' q
 | ret v=>exact q
 | brk=>exact q
 | cont=>exact q
theorem jeh (h1:PS X st t):PSs X [st] t:=by
 intro pins s σ H D I h
 refine wpAny_execs_cons (thn (h1 pins s σ H D I h) fun f s1 q=>?_)
 cases f with
 | next=>exact wpAny_execs_nil q
 | ret v=>exact q
 | brk=>exact q
 | cont=>exact q
theorem Inv.quiet {pins:List (Addr×Obj)} {σ:St} {H:Hp} {s:Shared} (I:Inv X pins σ H s):interactive X.env=false:=by simp [interactive,I.ok.kind]
def je9 (te:TE):TS:=fun D σ H=>te σ H fun _ H1=>D.nx σ H1
theorem jel (he:PE X e te) (hs:swapsWith e none pos.line X.env=pure false:=by rfl):PS X (.Expr e pos) (je9 te):=by
 intro pins s σ H D I h
 exact wpAny_Expr_any (thn (he pins s σ H _ I h) fun v s1 ⟨x,H1,I1,r1,q1⟩=>⟨σ,H1,I1,q1⟩) I.quiet hs
def jgj (te:TE):TS:=fun D σ H=>te σ H D.rt
theorem jfD (he:PE X e te):PS X (.Return (some e) pos) (jgj te):=by
 intro pins s σ H D I h
 exact wpAny_Return_some (thn (he pins s σ H _ I h) fun v s1 ⟨x,H1,I1,r1,q1⟩=>⟨x,σ,H1,I1,r1,q1⟩)
def jgm (c:TT) (t u:TS):TS:=fun D σ H=>c σ H fun b H1=>if b=true then t D σ H1 else u D σ H1
theorem jgB {c:Expr} {a b:List Stmt} {tc:TT} (hc:PT X c tc) (ha:PSs X a t) (hb:PSs X b u):PS X (.If c a b pos) (jgm tc t u):=by
 intro pins s σ H D I h
 refine wpAny_If (thn (hc pins s σ H _ I h) fun d s1 ⟨H1,I1,q1⟩=>?_)
 cases d with
 | true=>exact ha pins s1 σ H1 D I1 q1
 | false=>exact hb pins s1 σ H1 D I1 q1
def jcp:TS:=fun _ _ _=>False
theorem jcK:PS X st jcp:=fun _ _ _ _ _ _ h=>h.elim
end
abbrev TG:=V→St→Hp→(St→Hp→Prop)→Prop
abbrev TGs:=List V→St→Hp→(St→Hp→Prop)→Prop
def PG (X:Cx) (target:Expr) (t:TG):Prop:=
 ∀ (pins:List (Addr×Obj)) (s:Shared) (σ:St) (H:Hp) (v:V) (u:Value) (Q:St→Hp→Prop),Inv X pins σ H s→RelV v u→t v σ H Q→
  wpAny (model X.prog X.w) X.A (assign target X.env u) (fun _ s'=>∃ σ' H',Inv X pins σ' H' s'∧Q σ' H') X.xe s
def PGs (X:Cx) (ts:List Expr) (t:TGs):Prop:=
 ∀ (pins:List (Addr×Obj)) (s:Shared) (σ:St) (H:Hp) (vs:List V) (us:List Value) (Q:St→Hp→Prop),Inv X pins σ H s→Vals vs us→t vs σ H Q→
  wpAny (model X.prog X.w) X.A (assignInOrder ((assignEach ts X.env).map (·.2)) us) (fun _ s'=>∃ σ' H',Inv X pins σ' H' s'∧Q σ' H') X.xe s
section
variable {X:Cx} {pos:Pos}
def kX (i:Nat):TG:=fun v σ H Q=>Q (σ.set i (some v)) H
theorem jet {i:Nat} {x:Str} (hN:X.N.Nodup) (hi:X.N[i]?=some x) (hx:Loc X.env.scope x) (hf:X.fn x=true∨X.env.scope.names.lookup x=some .local:=by first | exact .inl rfl | exact .inr rfl | assumption):PG X (.Name x pos) (kX i):=by
 intro pins s σ H v u Q I r h
 exact wpAny_assign_Name (zK I hN hi hx r (fun s' I'=>⟨_,H,I',h⟩) hf)
def jgX:TGs:=fun vs σ H Q=>vs=[]∧Q σ H
def jfo (t:TG) (u:TGs):TGs:=fun vs σ H Q=>∃ v r,vs=v :: r∧t v σ H fun σ' H'=>u r σ' H' Q
theorem jes:PGs X [] jgX:=by
 intro pins s σ H vs us Q I r h
 obtain ⟨e,h⟩:=h
 subst e
 cases r
 exact assignInOrder_nil ⟨σ,H,I,h⟩
theorem jcO {e:Expr} {es:List Expr} {t:TG} {u:TGs} (h1:PG X e t) (h2:PGs X es u)
  (hs:(assignEach (e :: es) X.env).map (·.2)=assign e X.env :: (assignEach es X.env).map (·.2):=by rfl):PGs X (e :: es) (jfo t u):=by
 intro pins s σ H vs us Q I r h
 obtain ⟨v,vr,e1,h⟩:=h
 subst e1
 cases r with
 | cons r rr=>
  rw [hs]
  refine assignInOrder_cons (thn (h1 pins s σ H _ _ _ I r h) fun _ s1 ⟨σ1,H1,I1,q1⟩=>?_)
  exact h2 pins s1 σ1 H1 _ _ Q I1 rr q1
def jgW (K:PySem.W.Frag) (n:Nat) (t:TGs):TG:=fun v σ H Q=>∃ a xs,v=.ref a∧SqT K H a xs∧xs.length=n∧t xs σ H Q
theorem jfJ {es:List Expr} {k:Nat} {t:TGs} {n:Nat} (hc:X.calm=true) (h:PGs X es t)
  (hn:(assignEach es X.env).length=n:=by rfl) (hst:(assignEach es X.env).findIdx? (·.1)=none:=by rfl):PG X (.Tuple es k pos) (jgW X.K n t):=by
 intro pins s σ H v u Q I r hw
 obtain ⟨a,xs,e1,hq,hl,hw⟩:=hw
 subst e1
 cases r
 obtain ⟨its,rv,ht,hz⟩:=I.tuple hq
 refine assign_Tuple_tuple (I.ok.hd hc) ht (by simp [hn,← hl,rv.length]) hst fun h' hx=>?_
 have I1:Inv X pins σ H { s with heap:=h' }:=I.kept (t':=s.toks) fun b o e=>hx b o (Nat.ne_of_lt (Heap.lt_size e)) e
 exact h pins _ σ H xs _ Q I1 (by simpa using rv) hw
def jbm (te:TE) (g:TG):TS:=fun D σ H=>te σ H fun x H1=>g x σ H1 D.nx
theorem jfG {tg e:Expr} {te:TE} {g:TG} (he:PE X e te) (hg:PG X tg g) (hs:swapsWithSole [tg] e pos.line X.env=pure false:=by rfl) (hw:swappedStores [tg] e X.env=pure none:=by rfl)
  (h1:(assignEach [tg] X.env).map (·.2)=[assign tg X.env]:=by rfl):PS X (.Assign [tg] e pos) (jbm te g):=by
 intro pins s σ H D I h
 refine wpAny_Assign_stores (thn (he pins s σ H _ I h) fun v s1 ⟨x,H1,I1,r1,q1⟩=>?_) hs hw
 rw [h1]
 exact thn (hg pins s1 σ H1 x v _ I1 r1 q1) fun _ s2 q=>q
theorem jfC {i:Nat} {x:Str} {e:Expr} {te:TE} {pos':Pos} (hN:X.N.Nodup) (hi:X.N[i]?=some x) (hx:Loc X.env.scope x) (he:PE X e te) (hs:swapsWith e (some (.Name x pos')) pos.line X.env=pure false:=by rfl) (hf:X.fn x=true∨X.env.scope.names.lookup x=some .local:=by first | exact .inl rfl | exact .inr rfl | assumption) :
  PS X (.Assign [.Name x pos'] e pos) (jbm te (kX i)):=by
 intro pins s σ H D I h
 refine wpAny_Assign_Name (thn (he pins s σ H _ I h) fun v s1 ⟨y,H1,I1,r1,q1⟩=>?_) hs
 exact zK I1 hN hi hx r1 (fun s2 I2=>⟨_,H1,I2,q1⟩) hf
def ZN (c:TT) (tb:TS):TS:=fun D σ H=>∃ W:Nat→St→Hp→Prop,(∃ m,W m σ H)∧∀ m σ H,W m σ H→
 c σ H fun b H1=>if b=true then ∃ N:St→Hp→Prop,(∀ σ' H',N σ' H'→∃ m',m' < m∧W m' σ' H')∧tb { D with nx:=N,ct:=N,bk:=D.nx } σ H1 else D.nx σ H1
theorem jcJ {c:Expr} {body:List Stmt} {tc:TT} {tb:TS} (hp:PassesOwn (model X.prog X.w) X.A X.env X.xe) (hc:PT X c tc) (hb:PSs X body tb):PS X (.While c body [] pos) (ZN tc tb):=by
 intro pins s σ H D I h
 obtain ⟨W,⟨m0,w0⟩,turn⟩:=h
 refine wpAny_While (codeAny_whileLoop (fun n s'=>∃ σ' H',Inv X pins σ' H' s'∧W n σ' H') ?_ m0 ⟨σ,H,I,w0⟩)
 rintro n s1 ⟨σ1,H1,I1,w1⟩
 refine wpAny_passesOwn hp (thn (hc pins s1 σ1 H1 _ I1 (turn n σ1 H1 w1)) fun b s2 ⟨H2,I2,q2⟩=>?_)
 cases b with
 | true=>
  obtain ⟨N,hN,q2⟩:=q2
  rw [if_pos rfl]
  refine wpAny_passesOwn hp (thn (hb pins s2 σ1 H2 _ I2 q2) fun f s3 q3=>?_)
  cases f with
  | next=>
   obtain ⟨σ3,H3,I3,n3⟩:=q3
   obtain ⟨m',hm,w3⟩:=hN σ3 H3 n3
   exact ⟨m',hm,σ3,H3,I3,w3⟩
  | cont=>
   obtain ⟨σ3,H3,I3,n3⟩:=q3
   obtain ⟨m',hm,w3⟩:=hN σ3 H3 n3
   exact ⟨m',hm,σ3,H3,I3,w3⟩
  | brk=>exact q3
  | ret v=>exact q3
 | false=>
  rw [if_neg Bool.false_ne_true]
  exact wpAny_execs_nil ⟨σ1,H2,I2,q2⟩
end
structure It where
 go:Nat→Hp→Prop
 yld:Nat→Hp→V→Hp→Prop
 stop:Nat→Hp→Prop
def yS (X:Cx) (pins:List (Addr×Obj)) (H:Hp) (b:Addr):Prop:=
 H b=none∧b≠X.env.locals∧b ∉ X.fs∧(b∈X.ex∨X.s₀.heap.objs.size≤b)∧(∀ x c,X.env.cells.lookup x=some c→c≠b)∧∀ p∈X.pn++pins,p.1≠b
theorem Inv.fpOk {X:Cx} {pins:List (Addr×Obj)} {σ:St} {H H':Hp} {s:Shared} {b:Addr} (I:Inv X pins σ H s) (hb:s.heap.objs.size≤b) (hn:H' b=none):yS X pins H' b:=by
 refine ⟨hn,Nat.ne_of_gt (Nat.lt_of_lt_of_le I.lt hb),I.nofs hb,.inr (Nat.le_trans I.sz hb),fun x c e z=>?_,fun p hp z=>?_⟩
 ·obtain ⟨v,q⟩:=I.cell x c e
  exact absurd (Nat.lt_of_lt_of_le q.lt (by rw [z];exact hb)) (Nat.lt_irrefl _)
 ·exact absurd (Nat.lt_of_lt_of_le (Heap.lt_size (I.pin p hp).1) (by rw [z];exact hb)) (Nat.lt_irrefl _)
structure Turn (P:Program) (w:World) (K:PySem.W.Frag) (tg:Expr) (J:It) (fp:List Addr) (it:Addr) (tn:Nat→Heap→Prop):Prop where
 mem:it∈fp
 obj:∀ i h,tn i h→∀ b∈fp,∃ o,h.get? b=some o∧∀ v,o.data≠.cell v
 keep:∀ i h h',tn i h→(∀ b∈fp,∀ o,h.get? b=some o→h'.get? b=some o)→tn i h'
 item:∀ (X:Cx),X.prog=P→X.w=w→X.K=K→X.calm=true→∀ (i:Nat) (pins:List (Addr×Obj)) (s:Shared) (σ:St) (H:Hp) (E:Value→Shared→Prop),Inv X pins σ H s→(∀ b∈fp,yS X pins H b)→tn i s.heap→J.go i H→
  wpAny (model P w) X.A (pyNext (.ref it)) (fun r s1=>∃ u,r=some u∧
   wpAny (model P w) X.A (letOwnedTupleGo tg (.ref it) u) (fun _ s2=>∃ x H',Inv X pins σ H' s2∧RelV x u∧J.yld i H x H'∧tn (i+1) s2.heap∧∀ b∈fp,H' b=none) E s1) E s
 done:∀ (X:Cx),X.prog=P→X.w=w→X.K=K→X.calm=true→∀ (i:Nat) (pins:List (Addr×Obj)) (s:Shared) (σ:St) (H:Hp) (E:Value→Shared→Prop),Inv X pins σ H s→(∀ b∈fp,yS X pins H b)→tn i s.heap→J.stop i H→
  wpAny (model P w) X.A (pyNext (.ref it)) (fun r s1=>r=none∧Inv X pins σ H s1) E s
 self:∀ (A:Around) (i:Nat) (s:Shared) (Q:Value→Shared→Prop) (E:Value→Shared→Prop),tn i s.heap→Q (.ref it) s→wpAny (model P w) A (pyIter (.ref it)) Q E s
abbrev TI:=St→Hp→(It→Hp→Prop)→Prop
def PIE (X:Cx) (pins:List (Addr×Obj)) (σ:St) (tg:Expr) (R:It→Hp→Prop) (itv:Value) (s2:Shared):Prop:=
 ∃ (it:Addr) (fp:List Addr) (tn:Nat→Heap→Prop) (J:It) (H':Hp),itv=.ref it∧Inv X pins σ H' s2∧Turn X.prog X.w X.K tg J fp it tn∧tn 0 s2.heap∧(∀ b∈fp,yS X pins H' b)∧R J H'
def PI (X:Cx) (tg iter:Expr) (wi:TI):Prop:=
 ∀ (pins:List (Addr×Obj)) (s:Shared) (σ:St) (H:Hp) (R:It→Hp→Prop),Inv X pins σ H s→wi σ H R→
  wpAny (model X.prog X.w) X.A (eval iter X.env) (fun v s1=>wpAny (model X.prog X.w) X.A (pyIter v) (PIE X pins σ tg R) X.xe s1) X.xe s
theorem jdG {M:Model} {A:Around} {E:Value→Shared→Prop} {s:Shared} {tg:Expr} {it:Addr} {u:Value} {o:Obj} {n:String} {vs:Array Value} {Q:Unit→Shared→Prop} (ho:s.heap.get? it=some o) (hc:o.cls=.type n) (hd:o.data=.fields vs)
  (hn:["enumerate","zip","dict_itemiterator","dict_reverseitemiterator","odict_iterator","itertools.zip_longest","itertools.pairwise"].contains n=false) (hQ:Q () s):wpAny M A (letOwnedTupleGo tg (.ref it) u) Q E s:=by
 unfold letOwnedTupleGo
 cases tg <;> first
  | exact wpAny_pure hQ
  | (cases u <;> first
    | exact wpAny_pure hQ
    | (refine wpAny_bind (wpAny_load ho ?_)
       rw [hc,hd]
       show wpAny M A (if (["enumerate","zip","dict_itemiterator","dict_reverseitemiterator","odict_iterator","itertools.zip_longest","itertools.pairwise"].contains n && vs[0]? == some (rawInt _))=true then _ else _) Q E s
       rw [if_neg (by intro h;rw [hn,Bool.false_and] at h;cases h)]
       exact wpAny_pure hQ))
def Itl (K:PySem.W.Frag) (a:Addr):It:=
 ⟨fun i H=>∃ xs x,SqL K H a xs∧xs[i]?=some x,fun i H x H'=>H'=H∧∀ xs,SqL K H a xs→xs[i]?=some x,fun i H=>∃ xs,SqL K H a xs∧xs.length≤i⟩
def Itt (K:PySem.W.Frag) (a:Addr):It:=
 ⟨fun i H=>∃ xs x,SqT K H a xs∧xs[i]?=some x,fun i H x H'=>H'=H∧∀ xs,SqT K H a xs→xs[i]?=some x,fun i H=>∃ xs,SqT K H a xs∧xs.length≤i⟩
def Itr (lo:Int) (n:Nat):It:=⟨fun i _=>i < n,fun i H x H'=>H'=H∧x=.int (lo+i),fun i _=>n≤i⟩
theorem jbk {P:Program} {w:World} {K:PySem.W.Frag} {tg:Expr} (a it:Addr):Turn P w K tg (Itl K a) [it] it (fun i h=>h.IsListIter it a i) where
 mem:=by simp
 obj:=fun i h st b hb=>by
  have e:b=it:=by simpa using hb
  subst e
  obtain ⟨o,e,c,d⟩:=st
  exact ⟨o,e,fun v z=>by rw [d] at z;cases z⟩
 keep:=fun i h h' st k=>st.at fun o e=>k it (by simp) o e
 item:=by
  intro X hP hw hK hc i pins s σ H E I hf st hg
  subst hP hw hK
  obtain ⟨xs,x,hq,hx⟩:=hg
  obtain ⟨its,rv,p,hz⟩:=I.list hq
  obtain ⟨u,hu,ru⟩:=rv.get hx
  obtain ⟨f0,f1,f2,f3,f4,f5⟩:=hf it (by simp)
  refine wpAny_pyNext_list_item st p.isList (x:=u) (by simpa using hu) fun h' st' sb=>?_
  have I1:Inv X pins σ H { s with heap:=h' }:=I.turned (t':=s.toks) (fun b o hb e=>(sb.2 b hb).trans e) f0 f1 f3 f4 f5
  obtain ⟨o,e,c,d⟩:=id st'
  exact ⟨u,rfl,jdG (s:={ s with heap:=h' }) e c d (by decide) ⟨x,H,I1,ru,⟨rfl,fun ys hy=>by rw [I.list_inj hy hq];exact hx⟩,st',fun b hb=>(hf b hb).1⟩⟩
 done:=by
  intro X hP hw hK hc i pins s σ H E I hf st hg
  subst hP hw hK
  obtain ⟨xs,hq,hx⟩:=hg
  obtain ⟨its,rv,p,hz⟩:=I.list hq
  obtain ⟨f0,f1,f2,f3,f4,f5⟩:=hf it (by simp)
  have hl:=rv.length
  exact wpAny_pyNext_list_end (I.ok.hd hc) st p.isList (by simp;omega) fun h' eb=>⟨rfl,I.turned (t':=s.toks) (fun b o hb e=>eb b o hb e) f0 f1 f3 f4 f5⟩
 self:=fun _ _ _ _ _ st h=>wpAny_pyIter_listiter st h
theorem ZK {P:Program} {w:World} {K:PySem.W.Frag} {tg:Expr} (a it:Addr):Turn P w K tg (Itt K a) [it] it (fun i h=>h.IsTupleIter it a i) where
 mem:=by simp
 obj:=fun i h st b hb=>by
  have e:b=it:=by simpa using hb
  subst e
  obtain ⟨o,e,c,d⟩:=st
  exact ⟨o,e,fun v z=>by rw [d] at z;cases z⟩
 keep:=fun i h h' st k=>st.at fun o e=>k it (by simp) o e
 item:=by
  intro X hP hw hK hc i pins s σ H E I hf st hg
  subst hP hw hK
  obtain ⟨xs,x,hq,hx⟩:=hg
  obtain ⟨its,rv,p,hz⟩:=I.tuple hq
  obtain ⟨u,hu,ru⟩:=rv.get hx
  obtain ⟨f0,f1,f2,f3,f4,f5⟩:=hf it (by simp)
  refine wpAny_pyNext_tuple_item st (show s.heap.IsTuple a its.toArray from p) (x:=u) (by simpa using hu) fun h' st' sb=>?_
  have I1:Inv X pins σ H { s with heap:=h' }:=I.turned (t':=s.toks) (fun b o hb e=>(sb.2 b hb).trans e) f0 f1 f3 f4 f5
  obtain ⟨o,e,c,d⟩:=id st'
  exact ⟨u,rfl,jdG (s:={ s with heap:=h' }) e c d (by decide) ⟨x,H,I1,ru,⟨rfl,fun ys hy=>by rw [I.tuple_inj hy hq];exact hx⟩,st',fun b hb=>(hf b hb).1⟩⟩
 done:=by
  intro X hP hw hK hc i pins s σ H E I hf st hg
  subst hP hw hK
  obtain ⟨xs,hq,hx⟩:=hg
  obtain ⟨its,rv,p,hz⟩:=I.tuple hq
  obtain ⟨f0,f1,f2,f3,f4,f5⟩:=hf it (by simp)
  have hl:=rv.length
  exact wpAny_pyNext_tuple_end (I.ok.hd hc) st (show s.heap.IsTuple a its.toArray from p) (by simp;omega) fun h' eb=>⟨rfl,I.turned (t':=s.toks) (fun b o hb e=>eb b o hb e) f0 f1 f3 f4 f5⟩
 self:=fun _ _ _ _ _ st h=>wpAny_pyIter_tupleiter st h
theorem ZL {P:Program} {w:World} {K:PySem.W.Frag} {tg:Expr} (it:Addr) (lo:Int) (n:Nat):Turn P w K tg (Itr lo n) [it] it (fun i h=>IsRangeIter h it (lo+(i:Nat) * 1) ((n:Int) - (i:Nat)) 1) where
 mem:=by simp
 obj:=fun i h st b hb=>by
  have e:b=it:=by simpa using hb
  subst e
  exact ⟨_,st,fun v z=>by
   have z':Data.fields _=Data.cell v:=z
   cases z'⟩
 keep:=fun i h h' st k=>k it (by simp) _ st
 item:=by
  intro X hP hw hK hc i pins s σ H E I hf st hg
  subst hP hw hK
  obtain ⟨f0,f1,f2,f3,f4,f5⟩:=hf it (by simp)
  have W:=Walks.range (prog:=X.prog) (w:=X.w) (I.ok.hd hc) it lo 1 n
  refine W.item i s _ _ hg st fun v h' tk hv st' kk=>?_
  obtain ⟨t,rfl⟩:=hv
  have I1:Inv X pins σ H { s with heap:=h',toks:=tk }:=I.turned (fun b o hb e=>kk b o (by simpa using hb) e) f0 f1 f3 f4 f5
  refine ⟨_,rfl,jdG (s:={ s with heap:=h',toks:=tk }) (n:="range_iterator") st' rfl rfl (by decide) ⟨.int (lo+i),H,I1,⟨t,?_⟩,⟨rfl,rfl⟩,st',fun b hb=>(hf b hb).1⟩⟩
  rw [Int.mul_one]
 done:=by
  intro X hP hw hK hc i pins s σ H E I hf st hg
  subst hP hw hK
  obtain ⟨f0,f1,f2,f3,f4,f5⟩:=hf it (by simp)
  exact wpAny_pyNext_range_end (I.ok.hd hc) st (by have:n≤i:=hg;omega) fun h' eb=>⟨rfl,I.turned (t':=s.toks) (fun b o hb e=>eb b o hb e) f0 f1 f3 f4 f5⟩
 self:=fun _ _ _ _ _ st h=>wpAny_pyIter_rangeiter st h
section
variable {X:Cx} {tg:Expr}
def jfm (K:PySem.W.Frag) (tl:TE):TI:=fun σ H R=>tl σ H fun x H1=>∃ a,x=.ref a∧(∃ xs,SqL K H1 a xs)∧R (Itl K a) H1
def jgV (K:PySem.W.Frag) (tl:TE):TI:=fun σ H R=>tl σ H fun x H1=>∃ a,x=.ref a∧(∃ xs,SqT K H1 a xs)∧R (Itt K a) H1
theorem jeq {l:Expr} {tl:TE} (hl:PE X l tl):PI X tg l (jfm X.K tl):=by
 intro pins s σ H R I h
 refine thn (hl pins s σ H _ I h) fun v s1 ⟨x,H1,I1,r1,q1⟩=>?_
 obtain ⟨a,e,⟨xs,hq⟩,q⟩:=q1
 subst e
 cases r1
 obtain ⟨its,rv,p,hz⟩:=I1.list hq
 refine wpAny_pyIter_list p.isList ?_
 refine ⟨s1.heap.objs.size,[s1.heap.objs.size],_,_,H1,rfl,I1.kept (t':=s1.toks) fun b o e=>Heap.get?_push_of_some _ e,jbk a _,⟨_,Heap.get?_push_size _ rfl,rfl,rfl⟩,fun b hb=>?_,q⟩
 have e:b=s1.heap.objs.size:=by simpa using hb
 subst e
 exact I1.fpOk (Nat.le_refl _) (I1.hok.fresh (Nat.le_refl _))
theorem jfI {l:Expr} {tl:TE} (hl:PE X l tl):PI X tg l (jgV X.K tl):=by
 intro pins s σ H R I h
 refine thn (hl pins s σ H _ I h) fun v s1 ⟨x,H1,I1,r1,q1⟩=>?_
 obtain ⟨a,e,⟨xs,hq⟩,q⟩:=q1
 subst e
 cases r1
 obtain ⟨its,rv,p,hz⟩:=I1.tuple hq
 refine wpAny_pyIter_tuple (show s1.heap.IsTuple a its.toArray from p) ?_
 refine ⟨s1.heap.objs.size,[s1.heap.objs.size],_,_,H1,rfl,I1.kept (t':=s1.toks) fun b o e=>Heap.get?_push_of_some _ e,ZK a _,⟨_,Heap.get?_push_size _ rfl,rfl,rfl⟩,fun b hb=>?_,q⟩
 have e:b=s1.heap.objs.size:=by simpa using hb
 subst e
 exact I1.fpOk (Nat.le_refl _) (I1.hok.fresh (Nat.le_refl _))
theorem jcF {pins:List (Addr×Obj)} {σ:St} {H:Hp} {s:Shared} {R:It→Hp→Prop} {E:Value→Shared→Prop} {lo hi:Int} {t u v:Tok} {tk:Nat} (I:Inv X pins σ H s) (h1:-(2 ^ 62)≤lo) (h2:lo < 2 ^ 62) (h3:-(2 ^ 62)≤hi) (h4:hi < 2 ^ 62)
  (q:R (Itr lo (hi - lo).toNat) H):wpAny (model X.prog X.w) X.A (pyIter (.ref s.heap.objs.size)) (PIE X pins σ tg R) E { s with heap:=s.heap.push { cls:=.type "range",data:=.fields #[.int lo t,.int hi u,.int 1 v] },toks:=tk }:=by
 refine wpAny_pyIter_range (IsRange.new ..) (small_one h1 h2 h3 h4) ?_
 have I1:Inv X pins σ H { s with heap:=s.heap.push { cls:=.type "range",data:=.fields #[.int lo t,.int hi u,.int 1 v] },toks:=tk }:=I.kept fun b o e=>Heap.get?_push_of_some _ e
 refine ⟨(s.heap.push { cls:=.type "range",data:=.fields #[.int lo t,.int hi u,.int 1 v] }).objs.size,[(s.heap.push { cls:=.type "range",data:=.fields #[.int lo t,.int hi u,.int 1 v] }).objs.size],_,_,H,rfl,
  I1.kept (t':=tk) fun b o e=>Heap.get?_push_of_some _ e,ZL _ lo (hi - lo).toNat,?_,fun b hb=>?_,q⟩
 ·have e1:lo+((0:Nat):Int) * 1=lo:=by simp
  have e2:(((hi - lo).toNat:Nat):Int) - ((0:Nat):Int)=Builtin.Range.rangeSize lo hi 1:=by rw [rangeSize_one];split <;> omega
  show IsRangeIter _ _ (lo+((0:Nat):Int) * 1) ((((hi - lo).toNat:Nat):Int) - ((0:Nat):Int)) 1
  rw [e1,e2]
  exact Heap.get?_push_size _ rfl
 ·have e:b=(s.heap.push { cls:=.type "range",data:=.fields #[.int lo t,.int hi u,.int 1 v] }).objs.size:=by simpa using hb
  subst e
  exact I1.fpOk (Nat.le_refl _) (I1.hok.fresh (Nat.le_refl _))
def jfl (ta:TA):TI:=fun σ H R=>ta σ H fun vs H1=>∃ j:Int,vs=[.int j]∧-(2 ^ 62)≤j∧j < 2 ^ 62∧R (Itr 0 j.toNat) H1
theorem jbs {a:Expr} {ta:TA} {p pos:Pos} (hg:Gl X "range") (hm:X.mg "range" = none) (ha:PA X [a] ta) (hs:starEach [a] X.env=[(false,eval a X.env)]:=by rfl):PI X tg (.Call (.Name "range" p) [a] [] pos) (jfl ta):=by
 intro pins s σ H R I h
 refine Call_ (zx I hg hm boot_range (PyProof.Rows.callWith_type1 (thn (ha pos pins s σ H _ I h) fun us s1 ⟨vs,H1,I1,r1,q1⟩=>?_) hs rfl))
 obtain ⟨j,e,q1,q2,q⟩:=q1
 subst e
 cases r1 with
 | cons r rr=>
  cases rr
  obtain ⟨t,rfl⟩:=r
  exact call_range_1 (jcF I1 (by omega) (by omega) q1 q2 (by simpa using q))
def jgo (wi:TI) (g:TG) (tb:TS):TS:=fun D σ H=>wi σ H fun J H1=>∃ W:Nat→Nat→St→Hp→Prop,(∃ m,W 0 m σ H1)∧∀ i m σ H,W i m σ H→
 (J.stop i H∧D.nx σ H)∨(J.go i H∧∃ N:St→Hp→Prop,(∀ σ' H',N σ' H'→∃ m',m' < m∧W (i+1) m' σ' H')∧∀ x H',J.yld i H x H'→g x σ H' fun σ2 H2=>tb { D with nx:=N,ct:=N,bk:=D.nx } σ2 H2)
def zu (fp:List Addr) (h:Heap):List (Addr×Obj):=fp.filterMap fun b=>(h.get? b).map fun o=>(b,o)
theorem kN {fp:List Addr} {h:Heap} {b:Addr} {o:Obj} (hb:b∈fp) (e:h.get? b=some o):(b,o)∈zu fp h:=List.mem_filterMap.mpr ⟨b,hb,by rw [e];rfl⟩
theorem jbF {fp:List Addr} {h:Heap} {p:Addr×Obj} (hp:p∈zu fp h):p.1∈fp∧h.get? p.1=some p.2:=by
 obtain ⟨b,hb,e⟩:=List.mem_filterMap.mp hp
 cases q:h.get? b with
 | none=>rw [q] at e;cases e
 | some o=>
  rw [q] at e
  have e':(b,o)=p:=Option.some.inj e
  subst e'
  exact ⟨hb,q⟩
theorem Inv.pinned {pins:List (Addr×Obj)} {σ:St} {H:Hp} {s:Shared} {fp:List Addr} (I:Inv X pins σ H s) (hf:∀ b∈fp,yS X pins H b) (ho:∀ b∈fp,∃ o,s.heap.get? b=some o∧∀ v,o.data≠.cell v):Inv X (pins++zu fp s.heap) σ H s:=
 I.pins_of fun p hp=>(List.mem_append.mp hp).elim (fun z=>I.pin p (List.mem_append_right _ z)) fun z=>by
  obtain ⟨hb,e⟩:=jbF z
  obtain ⟨f0,f1,f2,_⟩:=hf p.1 hb
  obtain ⟨o,e',d⟩:=ho p.1 hb
  rw [e] at e';cases e'
  exact ⟨e,f0,f1,f2,d⟩
theorem Inv.unpinned {pins pl:List (Addr×Obj)} {σ:St} {H:Hp} {s:Shared} (I:Inv X (pins++pl) σ H s):Inv X pins σ H s:=I.pins_of fun p hp=>I.pin p (List.mem_append_right _ (List.mem_append_left _ hp))
theorem jfE {iter:Expr} {body:List Stmt} {wi:TI} {g:TG} {tb:TS} {pos:Pos} (hp:PassesOwn (model X.prog X.w) X.A X.env X.xe) (hc:X.calm=true) (hi:PI X tg iter wi) (hg:PG X tg g) (hb:PSs X body tb)
  (hs:∀ x,foldedSetIterable iter X.env x=pure x:=by intro _;rfl):PS X (.For tg iter body [] pos) (jgo wi g tb):=by
 intro pins s σ H D I h
 refine wpAny_For (thn (hi pins s σ H _ I h) fun v s1 h1=>thn h1 fun itv s2 h2=>?_) hs
 obtain ⟨it,fp,tn,J,H2,e,I2,T,st2,f2,W,⟨m0,w0⟩,turn⟩:=h2
 subst e
 have stat:∀ {H':Hp},(∀ b∈fp,H' b=none)→∀ b∈fp,yS X pins H' b:=fun hn b hb=>⟨hn b hb,(f2 b hb).2⟩
 refine codeAny_forLoop_any (fun n s'=>∃ i σ' H',Inv X pins σ' H' s'∧tn i s'.heap∧(∀ b∈fp,H' b=none)∧W i n σ' H') ?_ m0 ⟨0,σ,H2,I2,st2,fun b hb=>(f2 b hb).1,w0⟩
 rintro n s3 ⟨i,σ3,H3,I3,st3,fr3,w3⟩
 rcases turn i n σ3 H3 w3 with ⟨stop,qn⟩ | ⟨go,N,hN,step⟩
 ·refine wpAny_passesOwn hp (thn (T.done X rfl rfl rfl hc i pins s3 σ3 H3 X.xe I3 (stat fr3) st3 stop) fun r s4 ⟨hr,I4⟩=>?_)
  subst hr
  exact wpAny_execs_nil ⟨σ3,H3,I4,qn⟩
 ·refine wpAny_passesOwn hp (thn (T.item X rfl rfl rfl hc i pins s3 σ3 H3 X.xe I3 (stat fr3) st3 go) fun r s4 ⟨u,hr,h4⟩=>?_)
  subst hr
  refine wpAny_passesOwn hp (thn h4 fun _ s5 ⟨x,H5,I5,r5,y5,st5,fr5⟩=>?_)
  have I5':=I5.pinned (stat fr5) (T.obj _ _ st5)
  refine wpAny_passesOwn hp (thn (hg _ s5 σ3 H5 x u _ I5' r5 (step x H5 y5)) fun _ s6 ⟨σ6,H6,I6,q6⟩=>?_)
  refine wpAny_passesOwn hp (thn (hb _ s6 σ6 H6 _ I6 q6) fun f s7 q7=>?_)
  have again:∀ {σ7:St} {H7:Hp},Inv X (pins++zu fp s5.heap) σ7 H7 s7→N σ7 H7→∃ m,m < n∧∃ i σ' H',Inv X pins σ' H' s7∧tn i s7.heap∧(∀ b∈fp,H' b=none)∧W i m σ' H':=fun {σ7 H7} I7 n7=>by
   obtain ⟨m',hm,w7⟩:=hN σ7 H7 n7
   refine ⟨m',hm,i+1,σ7,H7,I7.unpinned,T.keep _ _ _ st5 fun b hb o e=>(I7.pin (b,o) (List.mem_append_right _ (List.mem_append_right _ (kN hb e)))).1,fun b hb=>?_,w7⟩
   obtain ⟨o,e,d⟩:=T.obj _ _ st5 b hb
   exact (I7.pin (b,o) (List.mem_append_right _ (List.mem_append_right _ (kN hb e)))).2.1
  cases f with
  | next=>obtain ⟨σ7,H7,I7,n7⟩:=q7;exact again I7 n7
  | cont=>obtain ⟨σ7,H7,I7,n7⟩:=q7;exact again I7 n7
  | brk=>obtain ⟨σ7,H7,I7,q7⟩:=q7;exact ⟨σ7,H7,I7.unpinned,q7⟩
  | ret v=>obtain ⟨x7,σ7,H7,I7,r7,q7⟩:=q7;exact ⟨x7,σ7,H7,I7.unpinned,r7,q7⟩
end
theorem yN {K:PySem.W.Frag} {a:Addr} {xs:List V} {g:TG} {tb:TS} {D:Ends} {σ:St} {H:Hp} (Pv:Nat→St→Hp→Prop) (h0:Pv 0 σ H) (hl:∀ i σ H,i≤xs.length→Pv i σ H→SqL K H a xs)
  (hs:∀ i x σ H,xs[i]?=some x→Pv i σ H→g x σ H fun σ2 H2=>tb { D with nx:=Pv (i+1),ct:=Pv (i+1),bk:=D.nx } σ2 H2) (hd:∀ σ H,Pv xs.length σ H→D.nx σ H) :
  ∃ W:Nat→Nat→St→Hp→Prop,(∃ m,W 0 m σ H)∧∀ i m σ H,W i m σ H→
   ((Itl K a).stop i H∧D.nx σ H)∨((Itl K a).go i H∧∃ N:St→Hp→Prop,(∀ σ' H',N σ' H'→∃ m',m' < m∧W (i+1) m' σ' H')∧∀ x H',(Itl K a).yld i H x H'→g x σ H' fun σ2 H2=>tb { D with nx:=N,ct:=N,bk:=D.nx } σ2 H2):=by
 refine ⟨fun i m σ H=>m=xs.length - i∧i≤xs.length∧Pv i σ H,⟨xs.length,by simp,Nat.zero_le _,h0⟩,?_⟩
 rintro i m σ H ⟨rfl,hi,p⟩
 have q:=hl i σ H hi p
 by_cases hlt:i < xs.length
 ·refine .inr ⟨⟨xs,xs[i],q,by simp [hlt]⟩,Pv (i+1),fun σ' H' p'=>⟨xs.length - (i+1),by omega,rfl,hlt,p'⟩,fun x H' y=>?_⟩
  obtain ⟨e,y⟩:=y
  subst e
  exact hs i x σ _ (y xs q) p
 ·have e:i=xs.length:=by omega
  subst e
  exact .inl ⟨⟨xs,q,Nat.le_refl _⟩,hd σ H p⟩
theorem zA {K:PySem.W.Frag} {a:Addr} {xs:List V} {g:TG} {tb:TS} {D:Ends} {σ:St} {H:Hp} (Pv:Nat→St→Hp→Prop) (h0:Pv 0 σ H) (hl:∀ i σ H,i≤xs.length→Pv i σ H→SqT K H a xs)
  (hs:∀ i x σ H,xs[i]?=some x→Pv i σ H→g x σ H fun σ2 H2=>tb { D with nx:=Pv (i+1),ct:=Pv (i+1),bk:=D.nx } σ2 H2) (hd:∀ σ H,Pv xs.length σ H→D.nx σ H) :
  ∃ W:Nat→Nat→St→Hp→Prop,(∃ m,W 0 m σ H)∧∀ i m σ H,W i m σ H→
   ((Itt K a).stop i H∧D.nx σ H)∨((Itt K a).go i H∧∃ N:St→Hp→Prop,(∀ σ' H',N σ' H'→∃ m',m' < m∧W (i+1) m' σ' H')∧∀ x H',(Itt K a).yld i H x H'→g x σ H' fun σ2 H2=>tb { D with nx:=N,ct:=N,bk:=D.nx } σ2 H2):=by
 refine ⟨fun i m σ H=>m=xs.length - i∧i≤xs.length∧Pv i σ H,⟨xs.length,by simp,Nat.zero_le _,h0⟩,?_⟩
 rintro i m σ H ⟨rfl,hi,p⟩
 have q:=hl i σ H hi p
 by_cases hlt:i < xs.length
 ·refine .inr ⟨⟨xs,xs[i],q,by simp [hlt]⟩,Pv (i+1),fun σ' H' p'=>⟨xs.length - (i+1),by omega,rfl,hlt,p'⟩,fun x H' y=>?_⟩
  obtain ⟨e,y⟩:=y
  subst e
  exact hs i x σ _ (y xs q) p
 ·have e:i=xs.length:=by omega
  subst e
  exact .inl ⟨⟨xs,q,Nat.le_refl _⟩,hd σ H p⟩
theorem yf {lo:Int} {n:Nat} {g:TG} {tb:TS} {D:Ends} {σ:St} {H:Hp} (Pv:Nat→St→Hp→Prop) (h0:Pv 0 σ H)
  (hs:∀ i σ H,i < n→Pv i σ H→g (.int (lo+i)) σ H fun σ2 H2=>tb { D with nx:=Pv (i+1),ct:=Pv (i+1),bk:=D.nx } σ2 H2) (hd:∀ σ H,Pv n σ H→D.nx σ H) :
  ∃ W:Nat→Nat→St→Hp→Prop,(∃ m,W 0 m σ H)∧∀ i m σ H,W i m σ H→
   ((Itr lo n).stop i H∧D.nx σ H)∨((Itr lo n).go i H∧∃ N:St→Hp→Prop,(∀ σ' H',N σ' H'→∃ m',m' < m∧W (i+1) m' σ' H')∧∀ x H',(Itr lo n).yld i H x H'→g x σ H' fun σ2 H2=>tb { D with nx:=N,ct:=N,bk:=D.nx } σ2 H2):=by
 refine ⟨fun i m σ H=>m=n - i∧i≤n∧Pv i σ H,⟨n,by simp,Nat.zero_le _,h0⟩,?_⟩
 rintro i m σ H ⟨rfl,hi,p⟩
 by_cases hlt:i < n
 ·refine .inr ⟨hlt,Pv (i+1),fun σ' H' p'=>⟨n - (i+1),by omega,rfl,hlt,p'⟩,fun x H' y=>?_⟩
  obtain ⟨e,y⟩:=y
  subst e y
  exact hs i σ _ hlt p
 ·have e:i=n:=by omega
  subst e
  exact .inl ⟨Nat.le_refl _,hd σ H p⟩
theorem jcb {c:TT} {tb:TS} {D:Ends} {σ:St} {H:Hp} (Pv:St→Hp→Prop) (μ:St→Hp→Nat) (h0:Pv σ H)
  (hs:∀ σ H,Pv σ H→c σ H fun b H1=>if b=true then tb { D with nx:=fun σ' H'=>Pv σ' H'∧μ σ' H' < μ σ H,ct:=fun σ' H'=>Pv σ' H'∧μ σ' H' < μ σ H,bk:=D.nx } σ H1 else D.nx σ H1)
  (mono:∀ σ H Q Q',(∀ b H1,Q b H1→Q' b H1)→c σ H Q→c σ H Q'):ZN c tb D σ H:=by
 refine ⟨fun m σ H=>m=μ σ H∧Pv σ H,⟨_,rfl,h0⟩,?_⟩
 rintro m σ H ⟨rfl,p⟩
 refine mono σ H _ _ (fun b H1 q=>?_) (hs σ H p)
 cases b with
 | true=>exact ⟨_,fun σ' H' ⟨p',l⟩=>⟨_,l,rfl,p'⟩,q⟩
 | false=>exact q
abbrev R2:=V→V→Hp→VK→Prop
def OpR (X:Cx) (f:Value→Value→Sem Value) (r:R2):Prop:=
 ∀ (pins:List (Addr×Obj)) (s:Shared) (σ:St) (H:Hp) (x y:V) (v u:Value) (Q:VK),Inv X pins σ H s→RelV x v→RelV y u→r x y H Q→
  wpAny (model X.prog X.w) X.A (f v u) (EP X pins σ Q) X.xe s
def qI (X:Cx) (f:Value) (r:List V→Hp→VK→Prop):Prop:=
 ∀ (pins:List (Addr×Obj)) (s:Shared) (σ:St) (H:Hp) (xs:List V) (us:List Value) (Q:VK),Inv X pins σ H s→Vals xs us→r xs H Q→
  wpAny (model X.prog X.w) X.A (call f us) (EP X pins σ Q) X.xe s
def tOp (r:R2) (ta tb:TE):TE:=fun σ H Q=>ta σ H fun x H1=>tb σ H1 fun y H2=>r x y H2 Q
def rI (C:Int→Int→Prop) (g:Int→Int→V):R2:=fun x y H Q=>∃ i j,x=.int i∧y=.int j∧C i j∧Q (g i j) H
def rI0 (g:Int→Int→V):R2:=fun x y H Q=>∃ i j,x=.int i∧y=.int j∧Q (g i j) H
section
variable {X:Cx} {a b c:Expr} {ta tb tc:TE} {pos:Pos}
theorem jga (ha:PE X a ta) (hb:PE X b tb) {pins:List (Addr×Obj)} {s:Shared} {σ:St} {H:Hp} {R:V→V→Hp→Prop} (I:Inv X pins σ H s)
  (h:ta σ H fun x H1=>tb σ H1 fun y H2=>R x y H2) {Q:Value→Shared→Prop} {f:Value→Value→Sem Value}
  (hf:∀ v u s2 x y H2,Inv X pins σ H2 s2→RelV x v→RelV y u→R x y H2→wpAny (model X.prog X.w) X.A (f v u) Q X.xe s2) :
  wpAny (model X.prog X.w) X.A (eval a X.env) (fun v s₁=>wpAny (model X.prog X.w) X.A (eval b X.env) (fun u s₂=>wpAny (model X.prog X.w) X.A (f v u) Q X.xe s₂) X.xe s₁) X.xe s:=by
 refine thn (ha pins s σ H _ I h) fun v s1 ⟨x,H1,I1,r1,q1⟩=>?_
 refine thn (hb pins s1 σ H1 _ I1 q1) fun u s2 ⟨y,H2,I2,r2,q2⟩=>?_
 exact hf v u s2 x y H2 I2 r1 r2 q2
theorem jgC {op:Operator} {r:R2} (ho:OpR X (binaryOp op) r) (ha:PE X a ta) (hb:PE X b tb):PE X (.BinOp a op b pos) (tOp r ta tb):=by
 intro pins s σ H Q I h
 exact wpAny_BinOp (jga ha hb I h fun v u s2 x y H2 I2 rx ry q=>ho pins s2 σ H2 x y v u Q I2 rx ry q)
theorem opI {f:Value→Value→Sem Value} {C:Int→Int→Prop} {g:Int→Int→Int}
  (rule:∀ (i j:Int) (t u:Tok) (s:Shared) (Q:Value→Shared→Prop) (E:Value→Shared→Prop),C i j→Q (.int (g i j) s.toks) { s with toks:=s.toks+1 }→wpAny (model X.prog X.w) X.A (f (.int i t) (.int j u)) Q E s) :
  OpR X f (rI C fun i j=>.int (g i j)):=by
 intro pins s σ H x y v u Q I rx ry h
 obtain ⟨i,j,rfl,rfl,hc,q⟩:=h
 obtain ⟨t,rfl⟩:=rx
 obtain ⟨t',rfl⟩:=ry
 exact rule i j t t' s _ _ hc ⟨.int (g i j),H,I.tok _,⟨_,rfl⟩,q⟩
theorem jgN {f:Value→Value→Sem Value} {g:Int→Int→Int}
  (rule:∀ (i j:Int) (t u:Tok) (s:Shared) (Q:Value→Shared→Prop) (E:Value→Shared→Prop),Q (.int (g i j) s.toks) { s with toks:=s.toks+1 }→wpAny (model X.prog X.w) X.A (f (.int i t) (.int j u)) Q E s) :
  OpR X f (rI0 fun i j=>.int (g i j)):=by
 intro pins s σ H x y v u Q I rx ry h
 obtain ⟨i,j,rfl,rfl,q⟩:=h
 obtain ⟨t,rfl⟩:=rx
 obtain ⟨t',rfl⟩:=ry
 exact rule i j t t' s _ _ ⟨.int (g i j),H,I.tok _,⟨_,rfl⟩,q⟩
theorem jgO {f:Value→Value→Sem Value} {g:Int→Int→Bool}
  (rule:∀ (i j:Int) (t u:Tok) (s:Shared) (Q:Value→Shared→Prop) (E:Value→Shared→Prop),Q (.bool (g i j)) s→wpAny (model X.prog X.w) X.A (f (.int i t) (.int j u)) Q E s) :
  OpR X f (rI0 fun i j=>.bl (g i j)):=by
 intro pins s σ H x y v u Q I rx ry h
 obtain ⟨i,j,rfl,rfl,q⟩:=h
 obtain ⟨t,rfl⟩:=rx
 obtain ⟨t',rfl⟩:=ry
 exact rule i j t t' s _ _ ⟨.bl (g i j),H,I,rfl,q⟩
def jhh (i j:Int):Prop:=0≤j∧j≤1000000∧i.natAbs < 2 ^ 64
def CMul (i j:Int):Prop:=(-(2 ^ 64) < i∧i < 2 ^ 64)∨(-(2 ^ 64) < j∧j < 2 ^ 64)
theorem CMul.ok {i j:Int} (h:CMul i j):IntMulOk i j:=by
 rcases h with ⟨h1,h2⟩ | ⟨h1,h2⟩
 ·exact .of_left (intBits_le_64 h1 h2)
 ·exact .of_right (intBits_le_64 h1 h2)
theorem kd:OpR X (binaryOp .Add) (rI0 fun i j=>.int (i+j)):=jgN fun _ _ _ _ _ _ _ q=>add_int q
theorem jc6:OpR X (binaryOp .Sub) (rI0 fun i j=>.int (i - j)):=jgN fun _ _ _ _ _ _ _ q=>sub_int q
theorem q8:OpR X (binaryOp .Mult) (rI CMul fun i j=>.int (i * j)):=opI fun _ _ _ _ _ _ _ hc q=>mul_int q hc.ok
theorem jS:OpR X (binaryOp .Mod) (rI (fun _ j=>0 < j) fun i j=>.int (i % j)):=opI fun i j _ _ _ _ _ hc q=>by
 have h1:(0:Int) < j:=hc
 exact mod_int' (by omega) (by rw [Int.fmod_eq_emod_of_nonneg i (by omega)];exact q)
theorem jc7:OpR X (binaryOp .Pow) (rI jhh fun i j=>.int (i ^ j.toNat)):=opI fun _ _ _ _ _ _ _ hc q=>pow_int_small hc.1 hc.2.1 hc.2.2 q
end
def jgv:V→V→Bool
 | .non,.non=>true | .non,.int _=>true | .int _,.non=>true | .non,.bl _=>true | .bl _,.non=>true | .non,.str _=>true | .str _,.non=>true
 | .int _,.int _=>true | .bl _,.bl _=>true | .str _,.str _=>true | .byt _,.byt _=>true
 | .int _,.str _=>true | .str _,.int _=>true | .bl _,.str _=>true | .str _,.bl _=>true
 | _,_=>false
def rEq:R2:=fun x y H Q=>jgv x y=true∧Q (.bl (decide (x=y))) H
def rNe:R2:=fun x y H Q=>jgv x y=true∧Q (.bl (!decide (x=y))) H
theorem ja3 {i j:Int}:decide (V.int i=V.int j)=(i == j):=by
 rw [Bool.eq_iff_iff]
 simp
theorem jdR {i j:Bool}:decide (V.bl i=V.bl j)=(i == j):=by
 rw [Bool.eq_iff_iff]
 simp
theorem ja2 {i j:Str}:decide (V.str i=V.str j)=(i == j):=by
 rw [Bool.eq_iff_iff]
 simp
theorem ja4 {i j:Array UInt8}:decide (V.byt i=V.byt j)=(i.toList == j.toList):=by
 rw [Bool.eq_iff_iff]
 cases i
 cases j
 simp
section
variable {X:Cx} {a b c:Expr} {ta tb tc:TE} {pos:Pos}
theorem j0 {pins:List (Addr×Obj)} {σ:St} {H:Hp} {s:Shared} {Q:VK} {k k':Bool} (I:Inv X pins σ H s) (q:Q (.bl k) H) (e:k=k'):EP X pins σ Q (.bool k') s:=by
 subst e
 exact ⟨.bl k,H,I,rfl,q⟩
theorem jY:OpR X (compareOp .Eq) rEq:=by
 intro pins s σ H x y v u Q I rx ry h
 obtain ⟨hs,q⟩:=h
 cases x with
 | non=>
  cases rx
  cases y with
  | non=>cases ry;exact PySem.EqNone.eq_none_none (j0 I q (by simp))
  | bl j=>cases ry;exact PySem.EqNone.eq_none_bool (j0 I q (by simp))
  | int j=>obtain ⟨t',rfl⟩:=ry;exact PySem.EqNone.eq_none_int (j0 I q (by simp))
  | str j=>obtain ⟨t',rfl⟩:=ry;exact PySem.EqNone.eq_none_str (j0 I q (by simp))
  | _=>exact absurd (show false=true from hs) Bool.false_ne_true
 | bl i=>
  cases rx
  cases y with
  | non=>cases ry;exact PySem.EqNone.eq_bool_none (j0 I q (by simp))
  | bl j=>cases ry;exact eq_bool (j0 I q jdR)
  | str j=>obtain ⟨t',rfl⟩:=ry;exact PySem.EqMixed.eq_bool_str (j0 I q (by simp))
  | _=>exact absurd (show false=true from hs) Bool.false_ne_true
 | int i=>
  obtain ⟨t,rfl⟩:=rx
  cases y with
  | non=>cases ry;exact PySem.EqNone.eq_int_none (j0 I q (by simp))
  | int j=>obtain ⟨t',rfl⟩:=ry;exact eq_int (j0 I q ja3)
  | str j=>obtain ⟨t',rfl⟩:=ry;exact PySem.EqMixed.eq_int_str (j0 I q (by simp))
  | _=>exact absurd (show false=true from hs) Bool.false_ne_true
 | str i=>
  obtain ⟨t,rfl⟩:=rx
  cases y with
  | non=>cases ry;exact PySem.EqNone.eq_str_none (j0 I q (by simp))
  | bl j=>cases ry;exact PySem.EqMixed.eq_str_bool (j0 I q (by simp))
  | int j=>obtain ⟨t',rfl⟩:=ry;exact PySem.EqMixed.eq_str_int (j0 I q (by simp))
  | str j=>obtain ⟨t',rfl⟩:=ry;exact eq_str (j0 I q ja2)
  | _=>exact absurd (show false=true from hs) Bool.false_ne_true
 | byt i=>
  obtain ⟨t,rfl⟩:=rx
  cases y with
  | byt j=>obtain ⟨t',rfl⟩:=ry;exact PySem.W.eq_bytes (j0 I q ja4)
  | _=>exact absurd (show false=true from hs) Bool.false_ne_true
 | _=>cases y <;> exact absurd (show false=true from hs) Bool.false_ne_true
theorem jgM:OpR X (compareOp .NotEq) rNe:=by
 intro pins s σ H x y v u Q I rx ry h
 obtain ⟨hs,q⟩:=h
 cases x with
 | non=>
  cases rx
  cases y with
  | non=>cases ry;exact PySem.EqNone.ne_none_none (j0 I q (by simp))
  | bl j=>cases ry;exact PySem.EqNone.ne_none_bool (j0 I q (by simp))
  | int j=>obtain ⟨t',rfl⟩:=ry;exact PySem.EqNone.ne_none_int (j0 I q (by simp))
  | str j=>obtain ⟨t',rfl⟩:=ry;exact PySem.EqNone.ne_none_str (j0 I q (by simp))
  | _=>exact absurd (show false=true from hs) Bool.false_ne_true
 | bl i=>
  cases rx
  cases y with
  | non=>cases ry;exact PySem.EqNone.ne_bool_none (j0 I q (by simp))
  | bl j=>cases ry;exact ne_bool (j0 I q (congrArg not jdR))
  | str j=>obtain ⟨t',rfl⟩:=ry;exact PySem.EqMixed.ne_bool_str (j0 I q (by simp))
  | _=>exact absurd (show false=true from hs) Bool.false_ne_true
 | int i=>
  obtain ⟨t,rfl⟩:=rx
  cases y with
  | non=>cases ry;exact PySem.EqNone.ne_int_none (j0 I q (by simp))
  | int j=>obtain ⟨t',rfl⟩:=ry;exact ne_int (j0 I q (congrArg not ja3))
  | str j=>obtain ⟨t',rfl⟩:=ry;exact PySem.EqMixed.ne_int_str (j0 I q (by simp))
  | _=>exact absurd (show false=true from hs) Bool.false_ne_true
 | str i=>
  obtain ⟨t,rfl⟩:=rx
  cases y with
  | non=>cases ry;exact PySem.EqNone.ne_str_none (j0 I q (by simp))
  | bl j=>cases ry;exact PySem.EqMixed.ne_str_bool (j0 I q (by simp))
  | int j=>obtain ⟨t',rfl⟩:=ry;exact PySem.EqMixed.ne_str_int (j0 I q (by simp))
  | str j=>obtain ⟨t',rfl⟩:=ry;exact ne_str (j0 I q (congrArg not ja2))
  | _=>exact absurd (show false=true from hs) Bool.false_ne_true
 | byt i=>
  obtain ⟨t,rfl⟩:=rx
  cases y with
  | byt j=>obtain ⟨t',rfl⟩:=ry;exact PySem.W.ne_bytes (j0 I q (congrArg not ja4))
  | _=>exact absurd (show false=true from hs) Bool.false_ne_true
 | _=>cases y <;> exact absurd (show false=true from hs) Bool.false_ne_true
theorem jfi:OpR X (compareOp .Lt) (rI0 fun i j=>.bl (decide (i < j))):=jgO fun _ _ _ _ _ _ _ q=>lt_int q
theorem jc8:OpR X (compareOp .Gt) (rI0 fun i j=>.bl (decide (j < i))):=jgO fun _ _ _ _ _ _ _ q=>gt_int q
theorem jH (b:Expr) {op:CmpOp} (h:op≠.In:=by decide) (h2:op≠.NotIn:=by decide):behindInMarks op b=false:=by
 have e1:(op == CmpOp.In)=false:=by cases op <;> first | rfl | exact absurd rfl h
 have e2:(op == CmpOp.NotIn)=false:=by cases op <;> first | rfl | exact absurd rfl h2
 cases b <;> simp [behindInMarks,e1,e2]
theorem jeA {op:CmpOp} {r:R2} (ho:OpR X (compareOp op) r) (ha:PE X a ta) (hb:PE X b tb) (hm:behindInMarks op b=false):PE X (.Compare a [op] [b] pos) (tOp r ta tb):=by
 intro pins s σ H Q I h
 exact wpAny_Compare1 (jga ha hb I h fun v u s2 x y H2 I2 rx ry q=>ho pins s2 σ H2 x y v u Q I2 rx ry q) hm
def je4 (t:TE):TT:=fun σ H Q=>t σ H fun x H'=>∃ k,x=.bl k∧Q k H'
theorem jeg {op:CmpOp} {r:R2} (ho:OpR X (compareOp op) r) (ha:PE X a ta) (hb:PE X b tb) (hm:behindInMarks op b=false):PT X (.Compare a [op] [b] pos) (je4 (tOp r ta tb)):=by
 intro pins s σ H Q I h
 refine wpAny_isTrue_Compare1 (thn (ha pins s σ H _ I h) fun v s1 ⟨x,H1,I1,r1,q1⟩=>thn (hb pins s1 σ H1 _ I1 q1) fun u s2 ⟨y,H2,I2,r2,q2⟩=>
  thn (ho pins s2 σ H2 x y v u _ I2 r1 r2 q2) fun c s3 ⟨z,H3,I3,r3,k,e,q3⟩=>?_) hm
 subst e
 cases r3
 exact wpAny_truthy_bool ⟨H3,I3,q3⟩
theorem Yy:(sizeLine:Nat) < 2 ^ 63:=by rw [sizeLine_eq];decide
theorem qT:OpR X (binaryOp .Add) (fun x y H Q=>∃ i j,x=.str i∧y=.str j∧i.length+j.length≤sizeLine∧Q (.str (i++j)) H):=by
 intro pins s σ H x y v u Q I rx ry h
 obtain ⟨i,j,rfl,rfl,hz,q⟩:=h
 obtain ⟨t,rfl⟩:=rx
 obtain ⟨t',rfl⟩:=ry
 exact add_str (fun t' tk=>⟨.str (i++j),H,I.tok _,⟨_,rfl⟩,q⟩) hz
theorem Jf {x:V} {us:List Value} (r:Vals [x] us):∃ u,us=[u]∧RelV x u:=by
 cases r with
 | cons r1 r2=>cases r2;exact ⟨_,rfl,r1⟩
theorem jch {x y:V} {us:List Value} (r:Vals [x,y] us):∃ u w',us=[u,w']∧RelV x u∧RelV y w':=by
 cases r with
 | cons r1 r2=>
  cases r2 with
  | cons r3 r4=>cases r4;exact ⟨_,_,rfl,r1,r3⟩
end
structure ObjM (h:Heap) (x dx C:Addr) (mA:Str→Option Value):Prop where
 obj:h.get? x=some (PySem.W.instObj C dx)
 ns:h.Ns1 dx mA
 ne:dx≠x
theorem jbI {h:Heap} {dx:Addr} {mA:Str→Option Value} (n:h.Ns1 dx mA):∃ od,h.get? dx=some od∧∀ name,PySem.W.lookIn name od=some (mA name):=by
 obtain ⟨o,es,ep,ho,hd,hk,_,hm⟩:=n
 refine ⟨o,ho,fun name=>?_⟩
 have e:=hm name
 unfold nsFind findBy at e
 rw [← Array.find?_toList] at e
 unfold PySem.W.lookIn
 rw [hd]
 dsimp only
 split
 ·rename_i y q
  rw [q] at e
  exact congrArg some e
 ·rename_i q
  rw [q] at e
  have a:es.toList.any (·.refKey)=false:=by
   rw [List.any_eq_false]
   intro y hy
   obtain ⟨z,t,hkey⟩:=hk y (Array.mem_toList_iff.mp hy)
   simp [DictEntry.refKey,hkey]
  have a':¬ es.toList.any (·.refKey)=true:=by rw [a];exact Bool.false_ne_true
  rw [if_neg a']
  exact congrArg some e
theorem ObjM.look {h:Heap} {x dx C:Addr} {mA:Str→Option Value} (I:ObjM h x dx C mA):∃ od,PySem.W.InstAt h x (PySem.W.instObj C dx) C (some od)∧∀ name,PySem.W.lookIn name od=some (mA name):=
 let ⟨od,ho,hl⟩:=jbI I.ns
 ⟨od,⟨I.obj,rfl,rfl,ho⟩,hl⟩
section
variable {prog:Program} {w:World} {A:Around} {E:Value→Shared→Prop} {s:Shared} {K:PySem.W.Frag} {x dx C f:Addr} {mA:Str→Option Value} {name:Str} {v:Value}
theorem jeW {expr:Bool} {Q:Value→Shared→Prop} (X:K.In s.heap) (I:ObjM s.heap x dx C mA) (hg:PySem.W.plainGet K C name=true) (hh:PySem.W.hasDictIn K C=true)
  (ha:PySem.W.findIn K (.ref C) name=some none) (hv:mA name=some v) (hv':PySem.W.handedIn v=true) (h:Q v { s with toks:=s.toks+1 }) :
  wpAny (model prog w) A (getAttr (.ref x) name expr) Q E s:=by
 obtain ⟨od,J,hl⟩:=I.look
 exact PySem.W.get_value X J (PySem.W.plainGet_of hg).1 (PySem.W.findObj_own hh ha rfl (by rw [hl,hv])) hv' h
theorem jd9 {ns:List Str} {Q:Unit→Shared→Prop} (X:K.In s.heap) (I:ObjM s.heap x dx C mA)
  (hs:PySem.W.findIn K (.ref C) "__setattr__" = some (some (.builtin "object.__setattr__"))) (hp:PySem.W.plainOver K C=true) (ht:PySem.W.takerIn K C name=some none) (hh:PySem.W.hasDictIn K C=true)
  (hw:PySem.Within mA ns) (hsz:ns.length≤sizeLine)
  (h:∀ h',ObjM h' x dx C (fun y=>if y=name then some v else mA y)→Heap.SameBut dx s.heap h'→Q () { s with heap:=h',toks:=s.toks+2 }) :
  wpAny (model prog w) A (setAttr (.ref x) name v) Q E s:=by
 obtain ⟨od,J,hl⟩:=I.look
 refine PySem.W.set_plain X J hs (PySem.W.osa_open (s:={ s with toks:=s.toks+1 }) (r:=none) X J hp ht fun b=>?_)
 obtain ⟨cd,hc,hd'⟩:=PySem.W.any_some hh
 have hx:s.heap.get? x=some ⟨.ref C,some dx,.plain,#[]⟩:=I.obj
 refine wpAny_bind (wpAny_pure (wpAny_bind (wpAny_bind (wpAny_loadPart hx (wpAny_bind (PySem.W.Looks.here (s:={ s with toks:=s.toks+1 }) (PySem.W.looks_clsIn X hc) ?_))))))
 rw [hd']
 refine wpAny_pure (a:=some dx) (wpAny_bind (wpAny_pure (wpAny_bind ?_)))
 refine wpAny_nsSet1 (s:={ s with toks:=s.toks+1 }) I.ns fun h' hn2 hs2=>?_
 obtain ⟨oD,esD,epD,hoD,hdD,hcD⟩:=hn2.count (PySem.Within.cons name v hw)
 refine wpAny_bind (wpAny_lookBehind hoD (by rw [hdD];exact pastItsLine_dict (Nat.le_trans hcD (by rw [List.length_cons];omega))) ?_)
 exact wpAny_pure (h _ ⟨(hs2.2 _ (Ne.symm I.ne)).trans I.obj,hn2,I.ne⟩ hs2)
theorem jdt {R:Result→Shared→Prop} {vs:List Value} {kw:List (Str×Value)} (X:K.In s.heap) (hm:PySem.W.makesIn K C=true)
  (hi:PySem.W.findIn K (.ref C) "__init__" = some (some (.ref f))) (hf:PySem.W.typeIn K (.ref f)=some (.type "function"))
  (h:codeAny (model prog w) (A.under (.builtin "type.__call__" ⟨.ref C :: vs,kw⟩)) (.call (.ref f) ⟨.ref (s.heap.objs.size+1) :: vs,kw⟩) (PySem.W.InitBack (s.heap.objs.size+1) R)
   { s with heap:=(s.heap.push PySem.W.emptyDict).push (PySem.W.instObj C s.heap.objs.size) }) :
  codeAny (model prog w) A (.call (.ref C) ⟨vs,kw⟩) R s:=by
 obtain ⟨hh,g,d,t,os⟩:=s
 exact PySem.W.make_core (PySem.W.makes_of X hm) (PySem.W.looks_findIn X hi) (fun self=>PySem.W.bind_fn X self hf) (.inl rfl) h
end
def yj (f:Str) (v:V):List (Str×V)→List (Str×V)
 | []=>[(f,v)]
 | (g,x) :: r=>if g=f then (g,v) :: r else (g,x) :: yj f v r
theorem Jj (f g:Str) (v:V):∀ fs:List (Str×V),(yj f v fs).lookup g=if g=f then some v else fs.lookup g
 | []=>by
  show List.lookup g [(f,v)]=_
  by_cases h:g=f
  ·have hb:(g == f)=true:=beq_iff_eq.mpr h
   simp only [List.lookup,hb,if_pos h]
  ·have hb:(g == f)=false:=beq_eq_false_iff_ne.mpr h
   simp only [List.lookup,hb,if_neg h]
 | (k,x) :: r=>by
  have ih:=Jj f g v r
  rw [show yj f v ((k,x) :: r)=(if k=f then (k,v) :: r else (k,x) :: yj f v r) from rfl]
  by_cases hk:k=f
  ·rw [if_pos hk]
   by_cases h:g=k
   ·have hb:(g == k)=true:=beq_iff_eq.mpr h
    simp only [List.lookup,hb,if_pos (h.trans hk)]
   ·have hb:(g == k)=false:=beq_eq_false_iff_ne.mpr h
    simp only [List.lookup,hb,if_neg (fun e:g=f=>h (e.trans hk.symm))]
  ·rw [if_neg hk]
   by_cases h:g=k
   ·have hb:(g == k)=true:=beq_iff_eq.mpr h
    simp only [List.lookup,hb,if_neg (fun e:g=f=>hk (h.symm.trans e))]
   ·have hb:(g == k)=false:=beq_eq_false_iff_ne.mpr h
    simp only [List.lookup,hb]
    exact ih
theorem Ja (f:Str) (v:V):∀ fs:List (Str×V),f∈(yj f v fs).map (·.1)∧∀ g,g∈fs.map (·.1)→g∈(yj f v fs).map (·.1)
 | []=>⟨by simp [yj],fun g h=>by simp at h⟩
 | (k,x) :: r=>by
  obtain ⟨i1,i2⟩:=Ja f v r
  rw [show yj f v ((k,x) :: r)=(if k=f then (k,v) :: r else (k,x) :: yj f v r) from rfl]
  by_cases hk:k=f
  ·rw [if_pos hk]
   subst hk
   exact ⟨by simp,fun g h=>by simpa using h⟩
  ·rw [if_neg hk]
   refine ⟨?_,fun g h=>?_⟩
   ·rw [List.map_cons]
    exact List.mem_cons_of_mem _ i1
   ·rw [List.map_cons] at h ⊢
    rcases List.mem_cons.mp h with e | e
    ·exact List.mem_cons.mpr (.inl e)
    ·exact List.mem_cons_of_mem _ (i2 g e)
theorem Jl (f:Str) (v:V):∀ fs:List (Str×V),(yj f v fs).length≤fs.length+1
 | []=>by simp [yj]
 | (k,x) :: r=>by
  have ih:=Jl f v r
  rw [show yj f v ((k,x) :: r)=(if k=f then (k,v) :: r else (k,x) :: yj f v r) from rfl]
  by_cases hk:k=f
  ·rw [if_pos hk,List.length_cons,List.length_cons];omega
  ·rw [if_neg hk,List.length_cons,List.length_cons];omega
theorem RelO.some_of {v:V} {o:Option Value} (r:RelO (some v) o):∃ u,o=some u∧RelV v u:=by
 cases o with
 | none=>exact (show False from r).elim
 | some u=>exact ⟨u,rfl,r⟩
theorem jbQ {v:V} {u:Value} (r:RelV v u):PySem.W.handedIn u=true:=by
 cases v with
 | non=>cases (show u=Value.none from r);rfl
 | bl b=>cases (show u=Value.bool b from r);rfl
 | int i=>obtain ⟨t,e⟩:=(show ∃ t,u=Value.int i t from r);cases e;rfl
 | str x=>obtain ⟨t,e⟩:=(show ∃ t,u=Value.str x t from r);cases e;rfl
 | byt b=>obtain ⟨t,e⟩:=(show ∃ t,u=Value.bytes b t from r);cases e;rfl
 | flt b=>obtain ⟨t,e⟩:=(show ∃ t,u=Value.float b t from r);cases e;rfl
 | ref a=>cases (show u=Value.ref a from r);rfl
 | ty n=>cases (show u=Value.type n from r);rfl
section
variable {P:Program} {w:World} {H H':Hp} {h h':Heap} {a C dx:Addr} {fs fs':List (Str×V)}
theorem YD (hok:HOk P w H h) (e:H a=some (.ins C dx fs)):∃ mA,ObjM h a dx C mA∧(∀ f,RelO (fs.lookup f) (mA f))∧PySem.Within mA (fs.map (·.1))∧fs.length≤1000∧H dx=some (.own a):=by
 obtain ⟨d,z,ne,ob,mA,n,r,q⟩:=(show ObjOk P w H h a (.ins C dx fs) from hok a _ e)
 exact ⟨mA,⟨ob,n,ne⟩,r,q,z,d⟩
end
structure Cls (K:PySem.W.Frag) (C:Addr):Prop where
 pg:PySem.W.plainGet K C Str.empty=true
 hd:PySem.W.hasDictIn K C=true
 po:PySem.W.plainOver K C=true
 sa:PySem.W.findIn K (.ref C) "__setattr__" = some (some (.builtin "object.__setattr__"))
theorem Cls.get {K:PySem.W.Frag} {C:Addr} (c:Cls K C) (f:Str):PySem.W.plainGet K C f=true:=c.pg
def NoAttr (K:PySem.W.Frag) (C:Addr) (f:Str):Prop:=PySem.W.findIn K (.ref C) f=some none
theorem NoAttr.taker {K:PySem.W.Frag} {C:Addr} {f:Str} (n:NoAttr K C f):PySem.W.takerIn K C f=some none:=by
 unfold PySem.W.takerIn
 rw [show PySem.W.findIn K (.ref C) f=some none from n]
 rfl
section
variable {X:Cx} {pins:List (Addr×Obj)} {σ:St} {H:Hp} {s:Shared} {a C dx:Addr} {fs:List (Str×V)} {f:Str} {v:V} {A:Around} {E:Value→Shared→Prop}
theorem Z7 {b:Bool} {Q:Value→Shared→Prop} (I:Inv X pins σ H s) (e:H a=some (.ins C dx fs)) (c:Cls X.K C) (n:NoAttr X.K C f) (l:fs.lookup f=some v)
  (h:∀ u s',Inv X pins σ H s'→RelV v u→Q u s'):wpAny (model X.prog X.w) A (getAttr (.ref a) f b) Q E s:=by
 obtain ⟨mA,O,r,_,_,_⟩:=YD I.hok e
 obtain ⟨u,hu,ru⟩:=RelO.some_of (v:=v) (o:=mA f) (by rw [← l];exact r f)
 exact jeW I.kIn O (c.get f) c.hd n hu (jbQ ru) (h u _ (I.tok _) ru)
theorem ZQ {y:V} {u:Value} {Q:Unit→Shared→Prop} (I:Inv X pins σ H s) (e:H a=some (.ins C dx fs)) (c:Cls X.K C) (n:NoAttr X.K C f) (hl:fs.length < 1000) (ry:RelV y u)
  (h:∀ s',Inv X pins σ (upd H a (.ins C dx (yj f y fs))) s'→Q () s'):wpAny (model X.prog X.w) A (setAttr (.ref a) f u) Q E s:=by
 obtain ⟨mA,O,r,wi,_,ho⟩:=YD I.hok e
 have hz:(fs.map (·.1)).length≤sizeLine:=by rw [List.length_map,sizeLine_eq];omega
 refine jd9 I.kIn O c.sa c.po n.taker c.hd wi hz fun h' O' sb=>h _ ?_
 have hd:∃ o,h'.get? dx=some o:=let ⟨o,_,_,e',_⟩:=O'.ns;⟨o,e'⟩
 refine I.write (x:=a) (e:=dx) (by rw [e];exact True.intro) (.inr ho) (fun b q hb z=>(sb.2 b hb).trans z) hd ?_
 refine ⟨by rw [jr O.ne];exact ho,?_,O.ne,O'.obj,_,O'.ns,fun g=>?_,fun g hg=>?_⟩
 ·have:=Jl f y fs;omega
 ·show RelO ((yj f y fs).lookup g) (if g=f then some u else mA g)
  rw [Jj]
  by_cases q:g=f
  ·rw [if_pos q,if_pos q];exact ry
  ·rw [if_neg q,if_neg q];exact r g
 ·by_cases q:g=f
  ·rw [q];exact (Ja f y fs).1
  ·refine (Ja f y fs).2 g (wi g fun z=>hg ?_)
   show (if g=f then some u else mA g)=none
   rw [if_neg q];exact z
theorem Inv.made (I:Inv X pins σ H s):Inv X pins σ (upd (upd H s.heap.objs.size (.own (s.heap.objs.size+1))) (s.heap.objs.size+1) (.ins C s.heap.objs.size []))
  { s with heap:=(s.heap.push PySem.W.emptyDict).push (PySem.W.instObj C s.heap.objs.size) }:=by
 have e1:(s.heap.push PySem.W.emptyDict).get? s.heap.objs.size=some PySem.W.emptyDict:=Heap.get?_push_size s.heap rfl
 have e2:((s.heap.push PySem.W.emptyDict).push (PySem.W.instObj C s.heap.objs.size)).get? (s.heap.objs.size+1)=some (PySem.W.instObj C s.heap.objs.size):=by
  have:=Heap.get?_push_size (s.heap.push PySem.W.emptyDict) (o:=PySem.W.instObj C s.heap.objs.size) rfl
  rwa [Heap.size_push] at this
 have e3:(s.heap.push PySem.W.emptyDict).Ns s.heap.objs.size (fun _=>none):=⟨PySem.W.emptyDict,#[],_,e1,rfl,(fun e he=>absurd he (by simp)),fun _=>rfl⟩
 have I1:=I.laid (a:=s.heap.objs.size) (o:=.own (s.heap.objs.size+1)) (h':=s.heap.push PySem.W.emptyDict) (t':=s.toks) (fun b u q=>Heap.get?_push_of_some _ q) (Nat.le_refl _) ⟨_,e1⟩
 refine I1.laid (a:=s.heap.objs.size+1) (o:=.ins C s.heap.objs.size []) (t':=s.toks) (fun b u q=>Heap.get?_push_of_some _ q) (Nat.le_of_eq (Heap.size_push _ _)) ?_
 have ne:s.heap.objs.size≠s.heap.objs.size+1:=Nat.ne_of_lt (Nat.lt_succ_self _)
 refine ⟨by rw [jr ne,jb],Nat.zero_le _,ne,e2,fun _=>none,(Heap.Ns1.of_empty e3).at fun o q=>Heap.get?_push_of_some _ q,fun _=>True.intro,fun y hy=>absurd rfl hy⟩
theorem je1 {prog:Program} {w:World} {env:Env} {e:Expr} {f:Str} {pos:Pos} {s:Shared} {Q:Value→Shared→Prop} (hb:attributeBase e f env (eval e env)=eval e env)
  (h:wpAny (model prog w) A (eval e env) (fun o s₁=>wpAny (model prog w) A (getAttr o f true) Q E s₁) E s):wpAny (model prog w) A (eval (.Attribute e f pos) env) Q E s:=
 Attribute_any_ h (by rw [arm_eval_Attribute,hb])
end
def jgp (K:PySem.W.Frag) (ta:TE) (f:Str):TE:=fun σ H Q=>ta σ H fun x H1=>∃ a C dx fs v,x=.ref a∧H1 a=some (.ins C dx fs)∧Cls K C∧NoAttr K C f∧fs.lookup f=some v∧Q v H1
def jgw (K:PySem.W.Frag) (ta tv:TE) (f:Str):TS:=fun D σ H=>tv σ H fun y H1=>ta σ H1 fun x H2=>∃ a C dx fs,x=.ref a∧H2 a=some (.ins C dx fs)∧Cls K C∧NoAttr K C f∧fs.length < 1000∧
 D.nx σ (upd H2 a (.ins C dx (yj f y fs)))
section
variable {X:Cx} {o e value:Expr} {f:Str} {pos pos' tpos:Pos} {ta tv:TE}
theorem jfL (he:PE X e ta) (hb:attributeBase e f X.env (eval e X.env)=eval e X.env):PE X (.Attribute e f pos) (jgp X.K ta f):=by
 intro pins s σ H Q I h
 refine je1 hb (thn (he pins s σ H _ I h) fun u s1 ⟨x,H1,I1,rx,a,C,dx,fs,v,ex,ea,c,n,l,q⟩=>?_)
 subst ex
 obtain rfl:u=Value.ref a:=rx
 exact Z7 I1 ea c n l fun u' s2 I2 ru=>⟨v,H1,I2,ru,q⟩
theorem jfF (ha:PE X o ta) (hv:PE X value tv) (hs:swapsWith value (some (.Attribute o f pos')) pos.line X.env=pure false):PS X (.Assign [.Attribute o f pos'] value pos) (jgw X.K ta tv f):=by
 intro pins s σ H D I h
 refine plainObj_wpAny_Assign_Attribute (thn (hv pins s σ H _ I h) fun u s1 ⟨y,H1,I1,ry,q⟩=>thn (ha pins s1 σ H1 _ I1 q) fun ov s2 ⟨x,H2,I2,rx,a,C,dx,fs,ex,ea,c,n,l,q2⟩=>?_) hs
 subst ex
 obtain rfl:ov=Value.ref a:=rx
 exact ZQ I2 ea c n l ry fun s3 I3=>⟨σ,_,I3,q2⟩
end
section
variable {X:Cx} {pins:List (Addr×Obj)} {σ:St} {H:Hp} {s:Shared} {A:Around} {E:Value→Shared→Prop} {Q:Value→Shared→Prop} {c:Value} {b:Bool}
inductive TyOf (K:PySem.W.Frag) (H:Hp):V→Value→Prop where
 | non:TyOf K H .non (.type "NoneType")
 | bl (x:Bool):TyOf K H (.bl x) (.type "bool")
 | int (i:Int):TyOf K H (.int i) (.type "int")
 | str (x:Str):TyOf K H (.str x) (.type "str")
 | flt (x:UInt64):TyOf K H (.flt x) (.type "float")
 | lst {a:Addr} {xs:List V} (e:H a=some (.lst xs)):TyOf K H (.ref a) (.type "list")
 | frz {a:Addr} {o:Obj} {xs:List V} (e:H a=some (.frz o (.lst xs))):TyOf K H (.ref a) (.type "list")
 | tup {a:Addr} {xs:List V} (e:H a=some (.tup xs)):TyOf K H (.ref a) (.type "tuple")
 | dK {a:Addr} {kvs:List (Key×V)} (e:H a=some (.dK kvs)):TyOf K H (.ref a) (.type "dict")
 | dT {a:Addr} {kvs:List (List Key×V)} (e:H a=some (.dT kvs)):TyOf K H (.ref a) (.type "dict")
 | ins {a C dx:Addr} {fs:List (Str×V)} (e:H a=some (.ins C dx fs)) (cl:Cls K C) (ha:PySem.W.findIn K (.ref C) "__class__" = some (some (.builtin "object.__class__")))
   (hn:PySem.W.specialIn K (.builtin "object.__class__") "__get__" = some (some (.builtin "getset_descriptor.__get__"))) (htk:PySem.W.takesIn K (.builtin "object.__class__")=some true)
   (hm:PySem.W.mroIn K C (.type "object")=some true):TyOf K H (.ref a) (.ref C)
theorem jbM {x:V} {u t:Value} (I:Inv X pins σ H s) (rx:RelV x u) (ty:TyOf X.K H x t) (e:PySem.W.kitOne X.K t c=some b) (h:∀ tk,Q (.bool b) { s with toks:=tk }) :
  wpAny (model X.prog X.w) A (call (.builtin "isinstance") [u,c]) Q E s:=by
 cases ty with
 | non=>cases (show u=Value.none from rx);exact PySem.W.kia_one PySem.W.kitx_none I.kIn True.intro e (fun z=>nomatch z) h
 | bl y=>cases (show u=Value.bool y from rx);exact PySem.W.kia_one PySem.W.kitx_bool I.kIn True.intro e (fun z=>nomatch z) h
 | int i=>obtain ⟨t,q⟩:=(show ∃ t,u=Value.int i t from rx);cases q;exact PySem.W.kia_one PySem.W.kitx_int I.kIn True.intro e (fun z=>nomatch z) h
 | str y=>obtain ⟨t,q⟩:=(show ∃ t,u=Value.str y t from rx);cases q;exact PySem.W.kia_one PySem.W.kitx_str I.kIn True.intro e (fun z=>nomatch z) h
 | flt y=>obtain ⟨t,q⟩:=(show ∃ t,u=Value.float y t from rx);cases q;exact PySem.W.kia_one PySem.W.kitx_float I.kIn True.intro e (fun z=>nomatch z) h
 | @lst a xs ea=>
  cases (show u=Value.ref a from rx)
  obtain ⟨_,_,n,_,h1⟩:=(show ObjOk X.prog X.w H s.heap a (.lst xs) from I.hok a _ ea)
  exact PySem.W.kia_one PySem.W.kitx_list I.kIn ⟨_,h1,rfl⟩ e (fun z=>nomatch z) h
 | @frz a ob xs ea=>
  cases (show u=Value.ref a from rx)
  obtain ⟨_,_,_,n,_,h1⟩:=(show ObjOk X.prog X.w H s.heap a (.frz ob (.lst xs)) from I.hok a _ ea)
  exact PySem.W.kia_one PySem.W.kitx_list I.kIn ⟨_,h1,rfl⟩ e (fun z=>nomatch z) h
 | @tup a xs ea=>
  cases (show u=Value.ref a from rx)
  obtain ⟨_,_,_,p⟩:=(show ObjOk X.prog X.w H s.heap a (.tup xs) from I.hok a _ ea)
  obtain ⟨o,h1,h2,_⟩:=p
  exact PySem.W.kia_one PySem.W.kitx_tuple I.kIn ⟨o,h1,h2⟩ e (fun z=>nomatch z) h
 | @dK a kvs ea=>
  cases (show u=Value.ref a from rx)
  obtain ⟨_,_,vs,_,p⟩:=(show ObjOk X.prog X.w H s.heap a (.dK kvs) from I.hok a _ ea)
  obtain ⟨o,es,ep,h1,h2,_⟩:=p
  exact PySem.W.kia_one PySem.W.kitx_dict I.kIn ⟨o,h1,h2.1⟩ e (fun z=>nomatch z) h
 | @dT a kvs ea=>
  cases (show u=Value.ref a from rx)
  obtain ⟨_,_,xs,_,o,es,ep,h1,h2,_⟩:=(show ObjOk X.prog X.w H s.heap a (.dT kvs) from I.hok a _ ea)
  exact PySem.W.kia_one PySem.W.kitx_dict I.kIn ⟨o,h1,h2.1⟩ e (fun z=>nomatch z) h
 | @ins a C dx fs ea cl ha hn htk hm=>
  cases (show u=Value.ref a from rx)
  obtain ⟨mA,O,_⟩:=YD I.hok ea
  obtain ⟨od,J,_⟩:=O.look
  exact PySem.W.kia_one (PySem.W.kitx_own (cl.get _) cl.hd ha hn htk hm) I.kIn J e (fun z=>nomatch z) h
end
structure Room (k:Nat) (A:Around):Prop where
 hd:A.handled=none
 dp:A.depth+3 * k+5 < recursionLimit
 un:A.units+16 * k+200 < cLine
theorem Room.mono {j k:Nat} {A:Around} (r:Room k A) (h:j≤k):Room j A:=⟨r.hd,by have:=r.dp;omega,by have:=r.un;omega⟩
theorem Room.deeper {k:Nat} {A:Around} (r:Room (k+1) A) (env:Env):Room k (A.deeper env):=
 ⟨r.hd,by have:=r.dp;show A.depth+1+3 * k+5 < _;omega,by have:=r.un;show A.units+3+16 * k+200 < _;omega⟩
theorem Room.in1 {k:Nat} {A:Around} (r:Room (k+1) A):Room k A.in1:=
 ⟨r.hd,by have:=r.dp;show A.depth+3 * k+5 < _;omega,by have:=r.un;show A.units+1+16 * k+200 < _;omega⟩
theorem Z2 {A:Around} {C:Addr} {us:List Value} {kw:List (Str×Value)}:(A.under (.builtin "type.__call__" ⟨.ref C :: us,kw⟩)).depth=A.depth+1:=by
 first | rfl | simp [Around.under,Code.weight,Code.isCreation,Code.isGuard,Code.isCaller,Code.frames,Code.isFrame,guardIds]
theorem Z0 {A:Around} {C:Addr} {us:List Value} {kw:List (Str×Value)}:(A.under (.builtin "type.__call__" ⟨.ref C :: us,kw⟩)).units=A.units+1:=by
 first | rfl | simp [Around.under,Code.cUnits,Code.frames,Code.isFrame]
theorem Room.make {k:Nat} {A:Around} (r:Room (k+1) A) (C:Addr) (us:List Value) (kw:List (Str×Value)):Room k (A.under (.builtin "type.__call__" ⟨.ref C :: us,kw⟩)):=
 ⟨r.hd,by have:=r.dp;rw [Z2];omega,by have:=r.un;rw [Z0];omega⟩
theorem Room.depth {k:Nat} {A:Around} (r:Room k A):A.depth < recursionLimit:=by have:=r.dp;omega
theorem Room.units {k:Nat} {A:Around} (r:Room k A):A.units+64 < cLine:=by have:=r.un;omega
def jgk:TA:=fun _ H Q=>Q [] H
def jcs (ta:TE) (tr:TA):TA:=fun σ H Q=>ta σ H fun x H1=>tr σ H1 fun xs H2=>Q (x :: xs) H2
section
variable {X:Cx} {e:Expr} {es:List Expr} {te:TE} {t:TA} {pos:Pos}
theorem jc4:PA X [] jgk:=fun _ _ _ _ H Q I h=>Calls.spliced_nil ⟨[],H,I,.nil,h⟩
theorem jeD (ha:PE X e te) (hr:PA X es t) (hs:starEach (e :: es) X.env=(false,eval e X.env) :: starEach es X.env:=by rfl):PA X (e :: es) (jcs te t):=by
 intro pos pins s σ H Q I h
 rw [hs]
 show wpAny _ _ (spliced ((false,eval e X.env) :: backTo pos (starEach es X.env))) _ _ s
 refine Calls.spliced_cons (thn (ha pins s σ H _ I h) fun u s1 ⟨x,H1,I1,r1,q1⟩=>?_)
 exact thn (hr pos pins s1 σ H1 _ I1 q1) fun us s2 ⟨xs,H2,I2,r2,q2⟩=>⟨x :: xs,H2,I2,.cons r1 r2,q2⟩
def jgh (t:TA):TE:=fun σ H Q=>t σ H fun xs H1=>xs.length≤sizeLine∧∀ p,H1 p=none→Q (.ref p) (upd H1 p (.tup xs))
def jgl (t:TA):TE:=fun σ H Q=>t σ H fun xs H1=>xs.length≤sizeLine∧∀ p,H1 p=none→Q (.ref p) (upd H1 p (.lst xs))
theorem jcQ {x1} (h:PA X es t):PE X (.Tuple es x1 pos) (jgh t):=by
 intro pins s σ H Q I hq
 refine wpAny_Tuple_spliced (thn (h pos pins s σ H _ I hq) fun us s1 ⟨xs,H1,I1,r,z,q⟩=>⟨by rw [← r.length];exact z,?_⟩)
 have hf:H1 s1.heap.objs.size=none:=I1.hok.fresh (Nat.le_refl _)
 refine ⟨.ref s1.heap.objs.size,upd H1 s1.heap.objs.size (.tup xs),I1.laid (t':=s1.toks) (fun b u e=>Heap.get?_push_of_some _ e) (Nat.le_refl _) ?_,rfl,q _ hf⟩
 exact ⟨z,us,r,⟨_,Heap.get?_push_size _ rfl,rfl,_,rfl⟩⟩
theorem jfK (h:PA X es t):PE X (.List es pos) (jgl t):=by
 intro pins s σ H Q I hq
 refine wpAny_List_spliced (thn (h pos pins s σ H _ I hq) fun us s1 ⟨xs,H1,I1,r,z,q⟩=>⟨by rw [← r.length];exact z,?_⟩)
 have hf:H1 s1.heap.objs.size=none:=I1.hok.fresh (Nat.le_refl _)
 refine ⟨.ref s1.heap.objs.size,upd H1 s1.heap.objs.size (.lst xs),I1.laid (t':=s1.toks) (fun b u e=>Heap.get?_push_of_some _ e) (Nat.le_refl _) ?_,rfl,q _ hf⟩
 exact ⟨z,us,0,r,Heap.get?_push_size _ rfl⟩
end
abbrev Sp:=List V→Hp→VK→XK→Prop
abbrev CXT:=List Env→Hp→Shared→XK→Value→Shared→Prop
structure Env0 (P:Program) (w:World) (K:PySem.W.Frag) (mg:Str→Option Value) (base:Heap) (A:Around) (outer:List Env) (s:Shared) (H:Hp):Prop where
 frames:A.frames=some outer
 mod:Mod K mg base
 bs:∀ b o,base.get? b=some o→s.heap.get? b=some o∧H b=none
 bsz:base.objs.size≤s.heap.objs.size
 funs:s.heap.FunFrames base outer
 frf:∀ b∈frs outer,H b=none
 hok:HOk P w H s.heap
 bare:AllBare s.gens
def CE (outer:List Env) (P:Program) (w:World) (H:Hp) (s:Shared) (Q:VK) (u:Value) (s':Shared):Prop:=
 ∃ v H',s'.os=s.os∧AllBare s'.gens∧Un (frs outer) [] H H' s.heap s'.heap∧HOk P w H' s'.heap∧RelV v u∧Q v H'
def CR (CX:CXT) (outer:List Env) (P:Program) (w:World) (H:Hp) (s:Shared) (Q:VK) (E:XK) (r:Result) (s':Shared):Prop:=
 match r with
 | .ok (.ret u)=>CE outer P w H s Q u s'
 | .ok _=>False
 | .error e=>CX outer H s E e s'
structure FnOk (P:Program) (w:World) (K:PySem.W.Frag) (mg:Str→Option Value) (base:Heap) (CX:CXT) (k:Nat) (f:Addr) (fd:FuncData) (ps:List Str) (sp:Sp):Prop where
 len:∀ vs H Q E,sp vs H Q E→vs.length=ps.length
 run:∀ (A:Around) (outer:List Env) (s:Shared) (H:Hp) (args:Args) (us:List Value) (vs:List V) (Q:VK) (E:XK),Room k A→Env0 P w K mg base A outer s H→BindsTo s fd args (ps.zip us)→Vals vs us→sp vs H Q E→
  codeAny (model P w) A (.call (.ref f) args) (CR CX outer P w H s Q E) s
theorem FnOk.imp {P:Program} {w:World} {K:PySem.W.Frag} {mg:Str→Option Value} {base:Heap} {CX:CXT} {k:Nat} {f:Addr} {fd:FuncData} {ps:List Str} {sp sp':Sp} (F:FnOk P w K mg base CX k f fd ps sp)
  (h:∀ vs H Q E,sp' vs H Q E→sp vs H Q E):FnOk P w K mg base CX k f fd ps sp':=
 ⟨fun vs H Q E q=>F.len vs H Q E (h _ _ _ _ q),fun A outer s H args us vs Q E hr he hb hv hs=>F.run A outer s H args us vs Q E hr he hb hv (h _ _ _ _ hs)⟩
theorem Env0.make {P:Program} {w:World} {K:PySem.W.Frag} {mg:Str→Option Value} {base:Heap} {A:Around} {outer:List Env} {s:Shared} {H:Hp} (e:Env0 P w K mg base A outer s H) (C:Addr) (us:List Value) (kw:List (Str×Value)) :
  Env0 P w K mg base (A.under (.builtin "type.__call__" ⟨.ref C :: us,kw⟩)) outer s H:=⟨by first | exact e.frames | (simpa [Around.under,Code.envs,Code.isFrame,pushEnvs] using e.frames),e.mod,e.bs,e.bsz,e.funs,e.frf,e.hok,e.bare⟩
theorem Env0.in1 {P:Program} {w:World} {K:PySem.W.Frag} {mg:Str→Option Value} {base:Heap} {A:Around} {outer:List Env} {s:Shared} {H:Hp} (e:Env0 P w K mg base A outer s H) :
  Env0 P w K mg base A.in1 outer s H:=⟨e.frames,e.mod,e.bs,e.bsz,e.funs,e.frf,e.hok,e.bare⟩
section
variable {X:Cx} {pins:List (Addr×Obj)} {σ:St} {H:Hp} {s s':Shared}
theorem Inv.env0 (I:Inv X pins σ H s):Env0 X.prog X.w X.K X.mg X.base X.A X.stack s H:=
 ⟨I.ok.frames,I.ok.mod,I.bs,Nat.le_trans I.ok.bsz I.sz,I.stack,I.stkFree,I.hok,I.bare⟩
theorem Inv.after {Q:VK} {u:Value} (I:Inv X pins σ H s) (h:CE X.stack X.prog X.w H s Q u s'):EP X pins σ Q u s':=by
 obtain ⟨v,H',os,bare,un,hok,r,q⟩:=h
 obtain ⟨hh,g,d,t,os'⟩:=s'
 obtain rfl:os'=s.os:=os
 exact ⟨v,H',I.call (h':=hh) (g':=g) (d':=d) (t':=t) (ch:=[]) un hok bare (fun b z=>absurd z (by simp)),r,q⟩
end
def jct (sp:Sp) (dvs:List V) (E:XK) (t:TA):TE:=fun σ H Q=>t σ H fun vs H1=>sp (vs++dvs) H1 Q E
def jcq (C:Addr) (sp:Sp) (dvs:List V) (E:XK) (t:TA):TE:=fun σ H Q=>t σ H fun vs H1=>∀ x dx,H1 x=none→H1 dx=none→dx≠x→
 sp (.ref x :: (vs++dvs)) (upd (upd H1 dx (.own x)) x (.ins C dx [])) (fun v H2=>v=.non∧Q (.ref x) H2) E
def Binds (K:PySem.W.Frag) (fd:FuncData) (ps:List Str) (ds:List Value):Prop:=
 ∀ (s:Shared) (us:List Value),K.In s.heap→(us++ds).length=ps.length→BindsTo s fd ⟨us,[]⟩ (ps.zip (us++ds))
theorem Binds.all {K:PySem.W.Frag} {fd:FuncData} {ps:List Str} (h:∀ us:List Value,us.length=ps.length→bindArgs fd ⟨us,[]⟩=pure (ps.zip us)):Binds K fd ps []:=fun s us _ hl=>by
 rw [List.append_nil] at hl ⊢
 exact .of_eq (h us hl)
def Ki (CX:CXT) (X:Cx) (E:XK):Prop:=∀ (pins:List (Addr×Obj)) (σ:St) (H:Hp) (s:Shared) (e:Value) (s':Shared),Inv X pins σ H s→CX X.stack H s E e s'→X.xe e s'
section
variable {X:Cx} {CX:CXT} {k:Nat} {f C:Addr} {fd:FuncData} {ps:List Str} {sp:Sp} {dvs:List V} {ds:List Value} {E:XK} {x m:Str} {p pos apos:Pos} {e o:Expr} {es:List Expr} {ta:TE} {t:TA}
theorem jfw {pins:List (Addr×Obj)} {σ:St} {H:Hp} {s:Shared} {Q:VK} {us:List Value} {vs:List V} (F:FnOk X.prog X.w X.K X.mg X.base CX k f fd ps sp) (hr:Room k X.A) (hb:Binds X.K fd ps ds) (hd:Vals dvs ds) (hx:Ki CX X E)
  (I:Inv X pins σ H s) (r:Vals vs us) (h:sp (vs++dvs) H Q E):wpAny (model X.prog X.w) X.A (call (.ref f) us) (EP X pins σ Q) X.xe s:=by
 have r2:Vals (vs++dvs) (us++ds):=r.append hd
 have hl:(us++ds).length=ps.length:=by rw [← r2.length];exact F.len _ _ _ _ h
 refine wpAny_call (codeAny_mono (F.run X.A X.stack s H ⟨us,[]⟩ (us++ds) (vs++dvs) Q E hr I.env0 (hb s us I.kIn hl) r2 h) fun r s' hq=>?_)
 cases r with
 | error e=>exact hx pins σ H s e s' I hq
 | ok fl=>
  cases fl with
  | ret u=>exact I.after hq
  | next=>exact False.elim hq
  | brk=>exact False.elim hq
  | cont=>exact False.elim hq
theorem jeB (F:FnOk X.prog X.w X.K X.mg X.base CX k f fd ps sp) (hr:Room k X.A) (hg:Gl X x) (hm:X.mg x=some (.ref f)) (hk:PySem.W.keepIn X.K (.ref f)=true) (hb:Binds X.K fd ps ds) (hd:Vals dvs ds) (hx:Ki CX X E)
  (ha:PA X (e :: es) t) (hdb:(x == ("__debug__" : Str))=false:=by decide) (he:starEach (e :: es) X.env=(false,eval e X.env) :: starEach es X.env:=by rfl) (hpl:(backTo pos (starEach es X.env)).any (·.1)=false:=by rfl) :
  PE X (.Call (.Name x p) (e :: es) [] pos) (jct sp dvs E t):=by
 intro pins s σ H Q I h
 refine wpAny_Call_Name_kw (YA I hg hm ?_ hdb)
 refine PySem.W.callWith_K (h₀:=X.base) I.ok.mod.kin hk (thn (ha pos pins s σ H _ I h) fun us s1 ⟨vs,H1,I1,r,q⟩=>⟨I1.kIn,?_⟩) he hpl
 exact jfw F hr hb hd hx I1 r q
structure Mk (K:PySem.W.Frag) (C f:Addr):Prop where
 makes:PySem.W.makesIn K C=true
 init:PySem.W.findIn K (.ref C) "__init__" = some (some (.ref f))
 fn:PySem.W.isFn K (.ref f)=true
 kp:PySem.W.keepIn K (.ref C)=true
theorem jcC {pins:List (Addr×Obj)} {σ:St} {H:Hp} {s:Shared} {Q:VK} {us:List Value} {vs:List V} (M:Mk X.K C f) (F:FnOk X.prog X.w X.K X.mg X.base CX k f fd ps sp) (hr:Room (k+1) X.A) (hb:Binds X.K fd ps ds) (hd:Vals dvs ds)
  (hx:Ki CX X E) (I:Inv X pins σ H s) (r:Vals vs us)
  (h:∀ x dx,H x=none→H dx=none→dx≠x→sp (.ref x :: (vs++dvs)) (upd (upd H dx (.own x)) x (.ins C dx [])) (fun v H2=>v=.non∧Q (.ref x) H2) E) :
  wpAny (model X.prog X.w) X.A (call (.ref C) us) (EP X pins σ Q) X.xe s:=by
 have hq:=h (s.heap.objs.size+1) s.heap.objs.size (I.hok.fresh (Nat.le_succ _)) (I.hok.fresh (Nat.le_refl _)) (Nat.ne_of_lt (Nat.lt_succ_self _))
 have I2:=Inv.made (C:=C) I
 have r2:Vals (V.ref (s.heap.objs.size+1) :: (vs++dvs)) (Value.ref (s.heap.objs.size+1) :: (us++ds)):=.cons rfl (r.append hd)
 have hl:(Value.ref (s.heap.objs.size+1) :: us++ds).length=ps.length:=by
  have e:=r2.length
  rw [F.len _ _ _ _ hq] at e
  exact e.symm
 refine wpAny_call (jdt (f:=f) I.kIn M.makes M.init (beq_iff_eq.mp M.fn) (codeAny_mono (F.run _ X.stack _ _ ⟨Value.ref (s.heap.objs.size+1) :: us,[]⟩ (Value.ref (s.heap.objs.size+1) :: (us++ds)) _ _ E (hr.make C us [])
  (I2.env0.make C us []) (hb _ (Value.ref (s.heap.objs.size+1) :: us) I2.kIn hl) r2 hq) fun r s' hq'=>?_))
 cases r with
 | error e=>exact hx pins σ _ _ e s' I2 hq'
 | ok fl=>
  cases fl with
  | ret u=>
   obtain ⟨v,H',I3,rv,ev,q3⟩:=I2.after hq'
   subst ev
   exact ⟨rv,⟨V.ref (s.heap.objs.size+1),H',I3,rfl,q3⟩⟩
  | next=>exact False.elim hq'
  | brk=>exact False.elim hq'
  | cont=>exact False.elim hq'
theorem jev (M:Mk X.K C f) (F:FnOk X.prog X.w X.K X.mg X.base CX k f fd ps sp) (hr:Room (k+1) X.A) (hg:Gl X x) (hm:X.mg x=some (.ref C)) (hb:Binds X.K fd ps ds) (hd:Vals dvs ds) (hx:Ki CX X E)
  (ha:PA X (e :: es) t) (hdb:(x == ("__debug__" : Str))=false:=by decide) (he:starEach (e :: es) X.env=(false,eval e X.env) :: starEach es X.env:=by rfl) (hpl:(backTo pos (starEach es X.env)).any (·.1)=false:=by rfl) :
  PE X (.Call (.Name x p) (e :: es) [] pos) (jcq C sp dvs E t):=by
 intro pins s σ H Q I h
 refine wpAny_Call_Name_kw (YA I hg hm ?_ hdb)
 refine PySem.W.callWith_K (h₀:=X.base) I.ok.mod.kin M.kp (thn (ha pos pins s σ H _ I h) fun us s1 ⟨vs,H1,I1,r,q⟩=>⟨I1.kIn,?_⟩) he hpl
 exact jcC M F hr hb hd hx I1 r q
end
structure FnScope (N P:List Str) (sc:Scope):Prop where
 kind:sc.kind=.function
 co:sc.isCoroutine=false
 gen:sc.isGenerator=false
 nd:N.Nodup
 pre:N.take P.length=P
 par:∀ x∈P,sc.names.lookup x=some .local∨sc.names.lookup x=some .cell
 nofree:∀ y∈sc.names,y.2≠.free
theorem K1 {kindOf:Str→Option NameKind} {x:Str}:∀ {binds:List (Str×Value)} {m:Str→Option Value},(∀ v,(x,v) ∉ binds)→bindL kindOf binds m x=m x
 | [],_,_=>rfl
 | (n,v) :: r,m,h=>by
  unfold bindL
  rw [K1 fun w hw=>h w (List.mem_cons_of_mem _ hw)]
  split
  ·have:x≠n:=by rintro rfl;exact h v List.mem_cons_self
   simp [this]
  ·rfl
theorem K3 {kindOf:Str→Option NameKind} {x:Str}:∀ {binds:List (Str×Value)} {m:Str→Option Value},(∀ v,(x,v) ∉ binds)→bindC kindOf binds m x=m x
 | [],_,_=>rfl
 | (n,v) :: r,m,h=>by
  unfold bindC
  rw [K3 fun w hw=>h w (List.mem_cons_of_mem _ hw)]
  split
  ·rfl
  ·have:x≠n:=by rintro rfl;exact h v List.mem_cons_self
   simp [this]
theorem K2 {kindOf:Str→Option NameKind} {x:Str} {v:Value}:∀ {P:List Str} {vs:List Value} {i:Nat} {m:Str→Option Value},P.Nodup→P[i]?=some x→vs[i]?=some v→kindOf x=some .local→
  bindL kindOf (P.zip vs) m x=some v
 | [],_,_,_,_,h,_,_=>by simp at h
 | _ :: _,[],_,_,_,_,h,_=>by simp at h
 | p :: P,w :: vs,0,m,nd,h1,h2,hk=>by
  simp at h1 h2;subst h1;subst h2
  show bindL kindOf ((p,w) :: P.zip vs) m p=_
  unfold bindL
  rw [K1 fun v hv=>(List.nodup_cons.mp nd).1 (List.of_mem_zip hv).1,if_pos hk]
  simp
 | p :: P,w :: vs,i+1,m,nd,h1,h2,hk=>by
  show bindL kindOf ((p,w) :: P.zip vs) m x=_
  unfold bindL
  exact K2 (i:=i) (List.nodup_cons.mp nd).2 (by simpa using h1) (by simpa using h2) hk
theorem K4 {kindOf:Str→Option NameKind} {x:Str} {v:Value}:∀ {P:List Str} {vs:List Value} {i:Nat} {m:Str→Option Value},P.Nodup→P[i]?=some x→vs[i]?=some v→kindOf x≠some .local→
  bindC kindOf (P.zip vs) m x=some v
 | [],_,_,_,_,h,_,_=>by simp at h
 | _ :: _,[],_,_,_,_,h,_=>by simp at h
 | p :: P,w :: vs,0,m,nd,h1,h2,hk=>by
  simp at h1 h2;subst h1;subst h2
  show bindC kindOf ((p,w) :: P.zip vs) m p=_
  unfold bindC
  rw [K3 fun v hv=>(List.nodup_cons.mp nd).1 (List.of_mem_zip hv).1,if_neg hk]
  simp
 | p :: P,w :: vs,i+1,m,nd,h1,h2,hk=>by
  show bindC kindOf ((p,w) :: P.zip vs) m x=_
  unfold bindC
  exact K4 (i:=i) (List.nodup_cons.mp nd).2 (by simpa using h1) (by simpa using h2) hk
def ym (N:List Str) (vs:List V):St:=vs.map some++List.replicate (N.length - vs.length) none
def Zz (CX:CXT) (P:Program) (w:World) (K:PySem.W.Frag) (mg:Str→Option Value) (base:Heap) (N:List Str) (qual:Str) (scope:Scope) (f:Addr) (cd:Value) (A:Around) (outer:List Env) (s:Shared) (H:Hp) (E:XK):Cx where
 prog:=P
 w:=w
 K:=K
 mg:=mg
 base:=base
 A:=A.deeper (envOfC qual scope s.heap.objs.size f cd)
 N:=N
 s₀:=s
 H₀:=H
 env:=envOfC qual scope s.heap.objs.size f cd
 outer:=outer
 stack:=envOfC qual scope s.heap.objs.size f cd :: outer
 ex:=[]
 calm:=true
 fn:=fun _=>true
 pn:=[]
 xe:=fun e s'=>wpAny (model P w) (A.deeper (envOfC qual scope s.heap.objs.size f cd)) (leaving (envOfC qual scope s.heap.objs.size f cd) e) (fun _ s''=>CX outer H s E e s'') (fun e' s''=>CX outer H s E e' s'') s'
theorem ZC {sc:Scope} {n:Nat} {x:Str} (h:sc.names.lookup x=some .cell):∃ c,(cellsFrom n sc.names []).lookup x=some c:=by
 have q:=PySem.W.cellsFrom_some sc.names n [] (.inl h)
 exact Option.isSome_iff_exists.mp q
theorem jbN {CX:CXT} {P:Program} {w:World} {K:PySem.W.Frag} {mg:Str→Option Value} {base:Heap} {N ps:List Str} {qual:Str} {scope:Scope} {f:Addr} {cd:Value} {A:Around} {outer:List Env} {s s1:Shared} {H:Hp} {E:XK} {us:List Value} {vs:List V}
  (S:FnScope N ps scope) (hd:A.handled=none) (e0:Env0 P w K mg base A outer s H) (hl:vs.length=ps.length) (r:Vals vs us)
  (x:InCallC s s.heap.objs.size (bindL (envOfC qual scope s.heap.objs.size f cd).kindOf (ps.zip us) fun _=>none) (cellsFrom (s.heap.objs.size+1) scope.names []) (bindC (envOfC qual scope s.heap.objs.size f cd).kindOf (ps.zip us) fun _=>none) s1) :
  Inv (Zz CX P w K mg base N qual scope f cd A outer s H E) [] (ym N vs) H s1:=by
 have hpl:ps.length≤N.length:=by have:=congrArg List.length S.pre;rw [List.length_take] at this;omega
 obtain ⟨h1,tk,rfl,hk⟩:=x.done
 have noA:∀ b:Addr,b ∉ (Zz CX P w K mg base N qual scope f cd A outer s H E).ex:=fun b z=>absurd (show b∈([]:List Addr) from z) (by simp)
 refine ⟨⟨e0.mod,S.kind,rfl,rfl,Nat.le_refl _,fun y z c h1 h2=>?_,fun y hy=>?_,fun y c _ h=>?_,fun _=>hd,Around.frames_deeper e0.frames,.inr ⟨rfl,rfl⟩,fun b z=>absurd z (noA b),e0.bs,e0.bsz,fun b _ _=>noA b,fun b z=>absurd z (noA b),e0.funs,e0.frf⟩,
  rfl,e0.bare,Un.kept hk,⟨_,x.toInCall.ns,fun i y v h1 h2 h3=>?_⟩,fun y c h=>⟨_,x.cell y c h⟩,e0.hok.fresh (Nat.le_refl _),fun y c h=>?_,fun p hp=>absurd (show p∈([]:List (Addr×Obj)) from hp) (by simp),e0.hok.kept hk,?_⟩
 ·exact name_of_addr x.apart (PySem.mem_of_lookup h1) (PySem.mem_of_lookup h2)
 ·have hy:scope.names.lookup y=some .cell∨scope.names.lookup y=some .free:=hy
  rcases hy with hy | hy
  ·exact ZC hy
  ·exact absurd rfl (S.nofree _ (PySem.mem_of_lookup hy))
 ·exact Nat.le_of_lt (x.above y c (PySem.mem_of_lookup h))
 ·have hi:i < vs.length:=by
   unfold ym at h2
   by_cases hi:i < vs.length
   ·exact hi
   ·rw [List.getElem?_append_right (by simpa using hi)] at h2
    rw [List.getElem?_replicate] at h2
    split at h2 <;> cases h2
  have ha:vs[i]?=some v:=by
   unfold ym at h2
   rw [List.getElem?_append_left (by simpa using hi),List.getElem?_map] at h2
   cases e:vs[i]? with
   | none=>rw [e] at h2;cases h2
   | some a=>rw [e] at h2;cases h2;rfl
  obtain ⟨u,hu,rv⟩:=r.get ha
  have hp:ps[i]?=some y:=by
   rw [← S.pre,List.getElem?_take_of_lt (by omega)];exact h1
  have ndP:ps.Nodup:=by rw [← S.pre];exact S.nd.sublist (List.take_sublist _ _)
  refine ⟨u,rv,?_⟩
  rcases S.par y (List.mem_of_getElem? hp) with k | k
  ·exact .inl ⟨k,K2 ndP hp hu k⟩
  ·obtain ⟨c,e⟩:=ZC (n:=s.heap.objs.size+1) k
   refine .inr ⟨.inl k,c,e,?_⟩
   have q:=x.cell y c e
   rw [K4 ndP hp hu (by show scope.names.lookup y≠_;rw [k];decide)] at q
   exact q
 ·exact e0.hok.fresh (Nat.le_of_lt (x.above y c (PySem.mem_of_lookup h)))
 ·unfold ym
  show _=N.length
  rw [List.length_append,List.length_map,List.length_replicate]
  omega
theorem jfp {CX:CXT} {P:Program} {w:World} {K:PySem.W.Frag} {mg:Str→Option Value} {base:Heap} {k:Nat} {f:Addr} {name qual:Str} {params:Arguments} {body:List Stmt} {scope:Scope} {dV kV doc pm cdv ct oc:Value} {an od:Option Addr}
  {osl:Array (Option Value)} {N ps:List Str} {sp:Sp} (lk:K.lookup f=some ⟨oc,od,.func (PySem.W.fnOf name qual params body scope dV kV doc pm an cdv ct),osl⟩) (hcd:PySem.W.codeIn K cdv qual=true) (S:FnScope N ps scope)
  (len:∀ vs H Q E,sp vs H Q E→vs.length=ps.length)
  (hbody:∀ (A:Around) (outer:List Env) (s:Shared) (H:Hp) (vs:List V) (Q:VK) (E:XK),Room k (A.deeper (envOfC qual scope s.heap.objs.size f cdv))→sp vs H Q E→
   ∃ t,PSs (Zz CX P w K mg base N qual scope f cdv A outer s H E) body t∧t { nx:=fun _ H'=>Q .non H',rt:=Q } (ym N vs) H) :
  FnOk P w K mg base CX (k+1) f (PySem.W.fnOf name qual params body scope dV kV doc pm an cdv ct) ps sp:=by
 refine ⟨len,fun A outer s H args us vs Q E hr e0 hb r hsp=>?_⟩
 have hl:=len _ _ _ _ hsp
 have KX:K.In s.heap:=e0.mod.kin.keeps fun b o e=>(e0.bs b o e).1
 have lim:s.heap.NoLimit:=e0.mod.nolimit.keeps fun b o e=>(e0.bs b o e).1
 have hkind:∀ y∈ps.zip us,scope.names.lookup y.1=some .local∨(scope.names.lookup y.1=some .cell∧((cellsFrom (s.heap.objs.size+1) scope.names []).lookup y.1).isSome=true):=fun ⟨n,v⟩ hy=>by
  rcases S.par n (List.of_mem_zip hy).1 with q | q
  ·exact .inl q
  ·exact .inr ⟨q,PySem.W.cellsFrom_some _ _ _ (.inl q)⟩
 refine codeAny_call_function hr.depth (KX _ _ lk) rfl S.co S.gen rfl (PySem.W.codeRec_of KX hcd) (hb _ _ _ _ ?_)
 refine wpAny_newFunctionEnv_cells S.kind hkind fun env he s1 x=>?_
 subst he
 refine ⟨lim.keeps x.toInCall.keep,codeAny_func ?_⟩
 obtain ⟨t,ht,hq⟩:=hbody A outer s H vs Q E (hr.deeper _) hsp
 have I:Inv (Zz CX P w K mg base N qual scope f cdv A outer s H E) [] (ym N vs) H s1:=jbN S hr.hd e0 hl r x
 refine wpAny_mono (ht [] s1 (ym N vs) H _ I hq) (fun fl s' hs=>?_) fun e s' hs=>hs
 have fin:∀ {σ':St} {H':Hp} {v:V} {u:Value},Inv (Zz CX P w K mg base N qual scope f cdv A outer s H E) [] σ' H' s'→RelV v u→Q v H'→CE outer P w H s Q u s':=
  fun {σ' H' v u} J rv q=>⟨v,H',J.os,J.bare,J.base,J.hok,rv,q⟩
 cases fl with
 | ret u=>
  obtain ⟨v,σ',H',J,rv,q⟩:=hs
  exact fin J rv q
 | next=>
  obtain ⟨σ',H',J,q⟩:=hs
  exact fin (v:=V.non) (u:=Value.none) J rfl q
 | brk=>
  obtain ⟨_,_,_,q⟩:=hs
  exact False.elim q
 | cont=>
  obtain ⟨_,_,_,q⟩:=hs
  exact False.elim q
section
variable {X:Cx} {x:Str} {p pos:Pos} {e:Expr} {es:List Expr} {t:TA} {id T:String} {r:List V→Hp→VK→Prop}
def tCB (r:List V→Hp→VK→Prop) (t:TA):TE:=fun σ H Q=>t σ H fun vs H1=>r vs H1 Q
theorem jcY (hc:qI X (.builtin id) r) (hg:Gl X x) (hm:X.mg x=none) (hv:bootBuiltins x=some (.builtin id)) (ha:PA X (e :: es) t) (hn:x≠"__name__":=by decide) (hdb:(x == ("__debug__" : Str))=false:=by decide)
  (he:starEach (e :: es) X.env=(false,eval e X.env) :: starEach es X.env:=by rfl) (hpl:(backTo pos (starEach es X.env)).any (·.1)=false:=by rfl):PE X (.Call (.Name x p) (e :: es) [] pos) (tCB r t):=by
 intro pins s σ H Q I h
 refine wpAny_Call_Name_kw (zx I hg hm hv ?_ hn hdb)
 exact PyProof.Rows.callWith_builtin1 (thn (ha pos pins s σ H _ I h) fun us s1 ⟨vs,H1,I1,r1,q1⟩=>hc pins s1 σ H1 vs us Q I1 r1 q1) he hpl
theorem jbt (hc:qI X (.type T) r) (hg:Gl X x) (hm:X.mg x=none) (hv:bootBuiltins x=some (.type T)) (ha:PA X (e :: es) t) (hn:x≠"__name__":=by decide) (hdb:(x == ("__debug__" : Str))=false:=by decide)
  (he:starEach (e :: es) X.env=(false,eval e X.env) :: starEach es X.env:=by rfl) (hpl:(backTo pos (starEach es X.env)).any (·.1)=false:=by rfl):PE X (.Call (.Name x p) (e :: es) [] pos) (tCB r t):=by
 intro pins s σ H Q I h
 refine wpAny_Call_Name_kw (zx I hg hm hv ?_ hn hdb)
 exact PyProof.Rows.callWith_type1 (thn (ha pos pins s σ H _ I h) fun us s1 ⟨vs,H1,I1,r1,q1⟩=>hc pins s1 σ H1 vs us Q I1 r1 q1) he hpl
end
end L2
namespace HT
open PySem PyProof.Rows
section
variable {prog:Program} {w:World} {A:Around} {E:Value→Shared→Prop} {s:Shared}
theorem cat_tup {t b:Addr} {vs ws:List Value} {Q:Value→Shared→Prop} (ht:IsTup s.heap t vs.toArray) (hb:IsTup s.heap b ws.toArray) (hv:vs≠[])
  (h1:ws=[]→Q (.ref t) s) (h2:ws≠[]→Q (.ref s.heap.objs.size) { s with heap:=s.heap.push { cls:=.type "tuple",data:=.seq (vs++ws).toArray } })
  (hsz:vs.length+ws.length≤sizeLine):wpAny (model prog w) A (binaryOp .Add (.ref t) (.ref b)) Q E s:=by
 obtain ⟨⟨cls,dd,data,sl⟩,ho,hc,n,hd⟩:=id ht
 obtain ⟨⟨cls2,dd2,data2,sl2⟩,ho2,hc2,n2,hd2⟩:=id hb
 simp only at hc hd hc2 hd2
 subst hc hd hc2 hd2
 have e:vs.toArray++ws.toArray=(vs++ws).toArray:=by simp
 by_cases hw:ws=[]
 ·exact concat_meets ⟨_,ho,rfl⟩ ⟨_,ho2,rfl⟩ noFill_tuple_add seq_tuple_add PySem.F.slot_tuple_add PySem.F.entry_tuple_add (PySem.F.args_tuple_add_2 _ _)
   (tuple_addW1 t b vs.toArray ws.toArray n n2 dd dd2 sl sl2 (by simpa using hv) (by simp [hw])) ⟨ho,ho2,h1 hw⟩
 ·refine concat_meets ⟨_,ho,rfl⟩ ⟨_,ho2,rfl⟩ noFill_tuple_add seq_tuple_add PySem.F.slot_tuple_add PySem.F.entry_tuple_add (PySem.F.args_tuple_add_2 _ _)
   (tuple_addW2 t b vs.toArray ws.toArray n n2 dd dd2 sl sl2 (by simpa using hv) (by simpa using hw) (by rw [List.size_toArray,List.size_toArray];exact hsz)) ⟨ho,ho2,?_⟩
  rw [e]
  exact h2 hw
def sIx (n d:Nat):Option Int→Nat
 | none=>d
 | some v=>if v < 0 then (v+(n:Int)).toNat else min v.toNat n
theorem sIx_none (n d:Nat):sIx n d none=d:=rfl
theorem sIx_nat (n d k:Nat):sIx n d (some (k:Int))=min k n:=by
 show (if (k:Int) < 0 then ((k:Int)+(n:Int)).toNat else min (k:Int).toNat n)=min k n
 rw [if_neg (by omega),Int.toNat_natCast]
theorem sIx_le (n d:Nat) (hd:d≤n) (o:Option Int):sIx n d o≤n:=by
 cases o with
 | none=>exact hd
 | some v=>
  show (if v < 0 then (v+(n:Int)).toNat else min v.toNat n)≤n
  by_cases hv:v < 0
  ·rw [if_pos hv];omega
  ·rw [if_neg hv];exact Nat.min_le_right _ _
theorem ja5 (v:Int) (n d:Nat):(if v < 0 then max (v+(n:Int)) 0 else min v (n:Int))=((sIx n d (some v):Nat):Int):=by
 show (if v < 0 then max (v+(n:Int)) 0 else min v (n:Int))=(((if v < 0 then (v+(n:Int)).toNat else min v.toNat n):Nat):Int)
 by_cases hv:v < 0
 ·simp only [if_pos hv];omega
 ·simp only [if_neg hv];omega
theorem jai (lo hi:Option Int) (n:Nat):Builtin.Slice.sliceAdjust lo hi 1 (n:Int)=(((sIx n 0 lo:Nat):Int),((sIx n n hi:Nat):Int)):=by
 have h1:¬ ((1:Int) < 0):=by omega
 unfold Builtin.Slice.sliceAdjust
 simp only [h1,if_false]
 refine Prod.ext ?_ ?_
 ·cases lo with
  | none=>rfl
  | some v=>exact ja5 v n 0
 ·cases hi with
  | none=>rfl
  | some v=>exact ja5 v n n
theorem ZS (i j:Nat):Builtin.Slice.slicePlaces (i:Int) (j:Int) 1=j - i:=by
 unfold Builtin.Slice.slicePlaces
 have h1:(1:Int) > 0:=by omega
 simp only [h1,if_true,Int.ediv_one]
 split <;> omega
theorem JN {v:Value} {o:Option Int} {Q:Option Int→Shared→Prop} (p:IsPart v o) (h:Q o s):wpAny (model prog w) A (Builtin.Slice.slicePartIndex v) Q E s:=by
 cases p with
 | none=>exact slicePart_none h
 | int i t=>exact slicePart_int h
theorem yU {sl:Addr} {vl vu:Value} {lo hi:Option Int} {n:Nat} {Q:Int×Int×Nat→Shared→Prop} (hs:s.heap.IsSliceOf sl vl vu .none) (pl:IsPart vl lo) (pu:IsPart vu hi)
  (h:Q (((sIx n 0 lo:Nat):Int),1,sIx n n hi - sIx n 0 lo) s):wpAny (model prog w) A (Builtin.Slice.sliceApplied (.ref sl) (pure (n:Int))) Q E s:=by
 obtain ⟨os,hos,hcs,hds⟩:=id hs
 unfold Builtin.Slice.sliceApplied Builtin.Slice.sliceFields
 refine wpAny_bind (wpAny_bind (wpAny_field hos hds (x:=vl) rfl (wpAny_bind (wpAny_field hos hds (x:=vu) rfl (wpAny_bind (wpAny_field hos hds (x:=.none) rfl (wpAny_pure ?_)))))))
 refine wpAny_bind (slicePart_none ?_)
 show wpAny _ _ (if ((1:Int) == 0)=true then _ else _) _ _ s
 rw [if_neg (by decide)]
 refine wpAny_bind (JN pl (wpAny_bind (JN pu (wpAny_bind (wpAny_pure ?_)))))
 show wpAny _ _ (match Builtin.Slice.sliceAdjust lo hi 1 (n:Int) with | (lo,hi)=>pure (lo,(1:Int),Builtin.Slice.slicePlaces lo hi 1)) _ _ s
 rw [jai lo hi n]
 show wpAny _ _ (pure (((sIx n 0 lo:Nat):Int),(1:Int),Builtin.Slice.slicePlaces ((sIx n 0 lo:Nat):Int) ((sIx n n hi:Nat):Int) 1)) _ _ s
 rw [ZS]
 exact wpAny_pure h
theorem jcM (xs:Array Value) (i k:Nat):((List.range k).filterMap fun (m:Nat)=>xs[((i:Int)+(m:Int) * 1).toNat]?).toArray=((xs.toList.drop i).take k).toArray:=by
 have e:(fun (m:Nat)=>xs[((i:Int)+(m:Int) * 1).toNat]?)=fun m=>xs[i+m]?:=by
  funext m
  have:((i:Int)+(m:Int) * 1).toNat=i+m:=by omega
  rw [this]
 rw [e]
 have:=pick_run xs i k
 rw [List.filterMap_map] at this
 have e2:((fun x=>xs[x]?) ∘ fun x=>i+x)=fun m=>xs[i+m]?:=rfl
 rw [e2] at this
 rw [this]
theorem getItem_tuple_cut {t sl:Addr} {items:Array Value} {vl vu:Value} {lo hi:Option Int} {Q:Value→Shared→Prop} (ht:IsTup s.heap t items) (hs:s.heap.IsSliceOf sl vl vu .none) (pl:IsPart vl lo) (pu:IsPart vu hi)
  (hw:¬ (sIx items.size 0 lo=0∧sIx items.size items.size hi=items.size))
  (h:Q (.ref s.heap.objs.size) { s with heap:=s.heap.push { cls:=.type "tuple",data:=.seq ((items.toList.drop (sIx items.size 0 lo)).take (sIx items.size items.size hi - sIx items.size 0 lo)).toArray } })
  (hsz:items.size≤sizeLine):wpAny (model prog w) A (getItem (.ref t) (.ref sl)) Q E s:=by
 have htake:sizeOk (.seq ((items.toList.drop (sIx items.size 0 lo)).take (sIx items.size items.size hi - sIx items.size 0 lo)).toArray):=by
  show ((items.toList.drop (sIx items.size 0 lo)).take (sIx items.size items.size hi - sIx items.size 0 lo)).toArray.size≤sizeLine
  rw [List.size_toArray,List.length_take,List.length_drop,Array.length_toList]
  omega
 have hj:sIx items.size items.size hi≤items.size:=sIx_le _ _ (Nat.le_refl _) hi
 obtain ⟨os,hos,hcs,hds⟩:=id hs
 have hTs:s.TypeIs (.ref sl) "slice":=⟨os,hos,hcs⟩
 unfold getItem
 try with_reducible refine wpAny_holding ?_
 first | refine wpAny_bind (wpAny_pure ?_) | skip
 refine wpAny_bind (wpAny_sequenceKey ht.typeIs (by decide) ?_)
 refine wpAny_bind (wpAny_callSpecial?_slot (name:=Str.ofString "__getitem__") ht.typeIs PyProof.Rows.slot_tuple_getitem
  (wpAny_call_entry PyProof.Rows.slot_tuple_getitem ht.typeIs entry_tuple_getitem ?_ (args_tuple_getitem _ _)))
 show wpAny _ _ (Builtin.Tuple.tupleItemsOf (.ref t) >>= _) _ _ s
 refine wpAny_bind (tupleItemsOf_ ht ?_)
 refine wpAny_bind (wpAny_typeOf hTs ?_)
 rw [if_pos (by decide)]
 refine wpAny_bind (yU hs pl pu ?_)
 have hno:¬ ((((sIx items.size 0 lo:Nat):Int) == 0 && (1:Int) == 1 && (sIx items.size items.size hi - sIx items.size 0 lo) == items.size)=true):=by
  intro q
  rw [Bool.and_eq_true,Bool.and_eq_true] at q
  have q1:((sIx items.size 0 lo:Nat):Int)=0:=eq_of_beq q.1.1
  have q2:sIx items.size items.size hi - sIx items.size 0 lo=items.size:=eq_of_beq q.2
  exact hw ⟨by omega,by omega⟩
 show wpAny _ _ (if (((sIx items.size 0 lo:Nat):Int) == 0 && (1:Int) == 1 && (sIx items.size items.size hi - sIx items.size 0 lo) == items.size)=true then _ else _) _ _ s
 rw [if_neg hno,jcM]
 first
  | exact wpAny_bind (m:=Builtin.Tuple.tupleExact _) (wpAny_newObj_type (wpAny_pure ⟨_,rfl,wpAny_pure h⟩) htake)
  | exact wpAny_bind (m:=Builtin.Tuple.tupleExact _) (wpAny_newObj_type (wpAny_bind (wpAny_pure (wpAny_pure ⟨_,rfl,wpAny_pure h⟩))) htake)
  | exact wpAny_bind (wpAny_bind (m:=Builtin.Tuple.tupleExact _) (wpAny_newObj_type (wpAny_pure (wpAny_pure ⟨_,rfl,wpAny_pure h⟩)) htake))
  | exact wpAny_bind (wpAny_bind (m:=Builtin.Tuple.tupleExact _) (wpAny_newObj_type (wpAny_pure ⟨_,rfl,wpAny_pure h⟩) htake))
end
end HT
namespace L2
open PySem PySem.Spec PyProof.Rows
abbrev TO:=St→Hp→(Option Int→Hp→Prop)→Prop
def PO (X:Cx) (e:Option Expr) (t:TO):Prop:=
 ∀ (pins:List (Addr×Obj)) (s:Shared) (σ:St) (H:Hp) (Q:Option Int→Hp→Prop),Inv X pins σ H s→t σ H Q→
  wpAny (model X.prog X.w) X.A (evalPart e X.env) (fun u s'=>∃ o H',Inv X pins σ H' s'∧IsPart u o∧Q o H') X.xe s
def jap:TO:=fun _ H Q=>Q none H
def je5 (t:TE):TO:=fun σ H Q=>t σ H fun x H1=>∃ i,x=.int i∧Q (some i) H1
section
variable {X:Cx} {e:Expr} {te:TE} {lo hi:Option Expr} {tl th:TO} {pos p2:Pos}
theorem jep:PO X none jap:=by
 intro pins s σ H Q I h
 rw [evalPart_none]
 exact wpAny_pure ⟨none,H,I,.none,h⟩
theorem jeo (h:PE X e te):PO X (some e) (je5 te):=by
 intro pins s σ H Q I hw
 rw [evalPart_some]
 refine thn (h pins s σ H _ I hw) fun u s1 ⟨x,H1,I1,r1,q1⟩=>?_
 obtain ⟨i,rfl,q⟩:=q1
 obtain ⟨t,rfl⟩:=r1
 exact ⟨some i,H1,I1,.int i t,q⟩
def SlR (X:Cx) (r:V→Option Int→Option Int→Hp→VK→Prop):Prop:=
 ∀ (pins:List (Addr×Obj)) (s:Shared) (σ:St) (H:Hp) (x:V) (v vl vu:Value) (lo hi:Option Int) (sl:Addr) (Q:VK),Inv X pins σ H s→RelV x v→s.heap.IsSliceOf sl vl vu .none→IsPart vl lo→IsPart vu hi→r x lo hi H Q→
  ∃ T id,typeLookup (.type T) "__getitem__" = pure (some (.builtin id))∧s.TypeIs v T∧wpAny (model X.prog X.w) X.A (getItem v (.ref sl)) (EP X pins σ Q) X.xe s
def tSl (r:V→Option Int→Option Int→Hp→VK→Prop) (te:TE) (tl th:TO):TE:=fun σ H Q=>te σ H fun x H1=>tl σ H1 fun l H2=>th σ H2 fun u H3=>r x l u H3 Q
theorem jcS {r:V→Option Int→Option Int→Hp→VK→Prop} (hr:SlR X r) (he:PE X e te) (hl:PO X lo tl) (hu:PO X hi th):PE X (.Subscript e (.Slice lo hi none p2) pos) (tSl r te tl th):=by
 intro pins s σ H Q I h
 refine Subscript_ (thn (he pins s σ H _ I h) fun v s1 ⟨x,H1,I1,r1,q1⟩=>?_)
 refine wpAny_Slice (thn (hl pins s1 σ H1 _ I1 q1) fun vl s2 ⟨l,H2,I2,pl,q2⟩=>thn (hu pins s2 σ H2 _ I2 q2) fun vu s3 ⟨u,H3,I3,pu,q3⟩=>?_)
 rw [evalPart_none]
 refine wpAny_pure ?_
 have I4:Inv X pins σ H3 { s3 with heap:=s3.heap.push { cls:=.type "slice",data:=.fields #[vl,vu,.none] } }:=I3.kept (t':=s3.toks) fun b ob q=>Heap.get?_push_of_some _ q
 obtain ⟨T,id,hT,ht,hg⟩:=hr pins { s3 with heap:=s3.heap.push { cls:=.type "slice",data:=.fields #[vl,vu,.none] } } σ H3 x v vl vu l u s3.heap.objs.size Q I4 r1 (Heap.IsSliceOf.new ..) pl pu q3
 show wpAny (model X.prog X.w) X.A (subscriptTail e (.Slice lo hi none p2) v (.ref s3.heap.objs.size)) (EP X pins σ Q) X.xe { s3 with heap:=s3.heap.push { cls:=.type "slice",data:=.fields #[vl,vu,.none] } }
 exact tail_any (ops:=[.ref s3.heap.objs.size,v]) ht hT hg (by with_unfolding_all rfl)
def ki (xs:List V) (lo hi:Option Int):List V:=(xs.drop (HT.sIx xs.length 0 lo)).take (HT.sIx xs.length xs.length hi - HT.sIx xs.length 0 lo)
theorem q0 (xs:List V) (lo hi:Option Int):(ki xs lo hi).length≤xs.length:=by
 unfold ki
 rw [List.length_take,List.length_drop]
 omega
def jg4 (K:PySem.W.Frag):V→Option Int→Option Int→Hp→VK→Prop:=fun x lo hi H Q=>∃ a xs,x=.ref a∧SqT K H a xs∧
 ¬ (HT.sIx xs.length 0 lo=0∧HT.sIx xs.length xs.length hi=xs.length)∧∀ p,H p=none→Q (.ref p) (upd H p (.tup (ki xs lo hi)))
theorem qR:SlR X (jg4 X.K):=by
 intro pins s σ H x v vl vu lo hi sl Q I rx hs pl pu h
 obtain ⟨a,xs,rfl,hx,hw,q⟩:=h
 cases rx
 obtain ⟨its,r,ht,hz⟩:=I.tuple hx
 have hlen:its.toArray.size=xs.length:=by rw [List.size_toArray];exact r.length.symm
 refine ⟨"tuple",_,PyProof.Rows.slot_tuple_getitem.lookup,ht.typeIs,?_⟩
 refine HT.getItem_tuple_cut ht hs pl pu (by rw [hlen];exact hw) ?_ (by rw [hlen];exact hz)
 rw [hlen]
 refine ⟨.ref s.heap.objs.size,_,I.laid (t':=s.toks) (o:=.tup (ki xs lo hi)) (fun b ob q=>Heap.get?_push_of_some _ q) (Nat.le_refl _) ?_,rfl,q _ (I.hok.fresh (Nat.le_refl _))⟩
 exact ⟨Nat.le_trans (q0 xs lo hi) hz,_,(r.drop (HT.sIx xs.length 0 lo)).take (HT.sIx xs.length xs.length hi - HT.sIx xs.length 0 lo),IsTup.new _ _⟩
def jgz (K:PySem.W.Frag):R2:=fun x y H Q=>∃ a b xs ys,x=.ref a∧y=.ref b∧SqT K H a xs∧SqT K H b ys∧xs≠[]∧xs.length+ys.length≤sizeLine∧
 (ys=[]→Q (.ref a) H)∧(ys≠[]→∀ p,H p=none→Q (.ref p) (upd H p (.tup (xs++ys))))
theorem Vals.nil_iff {xs:List V} {us:List Value} (r:Vals xs us):us=[]↔xs=[]:=by
 cases r with
 | nil=>simp
 | cons _ _=>simp
theorem jeF:OpR X (binaryOp .Add) (jgz X.K):=by
 intro pins s σ H x y v u Q I rx ry h
 obtain ⟨a,b,xs,ys,rfl,rfl,ha,hb,hx,hz,q1,q2⟩:=h
 cases rx
 cases ry
 obtain ⟨its,r1,p1,_⟩:=I.tuple ha
 obtain ⟨its2,r2,p2,_⟩:=I.tuple hb
 refine HT.cat_tup p1 p2 (fun z=>hx (r1.nil_iff.mp z)) (fun z=>⟨.ref a,H,I,rfl,q1 (r2.nil_iff.mp z)⟩) (fun z=>?_) (by rw [← r1.length,← r2.length];exact hz)
 refine ⟨.ref s.heap.objs.size,_,I.laid (t':=s.toks) (o:=.tup (xs++ys)) (fun b ob q=>Heap.get?_push_of_some _ q) (Nat.le_refl _) ?_,rfl,q2 (fun w=>z (r2.nil_iff.mpr w)) _ (I.hok.fresh (Nat.le_refl _))⟩
 exact ⟨by rw [List.length_append];exact hz,_,r1.append r2,IsTup.new _ _⟩
end
def ixN (n:Nat) (i:Int):Option Nat:=if 0≤i then (if i < n then some i.toNat else none) else if -(n:Int)≤i then some (i+n).toNat else none
def atI {α:Type} (xs:List α) (i:Int):Option α:=(ixN xs.length i).bind fun j=>xs[j]?
theorem jeU {n:Nat} {i:Int} {j:Nat} (h:ixN n i=some j):seqIndex? i n=some j∧j < n∧-(n:Int)≤i∧i < n:=by
 unfold ixN at h
 by_cases h0:0≤i
 ·rw [if_pos h0] at h
  by_cases h1:i < n
  ·rw [if_pos h1] at h
   have e:i.toNat=j:=Option.some.inj h
   exact ⟨by rw [seqIndex_of h0 h1,e],by omega,by omega,h1⟩
  ·rw [if_neg h1] at h;cases h
 ·rw [if_neg h0] at h
  by_cases h1:-(n:Int)≤i
  ·rw [if_pos h1] at h
   have e:(i+n).toNat=j:=Option.some.inj h
   exact ⟨by rw [seqIndex_neg (by omega) h1,e],by omega,h1,by omega⟩
  ·rw [if_neg h1] at h;cases h
theorem YR {α:Type} {xs:List α} {i:Int} {v:α} (h:atI xs i=some v):∃ j,seqIndex? i xs.length=some j∧xs[j]?=some v∧j < xs.length∧-(xs.length:Int)≤i∧i < xs.length:=by
 unfold atI at h
 cases e:ixN xs.length i with
 | none=>rw [e] at h;cases h
 | some j=>
  rw [e] at h
  obtain ⟨h1,h2,h3,h4⟩:=jeU e
  exact ⟨j,h1,h,h2,h3,h4⟩
theorem qM {α:Type} {xs:List α} {j:Nat} {v:α} (h:xs[j]?=some v):atI xs (j:Int)=some v:=by
 have hj:j < xs.length:=(List.getElem?_eq_some_iff.mp h).1
 have e:ixN xs.length (j:Int)=some j:=by
  unfold ixN
  rw [if_pos (by omega),if_pos (by omega)];simp
 unfold atI;rw [e];exact h
def ja6 (b:Expr):Prop:=∀ o i,subscripted b false o i=operate [o,i] (getItem o i)
def IxR (X:Cx) (r:R2):Prop:=
 ∀ (value slice:Expr) (pins:List (Addr×Obj)) (s:Shared) (σ:St) (H:Hp) (x y:V) (v u:Value) (Q:VK),Inv X pins σ H s→RelV x v→RelV y u→r x y H Q→
  subscripted slice false v u=operate [v,u] (getItem v u)→wpAny (model X.prog X.w) X.A (subscriptTail value slice v u) (EP X pins σ Q) X.xe s
def MtR (X:Cx) (id:String) (r:V→List V→Hp→VK→Prop):Prop:=
 ∀ (pins:List (Addr×Obj)) (s:Shared) (σ:St) (H:Hp) (x:V) (xs:List V) (v:Value) (us:List Value) (Q:VK),Inv X pins σ H s→RelV x v→Vals xs us→r x xs H Q→
  wpAny (model X.prog X.w) X.A (call (.builtin id) (v :: us)) (EP X pins σ Q) X.xe s
section
variable {X:Cx} {a b:Expr} {ta tb:TE} {pos:Pos}
theorem jgE {r:R2} (hr:IxR X r) (ha:PE X a ta) (hb:PE X b tb) (hs:ja6 b):PE X (.Subscript a b pos) (tOp r ta tb):=by
 intro pins s σ H Q I h
 exact Subscript_ (jga ha hb I h fun v u s2 x y H2 I2 rx ry q=>hr a b pins s2 σ H2 x y v u Q I2 rx ry q (hs _ _))
def jgy (K:PySem.W.Frag):R2:=fun x y H Q=>∃ p xs i v,x=.ref p∧y=.int i∧SqL K H p xs∧atI xs i=some v∧Q v H
def jgx (K:PySem.W.Frag):R2:=fun x y H Q=>∃ p xs i v,x=.ref p∧y=.int i∧SqT K H p xs∧atI xs i=some v∧Q v H
def jg7:R2:=fun x y H Q=>∃ z i c,x=.str z∧y=.int i∧z.length≤sizeLine∧atI z.cps.toList i=some c∧Q (.str ⟨#[c]⟩) H
theorem jX:IxR X (jgy X.K):=by
 intro value slice pins s σ H x y v u Q I rx ry h hs
 obtain ⟨p,xs,i,z,rfl,rfl,hq,he,q⟩:=h
 cases rx
 obtain ⟨t,rfl⟩:=ry
 obtain ⟨its,r,pl,hz⟩:=I.list hq
 obtain ⟨j,h1,h2,h3,h4,h5⟩:=YR he
 obtain ⟨w,ew,rw'⟩:=r.get h2
 have hl:=r.length
 have hn:=Yy
 have fin:EP X pins σ Q w s:=⟨z,H,I,rw',q⟩
 by_cases h0:0≤i
 ·have hj:i.toNat=j:=by
   rw [seqIndex_of h0 h5] at h1
   exact Option.some.inj h1
  exact item_listR pl.isList h0 (by omega) (by rw [hj];simpa using ew) fin hs
 ·have hj:(i+(its.toArray.size:Int)).toNat=j:=by
   rw [seqIndex_neg (by omega) h4] at h1
   rw [List.size_toArray,← hl]
   exact Option.some.inj h1
  exact subscriptTail_builtinR (x:=w) pl.isList.typeIs slot_list_getitem.lookup
   (wpAny_getItem_list_neg (Q:=fun r s'=>r=w∧EP X pins σ Q r s') pl.isList (by omega) (by rw [List.size_toArray] <;> omega) (by omega) (by rw [hj];simpa using ew) ⟨rfl,fin⟩) hs
theorem jq:IxR X (jgx X.K):=by
 intro value slice pins s σ H x y v u Q I rx ry h hs
 obtain ⟨p,xs,i,z,rfl,rfl,hq,he,q⟩:=h
 cases rx
 obtain ⟨t,rfl⟩:=ry
 obtain ⟨its,r,pl,hz⟩:=I.tuple hq
 obtain ⟨j,h1,h2,h3,h4,h5⟩:=YR he
 obtain ⟨w,ew,rw'⟩:=r.get h2
 have hl:=r.length
 have hn:=Yy
 have fin:EP X pins σ Q w s:=⟨z,H,I,rw',q⟩
 exact subscriptTail_builtinR (x:=w) pl.typeIs slot_tuple_getitem.lookup
  (getItem_tuple (j:=j) (Q:=fun r s'=>r=w∧EP X pins σ Q r s') pl (by omega) (by omega) (by rw [List.size_toArray,← hl];exact h1) (by simpa using ew) ⟨rfl,fin⟩) hs
theorem jdy:IxR X jg7:=by
 intro value slice pins s σ H x y v u Q I rx ry h hs
 obtain ⟨z,i,c,rfl,rfl,hz,he,q⟩:=h
 obtain ⟨t,rfl⟩:=rx
 obtain ⟨t',rfl⟩:=ry
 obtain ⟨j,h1,h2,h3,h4,h5⟩:=YR he
 have hl:z.cps.toList.length=z.length:=by simp [Str.length]
 rw [hl] at h1 h4 h5
 have hn:=Yy
 exact tail_any (typeIs_str s z t) slot_str_getitem.lookup (getItem_str (c:=c) (by
  have e1:decide (i < -(2 ^ 63:Int))=false:=decide_eq_false (by omega)
  have e2:decide (i ≥ 2 ^ 63)=false:=decide_eq_false (by omega)
  rw [e1,e2,Bool.or_false]) (by rw [h1];simpa using h2) ⟨.str ⟨#[c]⟩,H,I.tok _,⟨_,rfl⟩,q⟩) hs
theorem Yg (lo hi:Option Int) (n:Nat):(sliceBounds lo hi none n).1=((HT.sIx n 0 lo:Nat):Int)∧(sliceBounds lo hi none n).2.1=((HT.sIx n n hi:Nat):Int)∧(sliceBounds lo hi none n).2.2=1:=by
 refine ⟨?_,?_,rfl⟩
 ·cases lo with
  | none=>simp [sliceBounds,HT.sIx]
  | some i=>
   simp only [sliceBounds,HT.sIx,Option.getD_none,show (1:Int) > 0 by decide,if_true]
   by_cases h:i < 0
   ·simp only [h,if_true] <;> omega
   ·simp only [h,if_false] <;> omega
 ·cases hi with
  | none=>simp [sliceBounds,HT.sIx]
  | some i=>
   simp only [sliceBounds,HT.sIx,Option.getD_none,show (1:Int) > 0 by decide,if_true]
   by_cases h:i < 0
   ·simp only [h,if_true] <;> omega
   ·simp only [h,if_false] <;> omega
theorem Kk (its:List Value) (lo hi:Option Int):slicePick its.toArray lo hi none=((its.drop (HT.sIx its.length 0 lo)).take (HT.sIx its.length its.length hi - HT.sIx its.length 0 lo)).toArray:=by
 obtain ⟨h1,h2,h3⟩:=Yg lo hi its.toArray.size
 unfold slicePick
 rw [h1,h2,h3]
 simp only [sliceRange_one,pick_run,List.size_toArray] <;> rfl
def jg5 (K:PySem.W.Frag):V→Option Int→Option Int→Hp→VK→Prop:=fun x lo hi H Q=>∃ a xs,x=.ref a∧SqL K H a xs∧∀ p,H p=none→Q (.ref p) (upd H p (.lst (ki xs lo hi)))
theorem zj:SlR X (jg5 X.K):=by
 intro pins s σ H x v vl vu lo hi sl Q I rx hs pl pu h
 obtain ⟨a,xs,rfl,hx,q⟩:=h
 cases rx
 obtain ⟨its,r,ht,hz⟩:=I.list hx
 have hlen:=r.length
 refine ⟨"list",_,slot_list_getitem.lookup,ht.isList.typeIs,?_⟩
 refine wpAny_getItem_list_slice ht.isList hs pl pu .none (by simp) ?_ (by rw [List.size_toArray] <;> omega)
 rw [Kk,← hlen]
 refine ⟨.ref s.heap.objs.size,_,I.laid (t':=s.toks) (o:=.lst (ki xs lo hi)) (fun b ob q=>Heap.get?_push_of_some _ q) (Nat.le_refl _) ?_,rfl,q _ (I.hok.fresh (Nat.le_refl _))⟩
 exact ⟨Nat.le_trans (q0 xs lo hi) hz,_,0,(r.drop (HT.sIx xs.length 0 lo)).take (HT.sIx xs.length xs.length hi - HT.sIx xs.length 0 lo),Heap.get?_push_size _ rfl⟩
def yO:V→Bool
 | .non=>true
 | .bl _=>true
 | .int _=>true
 | .str _=>true
 | _=>false
def eqV:V→V→Bool
 | .non,.non=>true
 | .bl a,.bl b=>a == b
 | .bl a,.int b=>(if a then 1 else 0) == b
 | .int a,.bl b=>a == (if b then 1 else 0)
 | .int a,.int b=>a == b
 | .str a,.str b=>a == b
 | _,_=>false
theorem jf5 {A:Around} {s:Shared} {y x:V} {u v:Value} (ry:RelV y u) (rx:RelV x v) (fy:yO y=true) (fx:yO x=true):SeqAt.EqAt A s u v (eqV y x):=by
 cases y with
 | non=>
  cases ry
  cases x with
  | non=>cases rx;exact SeqAt.EqAt.same _
  | bl b=>cases rx;exact SeqAt.EqAt.none_bool b
  | int b=>obtain ⟨t,rfl⟩:=rx;exact SeqAt.EqAt.none_int b t
  | str b=>obtain ⟨t,rfl⟩:=rx;exact SeqAt.EqAt.none_str b t
  | _=>exact absurd (show false=true from fx) Bool.false_ne_true
 | bl a=>
  cases ry
  cases x with
  | non=>cases rx;exact SeqAt.EqAt.bool_none a
  | bl b=>cases rx;exact SeqAt.EqAt.bool_bool a b
  | int b=>obtain ⟨t,rfl⟩:=rx;exact SeqAt.EqAt.bool_int a b t
  | str b=>obtain ⟨t,rfl⟩:=rx;exact SeqAt.EqAt.bool_str a b t
  | _=>exact absurd (show false=true from fx) Bool.false_ne_true
 | int a=>
  obtain ⟨t',rfl⟩:=ry
  cases x with
  | non=>cases rx;exact SeqAt.EqAt.int_none a t'
  | bl b=>cases rx;exact SeqAt.EqAt.int_bool a t' b
  | int b=>obtain ⟨t,rfl⟩:=rx;exact SeqAt.EqAt.int_int a t' b t
  | str b=>obtain ⟨t,rfl⟩:=rx;exact SeqAt.EqAt.int_str a t' b t
  | _=>exact absurd (show false=true from fx) Bool.false_ne_true
 | str a=>
  obtain ⟨t',rfl⟩:=ry
  cases x with
  | non=>cases rx;exact SeqAt.EqAt.str_none a t'
  | bl b=>cases rx;exact SeqAt.EqAt.str_bool a t' b
  | int b=>obtain ⟨t,rfl⟩:=rx;exact SeqAt.EqAt.str_int a t' b t
  | str b=>obtain ⟨t,rfl⟩:=rx;exact SeqAt.EqAt.str_str a t' b t
  | _=>exact absurd (show false=true from fx) Bool.false_ne_true
 | _=>exact absurd (show false=true from fy) Bool.false_ne_true
def eqU (x:V) (u:Value):Bool:=match u with
 | .none=>eqV .non x
 | .bool b=>eqV (.bl b) x
 | .int i _=>eqV (.int i) x
 | .str z _=>eqV (.str z) x
 | _=>false
theorem jdK {x y:V} {u:Value} (r:RelV y u) (f:yO y=true):eqU x u=eqV y x:=by
 cases y with
 | non=>cases r;rfl
 | bl b=>cases r;rfl
 | int i=>obtain ⟨t,rfl⟩:=r;rfl
 | str z=>obtain ⟨t,rfl⟩:=r;rfl
 | _=>exact absurd (show false=true from f) Bool.false_ne_true
theorem yR {x:V}:∀ {xs:List V} {us:List Value},Vals xs us→xs.all yO=true→us.any (eqU x)=xs.any fun y=>eqV y x
 | _,_,.nil,_=>rfl
 | y :: xs,u :: us,.cons r t,f=>by
  rw [List.all_cons,Bool.and_eq_true] at f
  rw [List.any_cons,List.any_cons,jdK r f.1,yR t f.2]
theorem zQ {A:Around} {s:Shared} {x:V} {v:Value} (rx:RelV x v) (fx:yO x=true):∀ {xs:List V} {us:List Value},Vals xs us→xs.all yO=true→∀ u∈us,SeqAt.EqAt A s u v (eqU x u)
 | _,_,.nil,_=>fun u hu=>by cases hu
 | y :: xs,u :: us,.cons r t,f=>fun u' hu=>by
  rw [List.all_cons,Bool.and_eq_true] at f
  rcases List.mem_cons.mp hu with rfl | hu
  ·rw [jdK r f.1];exact jf5 r rx f.1 fx
  ·exact zQ rx fx t f.2 u' hu
def inV (x:V) (xs:List V):Bool:=xs.any fun y=>eqV y x
def rIn (K:PySem.W.Frag) (neg:Bool):R2:=fun x y H Q=>∃ p xs,y=.ref p∧(SqL K H p xs∨SqT K H p xs)∧yO x=true∧xs.all yO=true∧Q (.bl (if neg then !inV x xs else inV x xs)) H
theorem jbv:OpR X (compareOp .In) (rIn X.K false):=by
 intro pins s σ H x y v u Q I rx ry h
 obtain ⟨p,xs,rfl,hq,fx,fs,q⟩:=h
 cases ry
 rcases hq with hq | hq
 ·obtain ⟨its,r,pl,hz⟩:=I.list hq
  refine SeqAt.in_listAt (eqU x) pl.isList (fun w hw=>zQ rx fx r fs w (by simpa using hw)) ⟨.bl _,H,I,rfl,?_⟩
  rw [show its.toArray.any (eqU x)=its.any (eqU x) by simp,yR r fs]
  exact q
 ·obtain ⟨its,r,pl,hz⟩:=I.tuple hq
  refine SeqAt.in_tupleAt (eqU x) pl (fun w hw=>zQ rx fx r fs w (by simpa using hw)) ⟨.bl _,H,I,rfl,?_⟩
  rw [show its.toArray.any (eqU x)=its.any (eqU x) by simp,yR r fs]
  exact q
theorem Yq:OpR X (compareOp .NotIn) (rIn X.K true):=by
 intro pins s σ H x y v u Q I rx ry h
 obtain ⟨p,xs,rfl,hq,fx,fs,q⟩:=h
 cases ry
 rcases hq with hq | hq
 ·obtain ⟨its,r,pl,hz⟩:=I.list hq
  refine SeqAt.notIn_listAt (eqU x) pl.isList (fun w hw=>zQ rx fx r fs w (by simpa using hw)) ⟨.bl _,H,I,rfl,?_⟩
  rw [show its.toArray.any (eqU x)=its.any (eqU x) by simp,yR r fs]
  exact q
 ·obtain ⟨its,r,pl,hz⟩:=I.tuple hq
  refine SeqAt.notIn_tupleAt (eqU x) pl (fun w hw=>zQ rx fx r fs w (by simpa using hw)) ⟨.bl _,H,I,rfl,?_⟩
  rw [show its.toArray.any (eqU x)=its.any (eqU x) by simp,yR r fs]
  exact q
theorem jF:qI X (.builtin "len") (fun xs H Q=>∃ p ys,xs=[.ref p]∧(SqL X.K H p ys∨SqT X.K H p ys)∧Q (.int ys.length) H):=by
 intro pins s σ H xs us Q I r h
 obtain ⟨p,ys,rfl,hq,q⟩:=h
 obtain ⟨u,rfl,rx⟩:=Jf r
 cases rx
 have hn:=Yy
 rcases hq with hq | hq
 ·obtain ⟨its,r',pl,hz⟩:=I.list hq
  have hlen:=r'.length
  exact Calls.call_len_list pl.isList (by simp only [List.size_toArray] <;> omega) ⟨.int ys.length,H,I.tok _,⟨s.toks+1,by rw [List.size_toArray,hlen]⟩,q⟩
 ·obtain ⟨its,r',pl,hz⟩:=I.tuple hq
  have hlen:=r'.length
  exact len_tuple pl (by simp only [List.size_toArray] <;> omega) ⟨.int ys.length,H,I.tok _,⟨s.toks+1,by rw [List.size_toArray,hlen]⟩,q⟩
theorem kR:qI X (.type "list") (fun xs H Q=>∃ p ys,xs=[.ref p]∧(SqL X.K H p ys∨SqT X.K H p ys)∧∀ l,H l=none→Q (.ref l) (upd H l (.lst ys))):=by
 intro pins s σ H xs us Q I r h
 obtain ⟨p,ys,rfl,hq,q⟩:=h
 obtain ⟨u,rfl,rx⟩:=Jf r
 cases rx
 have fin:∀ (its:List Value),Vals ys its→ys.length≤sizeLine→∀ (h':Heap) (c':Nat),(∀ b o',s.heap.get? b=some o'→h'.get? b=some o')→
   h'.get? s.heap.objs.size=some { cls:=.type "list",dict:=none,data:=.seq its.toArray c',slots:=#[] }→EP X pins σ Q (.ref s.heap.objs.size) { s with heap:=h' }:=fun its r' hz h' c' kp e=>
  ⟨.ref s.heap.objs.size,_,I.laid (t':=s.toks) kp (Nat.le_refl _) (show ObjOk X.prog X.w _ h' _ (.lst ys) from ⟨hz,its,c',r',e⟩),rfl,q _ (I.hok.fresh (Nat.le_refl _))⟩
 rcases hq with hq | hq
 ·obtain ⟨its,r',pl,hz⟩:=I.list hq
  have hlen:=r'.length
  obtain ⟨o,ho,hc,n,hd⟩:=pl.isList
  exact call_list_seq p (.inl rfl) ho hc hd (fun h' c' kp e=>fin its r' hz h' c' kp e) (by simp only [List.size_toArray] <;> omega)
 ·obtain ⟨its,r',pl,hz⟩:=I.tuple hq
  have hlen:=r'.length
  obtain ⟨o,ho,hc,n,hd⟩:=pl
  exact call_list_seq p (.inr rfl) ho hc hd (fun h' c' kp e=>fin its r' hz h' c' kp e) (by simp only [List.size_toArray] <;> omega)
theorem ke:qI X (.type "tuple") (fun xs H Q=>∃ p ys,xs=[.ref p]∧((SqL X.K H p ys∧∀ l,H l=none→Q (.ref l) (upd H l (.tup ys)))∨(SqT X.K H p ys∧Q (.ref p) H))):=by
 intro pins s σ H xs us Q I r h
 obtain ⟨p,ys,rfl,h⟩:=h
 obtain ⟨u,rfl,rx⟩:=Jf r
 cases rx
 rcases h with ⟨hq,q⟩ | ⟨hq,q⟩
 ·obtain ⟨its,r',pl,hz⟩:=I.list hq
  have hlen:=r'.length
  refine call_tuple_list pl.isList (fun h' kp=>?_) (by simp only [List.size_toArray] <;> omega)
  have I1:Inv X pins σ H { s with heap:=h' }:=I.kept (t':=s.toks) kp
  have I2:Inv X pins σ (upd H h'.objs.size (.tup ys)) { s with heap:=h'.push { cls:=.type "tuple",data:=.seq its.toArray } }:=
   I1.laid (t':=s.toks) (fun b o e=>Heap.get?_push_of_some _ e) (Nat.le_refl _) (show ObjOk X.prog X.w _ _ _ (.tup ys) from ⟨hz,its,r',IsTup.new _ _⟩)
  exact ⟨.ref h'.objs.size,_,I2,rfl,q _ (I1.hok.fresh (Nat.le_refl _))⟩
 ·obtain ⟨its,r',pl,hz⟩:=I.tuple hq
  exact call_tuple_same pl ⟨.ref p,H,I,rfl,q⟩
def tyV (K:PySem.W.Frag) (T:String) (x:V) (H:Hp):Prop:=match x with
 | .str _=>T = "str"
 | .int _=>T = "int"
 | .ref p=>(T = "list"∧∃ xs,SqL K H p xs)∨(T = "tuple"∧∃ o,K.lookup p=some o∧o.cls=.type "tuple"∧o.dict=none)∨
   (T = "dict"∧((∃ kvs,H p=some (.dK kvs))∨∃ kvs,H p=some (.dT kvs)))∨(T = "set"∧∃ S n,H p=some (.set S n))
 | _=>False
theorem jcl {pins:List (Addr×Obj)} {σ:St} {H:Hp} {s:Shared} {T:String} {x:V} {v:Value} (I:Inv X pins σ H s) (r:RelV x v) (ty:tyV X.K T x H) :
  s.TypeIs v T∧∀ a,v=.ref a→∃ ob,s.heap.get? a=some ob∧ob.dict=none:=by
 cases x with
 | str z=>
  obtain ⟨t,rfl⟩:=r
  cases (show T = "str" from ty)
  exact ⟨typeIs_str s z t,fun _ e=>nomatch e⟩
 | int i=>
  obtain ⟨t,rfl⟩:=r
  cases (show T = "int" from ty)
  exact ⟨typeIs_int s i t,fun _ e=>nomatch e⟩
 | ref p=>
  cases r
  rcases ty with ⟨rfl,xs,hq⟩ | ⟨rfl,o,hk,hc,hd⟩ | ⟨rfl,hk⟩ | ⟨rfl,S,n,hk⟩
  ·obtain ⟨its,_,pl,_⟩:=I.list hq
   refine ⟨pl.isList.typeIs,fun a e=>?_⟩
   cases e
   obtain ⟨o,n,e,c,hd,_⟩:=pl
   exact ⟨o,e,hd⟩
  ·refine ⟨⟨o,I.kIn p o hk,hc⟩,fun a e=>?_⟩
   cases e
   exact ⟨o,I.kIn _ o hk,hd⟩
  ·have z:∃ o,s.heap.get? p=some o∧o.ExactDict:=by
    rcases hk with ⟨kvs,hk⟩ | ⟨kvs,hk⟩
    ·obtain ⟨_,_,_,_,o,_,_,e,ex,_⟩:=I.hok p _ hk
     exact ⟨o,e,ex⟩
    ·obtain ⟨_,_,_,_,o,_,_,e,ex,_⟩:=I.hok p _ hk
     exact ⟨o,e,ex⟩
   obtain ⟨o,e,ex⟩:=z
   refine ⟨⟨o,e,ex.1⟩,fun a e2=>?_⟩
   cases e2
   exact ⟨o,e,ex.2.1⟩
  ·obtain ⟨o,_,_,_,e,ex,_⟩:=I.hok p _ hk
   refine ⟨⟨o,e,ex.1⟩,fun a e2=>?_⟩
   cases e2
   exact ⟨o,e,ex.2.1⟩
 | _=>exact False.elim ty
def jgr (K:PySem.W.Frag) (T:String) (r:V→List V→Hp→VK→Prop) (to:TE):TE:=fun σ H Q=>to σ H fun x H1=>tyV K T x H1∧r x [] H1 Q
def tBM (K:PySem.W.Frag) (T:String) (r:V→List V→Hp→VK→Prop) (to:TE) (t:TA):TE:=fun σ H Q=>to σ H fun x H1=>tyV K T x H1∧t σ H1 fun xs H2=>r x xs H2 Q
variable {o e:Expr} {es:List Expr} {to:TE} {t:TA} {name:Str} {apos cpos:Pos} {T id:String} {r:V→List V→Hp→VK→Prop}
theorem jfM (pa:PlainAttrs T) (slot:Slot T name id) (hty:typeOf (.builtin id)=pure (.type "method_descriptor")) (hm:MtR X id r) (ho:PE X o to)
  (hbase:attributeBase o name X.env (eval o X.env)=eval o X.env:=by rfl) (hline:(apos.endLine == cpos.line)=true:=by rfl):PE X (.Call (.Attribute o name apos) [] [] cpos) (jgr X.K T r to):=by
 intro pins s σ H Q I h
 refine wpAny_Call_method0_late hbase hline (thn (ho pins s σ H _ I h) fun v s1 ⟨x,H1,I1,r1,ty,q1⟩=>?_)
 obtain ⟨h1,h2⟩:=jcl I1 r1 ty
 exact ⟨T,id,pa,slot,hty,h1,h2,Calls.callWith_builtin rfl (PySem.evalArgs_none (hm pins s1 σ H1 x [] v [] Q I1 r1 .nil q1))⟩
theorem jgI (pa:PlainAttrs T) (slot:Slot T name id) (hty:typeOf (.builtin id)=pure (.type "method_descriptor")) (hm:MtR X id r) (ho:PE X o to) (ha:PA X (e :: es) t)
  (hbase:attributeBase o name X.env (eval o X.env)=eval o X.env:=by rfl)
  (hfew:((backTo cpos (starEach (e :: es) X.env)).all (fun x=>!x.1) && (backToKw cpos (keywordEach [] X.env)).all (fun x=>x.1.isSome)
   && decide ((e :: es).length+([]:List Keyword).length+(if ([]:List Keyword).isEmpty then 0 else 1) < 30))=true:=by rfl)
  (hline:(apos.endLine == cpos.line)=true:=by rfl) (hs:starEach (e :: es) X.env=(false,eval e X.env) :: starEach es X.env:=by rfl) (hplain:(backTo cpos (starEach es X.env)).any (·.1)=false:=by rfl) :
  PE X (.Call (.Attribute o name apos) (e :: es) [] cpos) (tBM X.K T r to t):=by
 intro pins s σ H Q I h
 refine wpAny_Call_method_late hbase hfew hline rfl (thn (ho pins s σ H _ I h) fun v s1 ⟨x,H1,I1,r1,ty,q1⟩=>?_)
 obtain ⟨h1,h2⟩:=jcl I1 r1 ty
 refine ⟨T,id,pa,slot,hty,h1,h2,?_⟩
 have hA:=ha cpos pins s1 σ H1 _ I1 q1
 rw [hs] at hA ⊢
 refine Calls.callWith_builtin (by show (false || (backTo cpos (starEach es X.env)).any (·.1))=false;rw [hplain] <;> rfl) (Calls.evalArgs_plain ?_)
 exact thn hA fun us s2 ⟨vs,H2,I2,r2,q2⟩=>hm pins s2 σ H2 x vs v us Q I2 r1 r2 q2
end
def MtM (X:Cx) (id:String) (r:V→List V→Hp→VK→Prop):Prop:=
 ∀ (pins:List (Addr×Obj)) (s:Shared) (σ:St) (H:Hp) (x:V) (xs:List V) (v:Value) (us:List Value) (Q:VK),Inv X pins σ H s→RelV x v→Vals xs us→r x xs H Q→
  wpAny (model X.prog X.w) X.A (call (.builtin id) (v :: us)) (EP X pins σ Q) X.xe s
theorem Vals.one:∀ {x:V} {us:List Value},Vals [x] us→∃ u,us=[u]∧RelV x u
 | _,_,.cons r .nil=>⟨_,rfl,r⟩
theorem Vals.zero:∀ {us:List Value},Vals [] us→us=[]
 | _,.nil=>rfl
theorem Vals.dropLast {xs:List V} {us:List Value} (h:Vals xs us):Vals xs.dropLast us.dropLast:=by
 induction h with
 | nil=>exact .nil
 | cons r t ih=>
  cases t with
  | nil=>exact .nil
  | cons q t'=>exact .cons r ih
theorem Vals.eraseIdx:∀ {xs:List V} {us:List Value} (i:Nat),Vals xs us→Vals (xs.eraseIdx i) (us.eraseIdx i)
 | _,_,_,.nil=>.nil
 | _,_,0,.cons _ t=>t
 | _,_,i+1,.cons r t=>.cons r (Vals.eraseIdx i t)
theorem Vals.reverse {xs:List V} {us:List Value} (h:Vals xs us):Vals xs.reverse us.reverse:=by
 induction h with
 | nil=>exact .nil
 | cons r t ih=>rw [List.reverse_cons,List.reverse_cons];exact Vals.append ih (.cons r .nil)
theorem Z8 {α:Type} (l:List α):l.eraseIdx (l.length - 1)=l.dropLast:=by
 induction l with
 | nil=>rfl
 | cons a r ih=>
  cases r with
  | nil=>rfl
  | cons b r=>
   have e:(a :: b :: r).length - 1=((b :: r).length - 1)+1:=by
    have h1:(a :: b :: r).length=r.length+2:=rfl
    have h2:(b :: r).length=r.length+1:=rfl
    omega
   rw [e,List.eraseIdx_cons_succ,ih]
   all_goals rfl
section
variable {X:Cx} {pins:List (Addr×Obj)} {σ:St} {H:Hp} {s:Shared} {l b:Addr} {xs ys zs:List V}
theorem Inv.lset {its its':List Value} {n:Nat} {f:Array Value→Array Value} {t':Nat} (I:Inv X pins σ H s) (hH:H l=some (.lst xs))
  (e:s.heap.get? l=some { cls:=.type "list",data:=.seq its.toArray n }) (hf:f its.toArray=its'.toArray) (hv:Vals ys its') (hz:ys.length≤sizeLine) :
  Inv X pins σ (upd H l (.lst ys)) { s with heap:=s.heap.update l (Obj.mapSeq f),toks:=t' }:=by
 have q:=PySem.IsL.update e f
 rw [hf] at q
 refine I.write (x:=l) (e:=l) (by rw [hH];exact trivial) (.inl rfl) (fun b' u hb hu=>(Heap.get?_update_other s.heap (Obj.mapSeq f) (Ne.symm hb)).trans hu) ⟨_,q⟩ ?_
 exact ⟨hz,its',_,hv,q⟩
theorem Inv.lnew {its:List Value} {t':Nat} (I:Inv X pins σ H s) (hv:Vals ys its) (hz:ys.length≤sizeLine) :
  Inv X pins σ (upd H s.heap.objs.size (.lst ys)) { s with heap:=s.heap.push { cls:=.type "list",data:=.seq its.toArray },toks:=t' }:=
 I.laid (fun _ _ q=>Heap.get?_push_of_some _ q) (Nat.le_refl _) ⟨hz,its,0,hv,Heap.get?_push_size _ rfl⟩
theorem Inv.fresh (I:Inv X pins σ H s):H s.heap.objs.size=none:=I.hok.fresh (Nat.le_refl _)
theorem Inv.lstM (I:Inv X pins σ H s) (hH:H l=some (.lst xs)):xs.length≤sizeLine∧∃ (its:List Value) (n:Nat),Vals xs its∧xs.length=its.length∧s.heap.get? l=some { cls:=.type "list",data:=.seq its.toArray n }:=by
 obtain ⟨z,its,n,r,e⟩:=I.hok l _ hH
 exact ⟨z,its,n,r,r.length,e⟩
theorem jdo {n:Nat} (h:n≤sizeLine):Builtin.List.listTooLong n=false:=by
 unfold Builtin.List.listTooLong
 exact decide_eq_false (by omega)
end
section
variable {X:Cx}
def jec:V→List V→Hp→VK→Prop:=fun x vs H Q=>∃ l xs y,x=.ref l∧vs=[y]∧H l=some (.lst xs)∧xs.length < sizeLine∧Q .non (upd H l (.lst (xs++[y])))
theorem jQ:MtM X "list.append" jec:=by
 intro pins s σ H x vs v us Q I rx rv h
 obtain ⟨l,xs,y,rfl,rfl,hH,hz,q⟩:=h
 cases rx
 obtain ⟨u,rfl,ru⟩:=rv.one
 obtain ⟨z,its,n,r,hl,e⟩:=I.lstM hH
 refine call_meets F.slot_list_append ⟨_,e,rfl⟩ F.entry_list_append (F.args_list_append_2 _ _) (PySem.list_append l its.toArray n u (by rw [List.size_toArray];omega)) ⟨e,?_⟩
 refine ⟨.non,_,I.lset (its':=its++[u]) hH e (by simp) (r.append (.cons ru .nil)) ?_,rfl,q⟩
 rw [List.length_append,List.length_singleton]
 omega
def jeb:V→List V→Hp→VK→Prop:=fun x vs H Q=>∃ l b xs zs,x=.ref l∧vs=[.ref b]∧H l=some (.lst xs)∧H b=some (.lst zs)∧xs.length+zs.length≤sizeLine∧Q .non (upd H l (.lst (xs++zs)))
theorem yc:MtM X "list.extend" jeb:=by
 intro pins s σ H x vs v us Q I rx rv h
 obtain ⟨l,b,xs,zs,rfl,rfl,hH,hB,hz,q⟩:=h
 cases rx
 obtain ⟨u,rfl,ru⟩:=rv.one
 cases ru
 obtain ⟨z,its,n,r,hl,e⟩:=I.lstM hH
 obtain ⟨z2,its2,n2,r2,hl2,e2⟩:=I.lstM hB
 have hsz:its.toArray.size+its2.toArray.size≤sizeLine:=by rw [List.size_toArray,List.size_toArray];omega
 have hlong:¬ (!its.toArray.isEmpty && Builtin.List.listTooLong (its.toArray.size+its2.toArray.size))=true:=by
  rw [jdo hsz,Bool.and_false]
  exact Bool.false_ne_true
 refine call_meets F.slot_list_extend ⟨_,e,rfl⟩ F.entry_list_extend (F.args_list_extend_2 _ _)
  (AutoSeq1.list_extend_list_list_0 l its.toArray n b its2.toArray n2 hlong (by rw [List.size_toArray];omega) (by omega)) ⟨e,e2,?_⟩
 refine ⟨.non,_,I.lset (its':=its++its2) hH e (by simp) (r.append r2) ?_,rfl,q⟩
 rw [List.length_append]
 omega
def jg6:V→List V→Hp→VK→Prop:=fun x vs H Q=>∃ l xs y,x=.ref l∧vs=[]∧H l=some (.lst xs)∧xs[xs.length - 1]?=some y∧Q y (upd H l (.lst xs.dropLast))
theorem jhb:MtM X "list.pop" jg6:=by
 intro pins s σ H x vs v us Q I rx rv h
 obtain ⟨l,xs,y,rfl,rfl,hH,hy,q⟩:=h
 cases rx
 have hus:=rv.zero
 subst hus
 obtain ⟨z,its,n,r,hl,e⟩:=I.lstM hH
 obtain ⟨u,hu,ru⟩:=r.get hy
 have hy':its.toArray[its.toArray.size - 1]?=some u:=by
  show its.toArray[its.length - 1]?=some u
  rw [← Array.getElem?_toList,← hl]
  exact hu
 refine call_meets F.slot_list_pop ⟨_,e,rfl⟩ F.entry_list_pop (F.args_list_pop_1 _) (MeetsSeq.list_pop_last l its.toArray n u hy' (by rw [List.size_toArray];omega)) ⟨e,?_⟩
 refine ⟨y,_,I.lset (its':=its.dropLast) hH e ?_ r.dropLast ?_,ru,q⟩
 ·show its.toArray.eraseIdxIfInBounds (its.toArray.size - 1)=its.dropLast.toArray
  rw [List.size_toArray,List.eraseIdxIfInBounds_toArray,Z8]
 ·rw [List.length_dropLast]
  omega
def jcG:V→List V→Hp→VK→Prop:=fun x vs H Q=>∃ l xs,x=.ref l∧vs=[]∧H l=some (.lst xs)∧Q .non (upd H l (.lst xs.reverse))
theorem ZZ:MtM X "list.reverse" jcG:=by
 intro pins s σ H x vs v us Q I rx rv h
 obtain ⟨l,xs,rfl,rfl,hH,q⟩:=h
 cases rx
 have hus:=rv.zero
 subst hus
 obtain ⟨z,its,n,r,hl,e⟩:=I.lstM hH
 refine call_meets F.slot_list_reverse ⟨_,e,rfl⟩ F.entry_list_reverse (F.args_list_reverse_1 _) (AutoSeq1.list_reverse_list_0 l its.toArray n (by rw [List.size_toArray];omega)) ⟨e,?_⟩
 refine ⟨.non,_,I.lset (its':=its.reverse) hH e (by simp) r.reverse ?_,rfl,q⟩
 rw [List.length_reverse]
 omega
def jg8:R2:=fun x y H Q=>∃ l b xs zs,x=.ref l∧y=.ref b∧H l=some (.lst xs)∧H b=some (.lst zs)∧xs.length+zs.length≤sizeLine∧∀ p,H p=none→Q (.ref p) (upd H p (.lst (xs++zs)))
theorem kD:OpR X (binaryOp .Add) jg8:=by
 intro pins s σ H x y v u Q I rx ry h
 obtain ⟨l,b,xs,zs,rfl,rfl,hH,hB,hz,q⟩:=h
 cases rx
 cases ry
 obtain ⟨z,its,n,r,hl,e⟩:=I.lstM hH
 obtain ⟨z2,its2,n2,r2,hl2,e2⟩:=I.lstM hB
 refine PySem.P.add_list e e2 ?_ (by rw [List.size_toArray,List.size_toArray];omega)
 have ea:its.toArray++its2.toArray=(its++its2).toArray:=by simp
 rw [ea]
 exact ⟨.ref _,_,I.lnew (t':=s.toks) (r.append r2) (by rw [List.length_append];omega),rfl,q _ I.fresh⟩
end
section
variable {κ:Type} [DecidableEq κ]
def kP (kvs:List (κ×V)) (k:κ):Option V:=(kvs.find? fun kv=>decide (kv.1=k)).map (·.2)
def j7 (kvs:List (κ×V)) (k:κ) (v:V):List (κ×V):=
 if (kvs.any fun kv=>decide (kv.1=k))=true then kvs.map (fun kv=>if kv.1=k then (kv.1,v) else kv) else kvs++[(k,v)]
theorem jci {k:κ}:kP ([]:List (κ×V)) k=none:=rfl
theorem kr {p:κ×V} {r:List (κ×V)} {k:κ} (e:p.1=k):kP (p :: r) k=some p.2:=by simp [kP,List.find?_cons,e]
theorem ku {p:κ×V} {r:List (κ×V)} {k:κ} (e:¬ p.1=k):kP (p :: r) k=kP r k:=by simp [kP,List.find?_cons,e]
theorem yA (k:κ):∀ kvs:List (κ×V),(kvs.any fun kv=>decide (kv.1=k))=(kP kvs k).isSome
 | []=>rfl
 | p :: r=>by
  rw [List.any_cons]
  by_cases e:p.1=k
  ·simp only [kr e,decide_eq_true e,Bool.true_or,Option.isSome_some]
  ·rw [ku e,decide_eq_false e,Bool.false_or];exact yA k r
theorem YZ (k j:κ) (y:V):∀ kvs:List (κ×V),kP (kvs.map fun kv=>if kv.1=k then (kv.1,y) else kv) j=(kP kvs j).map fun x=>if j=k then y else x
 | []=>rfl
 | p :: r=>by
  have ih:=YZ k j y r
  rw [List.map_cons]
  by_cases h:p.1=k
  ·rw [if_pos h]
   by_cases e:p.1=j
   ·rw [kr (p:=(p.1,y)) e,kr e,Option.map_some,if_pos (e.symm.trans h)]
   ·rw [ku (p:=(p.1,y)) e,ku e,ih]
  ·rw [if_neg h]
   by_cases e:p.1=j
   ·rw [kr (p:=p) e,kr e,Option.map_some,if_neg (fun z=>h (e.trans z))]
   ·rw [ku (p:=p) e,ku e,ih]
theorem Kw (k j:κ) (y:V):∀ kvs:List (κ×V),kP kvs k=none→kP (kvs++[(k,y)]) j=if j=k then some y else kP kvs j
 | [],_=>by
  by_cases e:k=j
  ·rw [if_pos e.symm];exact kr (p:=(k,y)) e
  ·rw [if_neg (fun z=>e z.symm)];exact ku (p:=(k,y)) e
 | p :: r,hn=>by
  rw [List.cons_append]
  have hk:¬ p.1=k:=fun z=>by rw [kr z] at hn;cases hn
  rw [ku hk] at hn
  have ih:=Kw k j y r hn
  by_cases e:p.1=j
  ·rw [kr e,kr e,if_neg (fun z=>hk (e.trans z))]
  ·rw [ku e,ku e,ih]
theorem qm (kvs:List (κ×V)) (k j:κ) (y:V):kP (j7 kvs k y) j=if j=k then some y else kP kvs j:=by
 unfold j7
 by_cases a:(kvs.any fun kv=>decide (kv.1=k))=true
 ·rw [if_pos a,YZ]
  rw [yA] at a
  by_cases e:j=k
  ·obtain ⟨x,hx⟩:=Option.isSome_iff_exists.mp a
   rw [if_pos e,e,hx,Option.map_some,if_pos rfl]
  ·rw [if_neg e]
   cases kP kvs j with
   | none=>rfl
   | some x=>rw [Option.map_some,if_neg e]
 ·rw [if_neg a]
  refine Kw k j y kvs ?_
  rw [yA] at a
  cases q:kP kvs k with
  | none=>rfl
  | some x=>rw [q] at a;exact (a rfl).elim
theorem qZ (kvs:List (κ×V)) (k:κ) (v:V):(j7 kvs k v).length≤kvs.length+1:=by
 unfold j7
 split
 ·rw [List.length_map];omega
 ·rw [List.length_append,List.length_cons,List.length_nil];omega
theorem RelO.isSome_eq {o:Option V} {u:Option Value} (r:RelO o u):o.isSome=u.isSome:=by
 cases o with
 | none=>cases u with
  | none=>rfl
  | some _=>exact (show False from r).elim
 | some _=>cases u with
  | none=>exact (show False from r).elim
  | some _=>rfl
theorem RelO.getD {o:Option V} {u:Option Value} {d:V} {d':Value} (r:RelO o u) (rd:RelV d d'):RelV (o.getD d) (u.getD d'):=by
 cases o with
 | none=>cases u with
  | none=>exact rd
  | some _=>exact (show False from r).elim
 | some _=>cases u with
  | none=>exact (show False from r).elim
  | some _=>exact r
theorem KV.val {kvs:List (κ×V)} {vs:List (κ×Value)} (r:KV kvs vs) (k:κ):RelO (kP kvs k) (valueAt vs k):=by
 unfold KV at r
 induction r with
 | nil=>exact True.intro
 | @cons p q ps qs h t ih=>
  obtain ⟨h1,h2⟩:=h
  by_cases e:p.1=k
  ·have e':q.1=k:=h1.symm.trans e
   have b:valueAt (q :: qs) k=some q.2:=by simp [valueAt,List.find?_cons,e']
   rw [kr e,b];exact h2
  ·have e':¬ q.1=k:=fun z=>e (h1.trans z)
   have b:valueAt (q :: qs) k=valueAt qs k:=by simp [valueAt,List.find?_cons,e']
   rw [ku e,b];exact ih
theorem KV.any {kvs:List (κ×V)} {vs:List (κ×Value)} (r:KV kvs vs) (k:κ):(kvs.any fun kv=>decide (kv.1=k))=vs.any fun kv=>decide (kv.1=k):=by
 unfold KV at r
 induction r with
 | nil=>rfl
 | cons h t ih=>rw [List.any_cons,List.any_cons,ih,h.1]
theorem KV.repl {kvs:List (κ×V)} {vs:List (κ×Value)} (r:KV kvs vs) (k:κ) {y:V} {u:Value} (ry:RelV y u) :
  KV (kvs.map fun kv=>if kv.1=k then (kv.1,y) else kv) (vs.map fun kv=>if kv.1=k then (kv.1,u) else kv):=by
 unfold KV at r ⊢
 induction r with
 | nil=>exact .nil
 | @cons p q ps qs h t ih=>
  rw [List.map_cons,List.map_cons]
  refine .cons ?_ ih
  obtain ⟨h1,h2⟩:=h
  by_cases e:p.1=k
  ·rw [if_pos e,if_pos (h1.symm.trans e)];exact ⟨h1,ry⟩
  ·rw [if_neg e,if_neg (fun z=>e (h1.trans z))];exact ⟨h1,h2⟩
theorem KV.put {kvs:List (κ×V)} {vs:List (κ×Value)} (r:KV kvs vs) (k:κ) {y:V} {u:Value} (ry:RelV y u):KV (j7 kvs k y) (stored vs k u):=by
 unfold j7 stored
 rw [r.any k]
 by_cases e:(vs.any fun kv=>decide (kv.1=k))=true
 ·rw [if_pos e,if_pos e];exact r.repl k ry
 ·rw [if_neg e,if_neg e];exact Paired.snoc r ⟨rfl,ry⟩
theorem KV.keys {kvs:List (κ×V)} {vs:List (κ×Value)} (r:KV kvs vs):kvs.map (·.1)=vs.map (·.1):=by
 unfold KV at r
 induction r with
 | nil=>rfl
 | cons h t ih=>rw [List.map_cons,List.map_cons,ih,h.1]
theorem KV.length {kvs:List (κ×V)} {vs:List (κ×Value)} (r:KV kvs vs):kvs.length=vs.length:=Paired.length r
end
theorem JX {P:Program} {w:World} {k:Key} {u:Value} (r:RelV (kV k) u):(j4 P w).is k u=true:=by
 cases k with
 | inl i=>obtain ⟨t,e⟩:=(show ∃ t,u=Value.int i t from r);subst e;exact Zh P w i t
 | inr x=>obtain ⟨t,e⟩:=(show ∃ t,u=Value.str x t from r);subst e;exact Zg P w x t
theorem KQ {P:Program} {w:World}:∀ {ks:List Key} {us:List Value},Vals (ks.map kV) us→ItemsAre (j4 P w) ks us
 | [],_,r=>by rw [List.map_nil] at r;cases r;exact .nil
 | k :: ks,_,r=>by
  rw [List.map_cons] at r
  cases r with
  | cons h t=>exact .cons (JX h) (KQ t)
abbrev KT (H:Hp):List (List Key×V)→List (List Key×Addr×Value)→Prop:=Paired fun p q=>p.1=q.1∧H q.2.1=some (.tup (p.1.map kV))∧RelV p.2 q.2.2
theorem KT.val {H:Hp} {kvs:List (List Key×V)} {xs:List (List Key×Addr×Value)} (r:KT H kvs xs) (k:List Key):RelO (kP kvs k) ((atKey xs k).map (·.2)):=by
 induction r with
 | nil=>exact True.intro
 | @cons p q ps qs h t ih=>
  obtain ⟨h1,_,h2⟩:=h
  by_cases e:p.1=k
  ·have e':q.1=k:=h1.symm.trans e
   have b:atKey (q :: qs) k=some q.2:=by simp [atKey,List.find?_cons,e']
   rw [kr e,b];exact h2
  ·have e':¬ q.1=k:=fun z=>e (h1.trans z)
   have b:atKey (q :: qs) k=atKey qs k:=by simp [atKey,List.find?_cons,e']
   rw [ku e,b];exact ih
theorem KT.repl {H:Hp} {kvs:List (List Key×V)} {xs:List (List Key×Addr×Value)} (r:KT H kvs xs) (k:List Key) {y:V} {u:Value} (ry:RelV y u) :
  KT H (kvs.map fun kv=>if kv.1=k then (kv.1,y) else kv) (xs.map (putAt k u)):=by
 induction r with
 | nil=>exact .nil
 | @cons p q ps qs h t ih=>
  rw [List.map_cons,List.map_cons]
  refine .cons ?_ ih
  obtain ⟨h1,h2,h3⟩:=h
  unfold putAt
  by_cases e:p.1=k
  ·rw [if_pos e,if_pos (h1.symm.trans e)];exact ⟨h1,h2,ry⟩
  ·rw [if_neg e,if_neg (fun z=>e (h1.trans z))];exact ⟨h1,h2,h3⟩
theorem KT.put {H:Hp} {kvs:List (List Key×V)} {xs:List (List Key×Addr×Value)} (r:KT H kvs xs) (k:List Key) {b:Addr} {y:V} {u:Value} (hb:H b=some (.tup (k.map kV))) (ry:RelV y u) :
  KT H (j7 kvs k y) (storedH xs k b u):=by
 have e:(kvs.any fun kv=>decide (kv.1=k))=(atKey xs k).isSome:=by
  rw [yA,(r.val k).isSome_eq,Option.isSome_map]
 unfold j7 storedH
 rw [e]
 by_cases q:(atKey xs k).isSome=true
 ·rw [if_pos q,if_pos q];exact r.repl k ry
 ·rw [if_neg q,if_neg q];exact Paired.snoc r ⟨rfl,hb,ry⟩
theorem KT.keeps {H H':Hp} {kvs:List (List Key×V)} {xs:List (List Key×Addr×Value)} (r:KT H kvs xs) (ht:∀ b ys,H b=some (.tup ys)→H' b=some (.tup ys)):KT H' kvs xs:=
 Paired.mapP r fun _ _ z=>⟨z.1,ht _ _ z.2.1,z.2.2⟩
section
variable {P:Program} {w:World} {H:Hp} {h:Heap} {a:Addr}
theorem jfg {u:HO} (ok:HOk P w H h) (e:Rd H a u):ObjOk P w H h a u:=e.ok ok
theorem Zv {kvs:List (Key×V)} (ok:HOk P w H h) (e:Rd H a (.dK kvs)):kvs.length≤sizeLine∧(a == sysModules)=false∧∃ vs,KV kvs vs∧h.DictOf (j4 P w) a vs:=
 show ObjOk P w H h a (.dK kvs) from jfg ok e
theorem jdP {kvs:List (Key×V)} (ok:HOk P w H h) (e:H a=some (.dK kvs)):kvs.length≤sizeLine∧(a == sysModules)=false∧∃ vs,KV kvs vs∧h.DictOf (j4 P w) a vs:=Zv ok (.inl e)
theorem YB {ks:List Key} (ok:HOk P w H h) (e:H a=some (.tup (ks.map kV))):(tupleKind (j4 P w)).is h ks a:=by
 obtain ⟨_,its,r,o,h1,h2,n,h3⟩:=(show ObjOk P w H h a (.tup (ks.map kV)) from ok a _ e)
 exact ⟨o,its.toArray,n,h1,h2,h3,by simpa using KQ r⟩
theorem Zu {kvs:List (List Key×V)} (ok:HOk P w H h) (e:Rd H a (.dT kvs)):kvs.length≤sizeLine∧(a == sysModules)=false∧
  ∃ xs,KT H kvs xs∧h.DictOfH (tupleKind (j4 P w)) a xs:=by
 obtain ⟨z,y,xs,r,o,es,ep,h1,h2,h3,h4,h5⟩:=(show ObjOk P w H h a (.dT kvs) from jfg ok e)
 refine ⟨z,y,xs,r,o,es,ep,h1,h2,h3,h4,fun x hx=>?_,h5⟩
 have all:∀ {l:List (List Key×V)} {m:List (List Key×Addr×Value)},KT H l m→∀ x∈m,(tupleKind (j4 P w)).is h x.1 x.2.1:=by
  intro l m q
  induction q with
  | nil=>intro x hx;exact nomatch hx
  | @cons p q ps qs hq t ih=>
   intro x hx
   rcases List.mem_cons.mp hx with e | hx
   ·subst e
    exact YB ok (by rw [← hq.1];exact hq.2.1)
   ·exact ih x hx
 exact all r x hx
theorem jgZ {kvs:List (List Key×V)} (ok:HOk P w H h) (e:H a=some (.dT kvs)):kvs.length≤sizeLine∧(a == sysModules)=false∧
  ∃ xs,KT H kvs xs∧h.DictOfH (tupleKind (j4 P w)) a xs:=Zu ok (.inl e)
end
def DGet (H:Hp) (a:Addr) (y:V) (r:Option V):Prop:=
 (∃ kvs k,Rd H a (.dK kvs)∧y=kV k∧r=kP kvs k)∨∃ kvs k b,Rd H a (.dT kvs)∧y=.ref b∧H b=some (.tup (k.map kV))∧r=kP kvs k
def DPut (H:Hp) (a:Addr) (y v:V) (H':Hp):Prop:=
 (∃ kvs k,H a=some (.dK kvs)∧y=kV k∧kvs.length < sizeLine∧H'=upd H a (.dK (j7 kvs k v)))∨
 ∃ kvs k b,H a=some (.dT kvs)∧y=.ref b∧H b=some (.tup (k.map kV))∧kvs.length < sizeLine∧H'=upd H a (.dT (j7 kvs k v))
theorem DGet.k {H:Hp} {a:Addr} {kvs:List (Key×V)} {k:Key} (e:H a=some (.dK kvs)):DGet H a (kV k) (kP kvs k):=.inl ⟨kvs,k,.inl e,rfl,rfl⟩
theorem DGet.t {H:Hp} {a b:Addr} {kvs:List (List Key×V)} {k:List Key} (e:H a=some (.dT kvs)) (eb:H b=some (.tup (k.map kV))):DGet H a (.ref b) (kP kvs k):=.inr ⟨kvs,k,b,.inl e,rfl,eb,rfl⟩
theorem DPut.k {H:Hp} {a:Addr} {kvs:List (Key×V)} {k:Key} {v:V} (e:H a=some (.dK kvs)) (hl:kvs.length < sizeLine):DPut H a (kV k) v (upd H a (.dK (j7 kvs k v))):=.inl ⟨kvs,k,e,rfl,hl,rfl⟩
theorem DPut.t {H:Hp} {a b:Addr} {kvs:List (List Key×V)} {k:List Key} {v:V} (e:H a=some (.dT kvs)) (eb:H b=some (.tup (k.map kV))) (hl:kvs.length < sizeLine) :
  DPut H a (.ref b) v (upd H a (.dT (j7 kvs k v))):=.inr ⟨kvs,k,b,e,rfl,eb,hl,rfl⟩
section
variable {X:Cx} {pins:List (Addr×Obj)} {σ:St} {H:Hp} {s:Shared} {a:Addr} {y v:V} {u r:Value} {o:Option V} {A:Around} {E:Value→Shared→Prop}
theorem Inv.big (I:Inv X pins σ H s):sysModules < s.heap.objs.size:=by
 have h:mainGlobals < s.heap.objs.size:=(I.mod.glob.keeps I.bk).lt
 exact Nat.lt_trans (by decide) h
theorem jbV {Q:Value→Shared→Prop} (hu:A.units+1 < cLine) (I:Inv X pins σ H s) (g:DGet H a y (some v)) (ry:RelV y u) (h:∀ w' s',Inv X pins σ H s'→RelV v w'→Q w' s') :
  wpAny (model X.prog X.w) A (getItem (.ref a) u) Q E s:=by
 rcases g with ⟨kvs,k,e,ey,l⟩ | ⟨kvs,k,b,e,ey,eb,l⟩
 ·subst ey
  obtain ⟨z,hd,vs,rel,dd⟩:=Zv I.hok e
  obtain ⟨w',hw,rw'⟩:=RelO.some_of (v:=v) (o:=valueAt vs k) (by rw [l];exact rel.val k)
  exact wpAny_getItem_of (JX ry) dd.mapOf hw (h w' _ (I.tok _) rw')
 ·subst ey
  cases (show u=Value.ref b from ry)
  obtain ⟨z,hd,xs,rel,dd⟩:=Zu I.hok e
  obtain ⟨w',hw,rw'⟩:=RelO.some_of (v:=v) (o:=(atKey xs k).map (·.2)) (by rw [l];exact rel.val k)
  obtain ⟨p,hp,hp2⟩:=Option.map_eq_some_iff.mp hw
  refine wpAny_getItem_heap (tupleKind_room_in1 hu) (YB I.hok eb) dd hp ?_
  rw [hp2]
  exact h w' _ (I.tok _) rw'
theorem Ju {h':Heap} {t':Nat} {ob:HO} (I:Inv X pins σ H s) (mu:Mut (H a)) (hs:Heap.SameBut a s.heap h') (he:∃ q,h'.get? a=some q) (new:ObjOk X.prog X.w (upd H a ob) h' a ob) :
  Inv X pins σ (upd H a ob) { s with heap:=h',toks:=t' }:=
 I.write (x:=a) (e:=a) mu (.inl rfl) (fun b q hb z=>(hs.2 b hb).trans z) he new
theorem YI {P:Program} {w:World} {H':Hp} {h':Heap} {kvs:List (Key×V)} {vs:List (Key×Value)} (z:kvs.length≤sizeLine) (hd:(a == sysModules)=false) (rel:KV kvs vs) (dd:h'.DictOf (j4 P w) a vs) :
  ObjOk P w H' h' a (.dK kvs):=⟨z,hd,vs,rel,dd⟩
theorem jbU {H':Hp} {Q:Unit→Shared→Prop} (hu:A.units+1 < cLine) (I:Inv X pins σ H s) (g:DPut H a y v H') (ry:RelV y u) (rv:RelV v r) (h:∀ s',Inv X pins σ H' s'→Q () s') :
  wpAny (model X.prog X.w) A (setItem (.ref a) u r) Q E s:=by
 rcases g with ⟨kvs,k,e,ey,l,eH⟩ | ⟨kvs,k,b,e,ey,eb,l,eH⟩
 ·subst ey eH
  obtain ⟨z,hd,vs,rel,dd⟩:=jdP I.hok e
  have hz:vs.length≤sizeLine:=by rw [← rel.length];exact z
  have hl:(j7 kvs k v).length≤sizeLine:=by have:=qZ kvs k v;omega
  refine wpAny_setItem_pairs (hsz:=hz) (JX ry) dd fun h' dd' hs=>h _ ?_
  have he:∃ q,h'.get? a=some q:=let ⟨q,_,_,hq,_⟩:=dd';⟨q,hq⟩
  exact Ju I (by rw [e];exact True.intro) hs he (YI hl hd (rel.put k rv) dd')
 ·subst ey eH
  cases (show u=Value.ref b from ry)
  obtain ⟨z,hd,xs,rel,dd⟩:=jgZ I.hok e
  have hz:xs.length≤sizeLine:=by rw [← Paired.length rel];exact z
  have hl:(j7 kvs k v).length≤sizeLine:=by have:=qZ kvs k v;omega
  refine wpAny_setItem_heap (hsz:=hz) (tupleKind_room_in1 hu) (YB I.hok eb) dd fun h' dd' hs=>h _ ?_
  obtain ⟨q,es,ep,hq,h2,h3,h4,_,h5⟩:=dd'
  refine Ju I (by rw [e];exact True.intro) hs ⟨q,hq⟩ ⟨hl,hd,_,(rel.put k eb rv).keeps fun c ys ec=>?_,q,es,ep,hq,h2,h3,h4,h5⟩
  rw [jr (jfj ec e (fun z=>nomatch z))]
  exact ec
end
def jgd (i:Expr):Prop:=∀ ov iv,subscripted i false ov iv=operate [ov,iv] (getItem ov iv)
theorem jd7 {prog:Program} {w:World} {A:Around} {E:Value→Shared→Prop} {s:Shared} {env:Env} {value slice:Expr} {pos:Pos} {T id:String} {Q:Value→Shared→Prop}
  (hl:typeLookup (.type T) "__getitem__" = pure (some (.builtin id))) (hs:jgd slice)
  (h:wpAny (model prog w) A (eval value env) (fun o s₁=>wpAny (model prog w) A (eval slice env) (fun i s₂=>s₂.TypeIs o T∧wpAny (model prog w) A (getItem o i) Q E s₂) E s₁) E s) :
  wpAny (model prog w) A (eval (.Subscript value slice pos) env) Q E s:=by
 refine Subscript_ (wpAny_mono h (fun o s₁ h₁=>wpAny_mono h₁ (fun i s₂ h₂=>?_) fun _ _ x=>x) fun _ _ x=>x)
 obtain ⟨hT,h₂⟩:=h₂
 unfold subscriptTail
 refine wpAny_bind ?_
 rw [getitemInPython_of_ne hT.not_modules]
 refine wpAny_bind (wpAny_specialOf hT hl ?_)
 have fin:wpAny (model prog w) A (subscripted slice false o i) (fun r s₃=>wpAny (model prog w) A (letTemporaryGo value o r >>= fun _=>pure r) Q E s₃) E s₂:=by
  rw [hs o i]
  exact wpAny_operating (wpAny_mono h₂ (fun r s₃ h₃=>wpAny_bind (wpAny_letTemporaryGo (wpAny_pure h₃))) fun _ _ x=>x)
 first
  | exact wpAny_pure (wpAny_bind fin)
  | exact wpAny_bind (wpAny_pure (wpAny_bind fin))
  | exact wpAny_bind fin
theorem Zx {X:Cx} {pins:List (Addr×Obj)} {σ:St} {H:Hp} {s:Shared} {a:Addr} {y:V} {o:Option V} (I:Inv X pins σ H s) (g:DGet H a y o):s.TypeIs (.ref a) "dict":=by
 rcases g with ⟨kvs,k,e,_,_⟩ | ⟨kvs,k,b,e,_,_,_⟩
 ·obtain ⟨_,_,vs,_,dd⟩:=Zv I.hok e
  exact dd.typeIs
 ·obtain ⟨_,_,xs,_,dd⟩:=Zu I.hok e
  exact dd.typeIs
def jfb (td ty:TE):TE:=fun σ H Q=>td σ H fun x H1=>ty σ H1 fun y H2=>∃ a v,x=.ref a∧DGet H2 a y (some v)∧Q v H2
def jff (td ty tv:TE):TS:=fun D σ H=>tv σ H fun v H1=>td σ H1 fun x H2=>ty σ H2 fun y H3=>∃ a H4,x=.ref a∧DPut H3 a y v H4∧D.nx σ H4
section
variable {X:Cx} {o i e value:Expr} {pos pos' tpos:Pos} {td ty tv:TE}
theorem jey (hu:X.A.units+1 < cLine) (ho:PE X o td) (hi:PE X i ty) (hs:jgd i):PE X (.Subscript o i pos) (jfb td ty):=by
 intro pins s σ H Q I h
 refine jd7 PySem.F.slot_dict_getitem.lookup hs (thn (ho pins s σ H _ I h) fun u s1 ⟨x,H1,I1,rx,q1⟩=>thn (hi pins s1 σ H1 _ I1 q1) fun iv s2 ⟨y,H2,I2,ry,a,v,ex,g,q2⟩=>?_)
 subst ex
 obtain rfl:u=Value.ref a:=rx
 exact ⟨Zx I2 g,jbV hu I2 g ry fun w' s3 I3 rw'=>⟨v,H2,I3,rw',q2⟩⟩
theorem jem (hu:X.A.units+1 < cLine) (ho:PE X o td) (hi:PE X i ty) (hv:PE X value tv) (hs:swapsWith value (some (.Subscript o i pos')) pos.line X.env=pure false) :
  PS X (.Assign [.Subscript o i pos'] value pos) (jff td ty tv):=by
 intro pins s σ H D I h
 refine wpAny_Assign_Subscript (thn (hv pins s σ H _ I h) fun r s1 ⟨v,H1,I1,rv,q1⟩=>thn (ho pins s1 σ H1 _ I1 q1) fun u s2 ⟨x,H2,I2,rx,q2⟩=>thn (hi pins s2 σ H2 _ I2 q2) fun iv s3 ⟨y,H3,I3,ry,a,H4,ex,g,q3⟩=>?_) hs
 subst ex
 obtain rfl:u=Value.ref a:=rx
 exact jbU hu I3 g ry rv fun s4 I4=>⟨σ,H4,I4,q3⟩
end
theorem Zw {P:Program} {w:World} {H:Hp} (h:Heap) (hb:sysModules < h.objs.size):ObjOk P w H (h.push { cls:=.type "dict",data:=.dict #[] }) h.objs.size (.dK []):=
 ⟨Nat.zero_le _,beq_eq_false_iff_ne.mpr (Ne.symm (Nat.ne_of_lt hb)),[],.nil,Heap.DictOf.new h⟩
def ZO:List (TE×TE)→St→Hp→(List (V×V)→Hp→Prop)→Prop
 | [],_,H,Q=>Q [] H
 | (tk,tv) :: r,σ,H,Q=>tk σ H fun x H1=>tv σ H1 fun y H2=>ZO r σ H2 fun ps H3=>Q ((x,y) :: ps) H3
abbrev VV:List (V×V)→List (Value×Value)→Prop:=Paired fun p q=>RelV p.1 q.1∧RelV p.2 q.2
def PPs (X:Cx) (pos:Pos) (keys:List (Option Expr)) (values:List Expr) (trs:List (TE×TE)):Prop:=
 ∀ (pins:List (Addr×Obj)) (s:Shared) (σ:St) (H:Hp) (Q:List (V×V)→Hp→Prop),Inv X pins σ H s→ZO trs σ H Q→
  wpAny (model X.prog X.w) X.A (evalPairs (pairTrees keys values X.env pos)) (fun vs s'=>∃ ps H',Inv X pins σ H' s'∧VV ps vs∧Q ps H') X.xe s
theorem jen {X:Cx} {pos:Pos}:PPs X pos [] [] []:=fun pins s σ H Q I h=>pairTrees_nil_walk ⟨[],H,I,.nil,h⟩
theorem jcL {X:Cx} {pos:Pos} {k v:Expr} {ks:List (Option Expr)} {vs:List Expr} {tk tv:TE} {trs:List (TE×TE)} (hk:PE X k tk) (hv:PE X v tv) (hr:PPs X pos ks vs trs) :
  PPs X pos (some k :: ks) (v :: vs) ((tk,tv) :: trs):=fun pins s σ H Q I h=>
 pairTrees_cons_walk (thn (hk pins s σ H _ I h) fun u s1 ⟨x,H1,I1,rx,q1⟩=>thn (hv pins s1 σ H1 _ I1 q1) fun w2 s2 ⟨y,H2,I2,ry,q2⟩=>
  thn (hr pins s2 σ H2 _ I2 q2) fun ws s3 ⟨ps,H3,I3,rel,q3⟩=>⟨(x,y) :: ps,H3,I3,.cons ⟨rx,ry⟩ rel,q3⟩)
def zP (kvs more:List (Key×V)):List (Key×V):=more.foldl (fun acc kv=>j7 acc kv.1 kv.2) kvs
theorem KV.merge:∀ {more:List (Key×V)} {rs:List (Key×Value)} {kvs:List (Key×V)} {vs:List (Key×Value)},KV more rs→KV kvs vs→KV (zP kvs more) (merged vs rs):=by
 intro more rs kvs vs r
 unfold KV at r
 induction r generalizing kvs vs with
 | nil=>intro q;exact q
 | @cons p q ps qs h t ih=>
  intro r0
  have e:KV (j7 kvs p.1 p.2) (stored vs q.1 q.2):=by
   have:=r0.put p.1 h.2
   rw [← h.1];exact this
  exact ih e
theorem yn:∀ (more kvs:List (Key×V)),(zP kvs more).length≤kvs.length+more.length
 | [],kvs=>by show kvs.length≤kvs.length+0;omega
 | p :: r,kvs=>by
  have h1:=yn r (j7 kvs p.1 p.2)
  have h2:=qZ kvs p.1 p.2
  show (zP (j7 kvs p.1 p.2) r).length≤_
  rw [List.length_cons];omega
theorem Kd {P:Program} {w:World}:∀ {kvs:List (Key×V)} {ws:List (Value×Value)},VV (kvs.map fun kv=>(kV kv.1,kv.2)) ws→∃ rs,Carries (j4 P w) ws rs∧KV kvs rs
 | [],_,r=>by rw [List.map_nil] at r;cases r;exact ⟨[],True.intro,.nil⟩
 | p :: kvs,_,r=>by
  rw [List.map_cons] at r
  cases r with
  | @cons a b as bs h t=>
   obtain ⟨rs,c,q⟩:=Kd (P:=P) (w:=w) t
   obtain ⟨b1,b2⟩:=b
   exact ⟨(p.1,b2) :: rs,⟨JX h.1,rfl,c⟩,.cons ⟨rfl,h.2⟩ q⟩
def jfa (trs:List (TE×TE)):TE:=fun σ H Q=>∀ p,H p=none→ZO trs σ (upd H p (.dK [])) fun ps H2=>H2 p=some (.dK [])∧∃ kvs:List (Key×V),ps=kvs.map (fun kv=>(kV kv.1,kv.2))∧kvs.length≤15∧Q (.ref p) (upd H2 p (.dK (zP [] kvs)))
theorem jex {X:Cx} {pos:Pos} {keys:List (Option Expr)} {values:List Expr} {trs:List (TE×TE)} (h:PPs X pos keys values trs) (hall:keys.all (·.isSome)=true) (hl:keys.length=values.length) (h0:keys≠[])
  (h15:keys.length≤15):PE X (.Dict keys values pos) (jfa trs):=by
 intro pins s σ H Q I q
 have hn:=I.hok.fresh (Nat.le_refl s.heap.objs.size)
 have I1:=I.laid (a:=s.heap.objs.size) (o:=.dK []) (h':=s.heap.push { cls:=.type "dict",data:=.dict #[] }) (t':=s.toks) (fun _ _ q=>Heap.get?_push_of_some _ q) (Nat.le_refl _) (Zw s.heap I.big)
 refine wpAny_Dict_walk (knd:=j4 X.prog X.w) hall hl h0 h15 (thn (h pins _ σ _ _ I1 (q _ hn)) fun ws s2 ⟨ps,H2,I2,rel,e,kvs,ep,lk,q2⟩=>?_)
 subst ep
 obtain ⟨rs,c,rk⟩:=Kd (P:=X.prog) (w:=X.w) rel
 obtain ⟨z,hd,vs0,r0,dd⟩:=jdP I2.hok e
 cases r0
 refine ⟨rs,c,dd,fun h' dd' hs=>⟨.ref s.heap.objs.size,_,?_,rfl,q2⟩⟩
 have hz:(zP [] kvs).length≤sizeLine:=by
  have h1:=yn kvs []
  rw [List.length_nil] at h1
  rw [sizeLine_eq];omega
 have he:∃ q,h'.get? s.heap.objs.size=some q:=let ⟨q,_,_,hq,_⟩:=dd';⟨q,hq⟩
 exact Ju I2 (by rw [e];exact True.intro) hs he (YI hz hd (rk.merge .nil) dd')
structure M2 (X:Cx) (o:Expr) (m:Str) (apos:Pos) (e f:Expr) (cpos:Pos):Prop where
 base:attributeBase o m X.env (eval o X.env)=eval o X.env
 few:((backTo cpos (starEach [e,f] X.env)).all (fun x=>!x.1) && (backToKw cpos (keywordEach [] X.env)).all (fun x=>x.1.isSome)
  && decide (([e,f]:List Expr).length+([]:List Keyword).length+(if ([]:List Keyword).isEmpty then 0 else 1) < 30))=true
 line:(apos.endLine == cpos.line)=true
 trees:backTo cpos (starEach [e,f] X.env)=[(false,eval e X.env),(false,eval f X.env)]
def IsD (H:Hp) (a:Addr):Prop:=(∃ kvs,Rd H a (.dK kvs))∨∃ kvs,Rd H a (.dT kvs)
theorem jf4 {X:Cx} {pins:List (Addr×Obj)} {σ:St} {H:Hp} {s:Shared} {a:Addr} (I:Inv X pins σ H s) (d:IsD H a) :
  s.TypeIs (.ref a) "dict"∧(∀ b,Value.ref a=.ref b→∃ ob,s.heap.get? b=some ob∧ob.dict=none)∧(a == sysModules)=false:=by
 rcases d with ⟨kvs,e⟩ | ⟨kvs,e⟩
 ·obtain ⟨_,hd,vs,_,dd⟩:=Zv I.hok e
  refine ⟨dd.typeIs,fun b q=>?_,hd⟩
  cases q
  obtain ⟨ob,_,_,h1,h2,_⟩:=dd
  exact ⟨ob,h1,h2.2.1⟩
 ·obtain ⟨_,hd,xs,_,dd⟩:=Zu I.hok e
  refine ⟨dd.typeIs,fun b q=>?_,hd⟩
  cases q
  obtain ⟨ob,_,_,h1,h2,_⟩:=dd
  exact ⟨ob,h1,h2.2.1⟩
section
variable {X:Cx} {pins:List (Addr×Obj)} {σ:St} {H:Hp} {s:Shared} {a:Addr} {y d:V} {u r:Value} {o:Option V} {A:Around} {E:Value→Shared→Prop}
theorem jf9 {Q:Value→Shared→Prop} (hu:A.units+1 < cLine) (I:Inv X pins σ H s) (g:DGet H a y o) (ry:RelV y u) (rd:RelV d r) (h:∀ w' s',Inv X pins σ H s'→RelV (o.getD d) w'→Q w' s') :
  wpAny (model X.prog X.w) A (call (.builtin "dict.get") [.ref a,u,r]) Q E s:=by
 rcases g with ⟨kvs,k,e,ey,l⟩ | ⟨kvs,k,b,e,ey,eb,l⟩
 ·subst ey
  obtain ⟨z,hd,vs,rel,dd⟩:=Zv I.hok e
  refine call_meetsIn PySem.F.slot_dict_get dd.typeIs PySem.F.entry_dict_get (PySem.F.args_dict_get_3 _ _ _) (meets_dict_get_default (j4 X.prog X.w) a (JX ry) hd r) ⟨_,dd.mapOf,h _ _ (I.tok _) ?_⟩
  rw [l]
  exact (rel.val k).getD rd
 ·subst ey
  cases (show u=Value.ref b from ry)
  obtain ⟨z,hd,xs,rel,dd⟩:=Zu I.hok e
  refine call_meetsIn PySem.F.slot_dict_get dd.typeIs PySem.F.entry_dict_get (PySem.F.args_dict_get_3 _ _ _) (meetsH_dict_get_default (tupleKind (j4 X.prog X.w)) a b hd r) ⟨tupleKind_room_in1 hu,k,xs,YB I.hok eb,dd,h _ _ (I.tok _) ?_⟩
  rw [l]
  exact (rel.val k).getD rd
end
def jcr (td ty tx:TE):TE:=fun σ H Q=>td σ H fun x H1=>∃ a,x=.ref a∧IsD H1 a∧ty σ H1 fun y H2=>tx σ H2 fun z H3=>∃ o,DGet H3 a y o∧Q (o.getD z) H3
section
variable {X:Cx} {o e f:Expr} {apos cpos:Pos} {td ty tx:TE}
theorem jcW (hu:X.A.units+1 < cLine) (ho:PE X o td) (he:PE X e ty) (hf:PE X f tx) (m:M2 X o "get" apos e f cpos):PE X (.Call (.Attribute o "get" apos) [e,f] [] cpos) (jcr td ty tx):=by
 intro pins s σ H Q I h
 refine wpAny_Call_method m.base m.few m.line PySem.F.plainAttrs_dict PySem.F.slot_dict_get PySem.F.type_dict_get (thn (ho pins s σ H _ I h) fun u s1 ⟨x,H1,I1,rx,a,ex,d,q1⟩=>?_)
 subst ex
 obtain rfl:u=Value.ref a:=rx
 obtain ⟨t1,t2,_⟩:=jf4 I1 d
 refine ⟨t1,t2,?_⟩
 rw [m.trees]
 refine Calls.callWith_builtin rfl (Calls.evalArgs_plain (Calls.spliced_cons (thn (he pins s1 σ H1 _ I1 q1) fun iv s2 ⟨y,H2,I2,ry,q2⟩=>
  Calls.spliced_cons (thn (hf pins s2 σ H2 _ I2 q2) fun fv s3 ⟨z,H3,I3,rz,ov,g,q3⟩=>Calls.spliced_nil ?_))))
 exact jf9 hu I3 g ry rz fun w' s4 I4 rw'=>⟨_,H3,I4,rw',q3⟩
end
end L2
namespace Att
open PySem PySem.W PySem.Calls PyProof.Rows
theorem Jn {P:Params} {h:Heap}:∀ (ns:List Int) (vs:List Value),WellAll P h vs (ns.map WData.int)→IntsAre vs ns:=by
 intro ns
 induction ns with
 | nil=>
  intro vs w
  rw [List.map_nil] at w
  cases w
  exact .nil
 | cons n ns ih=>
  intro vs w
  rw [List.map_cons] at w
  cases w with
  | cons a b=>
   cases a
   exact .cons _ _ (ih _ b)
theorem jbo {l:OpenLaw} {n:Nat} (hn:l.most=some n) {P:Params} {h:Heap} {args:List WData} {vals:List Value}
  (hpre:l.row.toRowW.claim.pre args=true) (hwl:WellAll P h vals args) :
  ∃ a vs ns,vals=[Value.ref a]∧args=[WData.list (ns.map WData.int)]∧h.get? a=some { cls:=.type "list",data:=.seq vs.toArray }∧IntsAre vs ns∧ns.length≤n:=by
 have hsh:WShape.hasAll [] args [.list .int]=true:=(pre_splitW hpre).1
 have hc:l.pre.holds [] { args:=args }=true:=(pre_splitW hpre).2
 obtain ⟨d,r,rfl,h1,h2⟩:=hasAllW_cons hsh
 obtain rfl:=hasAllW_nil h2
 obtain ⟨xs,rfl,h3⟩:=hasW_list h1
 obtain ⟨ns,rfl⟩:=items_int h3
 have hlen:ns.length≤n:=by
  unfold OpenLaw.pre at hc
  have h4:(WTm.not (.lt (.lit (.int (n:Int))) (.len (.arg 0)))).holds [] { args:=[.list (ns.map .int)] }=true:=by
   have h4:=(holds_andW hc).1
   rw [hn] at h4
   exact h4
  have h5:=condW_of h4 (w_not (w_lt w_lit (w_len_list (w_arg rfl))))
  rw [List.length_map] at h5
  refine Nat.le_of_not_lt fun q=>?_
  have q':(n:Int) < ((ns.length:Nat):Int):=by omega
  first
   | (rw [decide_eq_true q'] at h5;exact absurd h5 (by decide))
   | (simp at h5;omega)
 cases hwl with
 | cons w1 w2=>
  cases w2
  cases w1 with
  | list ho hall=>exact ⟨_,_,ns,rfl,rfl,ho,Jn ns _ hall,hlen⟩
theorem jbq (l:OpenLaw) (args:List WData):l.row.toRowW.claim.post args (.bool true) args=true:=
 postW_of (r:=l.row.toRowW) (X:=(true == true))
  (show WShape.has [] (.bool true) .bool=true by first | rfl | decide | simp [WShape.has,WShape.arms,WShape.armsAll])
  (show (WTm.eq .res (.lit (.bool true))).value [] { args:=args,res:=some (.bool true),after:=args }=some (.bool (true == true)) from w_eq_bool (w_res rfl) w_lit) rfl
theorem attach_call {l:OpenLaw} {n:Nat} {q:Program} {loose:List Str} {XP:(Str→Option Value)→Heap→Prop} {YP:World→Heap→Prop} {d:DefRec}
  (hn:l.most=some n) (hdf:d.params.defaults=[])
  (call:∀ (w:World) (s₀ s₁:Shared) (mg mb:Str→Option Value) (fa:Addr) (o:Obj) (pm cd doc:Value) (a:Addr) (vs:List Value) (ns:List Int),
   Ground q loose [] XP w s₀ mg mb s₁.heap→YP w s₁.heap→
   s₁.heap.get? fa=some o→o.data=.func (docDef d.name d.params d.body d.scope pm cd doc)→s₁.heap.CodeRec cd d.name→mg d.name=some (.ref fa)→
   s₁.heap.get? a=some { cls:=.type "list",data:=.seq vs.toArray }→IntsAre vs ns→ns.length≤n→s₁.gens=#[]→
   codeAny (model l.prog w) callerA (.call (.ref fa) ⟨[.ref a],[]⟩) (fun r s'=>r=.ok (.ret (.bool true))∧OldK s₁.heap s'.heap∧s'.os=s₁.os∧AllBare s'.gens) s₁) :
  WalkO q loose XP YP l.row.toRowW d [] (fun f vs=>PySem.call f vs):=by
 intro w s₀ s₁ mg mb G Y fa o pm cd doc dV kV ho hd hcd hD hmg hg args vals as hpre hlay hrd hwl hlo
 obtain rfl:dV=.none:=Dflts.none hD hdf
 obtain rfl:kV=.none:=Dflts.noKw hD
 obtain ⟨a,vs,ns,rfl,rfl,hobj,hints,hlen⟩:=jbo hn hpre hwl
 refine enter_call (codeAny_mono (call w s₀ s₁ mg mb fa o pm cd doc a vs ns G Y ho (fd_plain hd) hcd hmg hobj hints hlen hg) fun r s' hq=>?_)
 obtain ⟨rfl,h2,h3,h4⟩:=hq
 exact ⟨.inl ⟨.bool true,.bool true,[],rfl,fun _=>rfl,.bool true,jbq l _,fun _=>⟨List.Pairwise.nil,fun _ hm=>(nomatch hm)⟩⟩,h2,h3,h4⟩
end Att
namespace L2
open PySem PySem.Spec PyProof.Rows
theorem Kv:∀ {vs:List Value} {ns:List Int},IntsAre vs ns→Vals (ns.map V.int) vs
 | _,_,.nil=>.nil
 | _,_,.cons n t h=>.cons ⟨t,rfl⟩ (Kv h)
def jgc (H:Hp):Prop:=∀ b,H b=none∨∃ o xs,H b=some (.frz o (.lst xs))
theorem jdx {P:Program} {w:World} {K:PySem.W.Frag} {mg mb:Str→Option Value} {CX:CXT} {k:Nat} {fa a:Addr} {fd:FuncData} {x:Str} {sp:Sp} {s₁:Shared} {vs:List Value} {ns:List Int}
  (KX:K.In s₁.heap) (hns:s₁.heap.Ns mainGlobals mg) (hb:s₁.heap.Ns builtinsNs mb) (hbb:∀ x:Str,x≠"__name__"→mb x=bootBuiltins x) (hlim:s₁.heap.NoLimit) (hg:s₁.gens=#[])
  (ha:s₁.heap.get? a=some { cls:=.type "list",data:=.seq vs.toArray }) (hi:IntsAre vs ns) (hl:ns.length≤sizeLine) (hr:Room k callerA)
  (F:∀ base:Heap,K.In base→base.Ns mainGlobals mg→FnOk P w K mg base CX k fa fd [x] sp) (hbind:∀ (s:Shared) (u:Value),BindsTo s fd ⟨[u],[]⟩ [(x,u)])
  (hsp:∀ H:Hp,jgc H→SqL K H a (ns.map V.int)→sp [.ref a] H (fun v _=>v=.bl true) fun _ _ _=>False)
  (hCX:∀ H e s',CX [] H s₁ (fun _ _ _=>False) e s'→False) :
  codeAny (model P w) callerA (.call (.ref fa) ⟨[.ref a],[]⟩) (fun r s'=>r=.ok (.ret (.bool true))∧OldK s₁.heap s'.heap∧s'.os=s₁.os∧AllBare s'.gens) s₁:=by
 have rv:=Kv hi
 have lenV:=hi.length
 have core:∀ H:Hp,jgc H→SqL K H a (ns.map V.int)→HOk P w H s₁.heap→(∀ b,H b≠none→b=a)→(H a≠none→K.lookup a=none)→
   codeAny (model P w) callerA (.call (.ref fa) ⟨[.ref a],[]⟩) (fun r s'=>r=.ok (.ret (.bool true))∧OldK s₁.heap s'.heap∧s'.os=s₁.os∧AllBare s'.gens) s₁:=by
  intro H hO hS hok hA hK
  have base_of:∀ {b:Addr} {o:Obj},s₁.heap.get? b=some o→H b=none→(YE s₁.heap H).get? b=some o:=fun e n=>jdD e n
  have noA:∀ {b:Addr} {o:Obj} {es:Array DictEntry} {ep:Nat},s₁.heap.get? b=some o→o.data=.dict es ep→H b=none:=fun {b o es ep} e d=>by
   cases q:H b with
   | none=>rfl
   | some u=>
    have e':b=a:=hA b (by rw [q];simp)
    subst e'
    rw [ha] at e;cases e
    have d':Data.seq vs.toArray _=Data.dict es ep:=d
    cases d'
  have nsK:∀ {b:Addr} {m:Str→Option Value},s₁.heap.Ns b m→(YE s₁.heap H).Ns b m:=fun {b m} ⟨o,es,ep,e,d,r⟩=>⟨o,es,ep,base_of e (noA e d),d,r⟩
  have hKb:K.In (YE s₁.heap H):=fun b o e=>base_of (KX b o e) (by
   cases q:H b with
   | none=>rfl
   | some u=>
    have e':b=a:=hA b (by rw [q];simp)
    subst e'
    rw [hK (by rw [q];simp)] at e;cases e)
  have hM:Mod K mg (YE s₁.heap H):=⟨hKb,nsK hns,⟨mb,nsK hb,hbb⟩,let ⟨mc,h1,h2⟩:=hlim;⟨mc,nsK h1,h2⟩⟩
  have e0:Env0 P w K mg (YE s₁.heap H) callerA [] s₁ H:=⟨rfl,hM,fun b o e=>jeO e,Nat.le_of_eq (jbP _ _),trivial,fun b hb=>absurd (show b∈([]:List Addr) from hb) (by simp),hok,.of_eq hg⟩
  refine codeAny_mono ((F _ hKb (nsK hns)).run callerA [] s₁ H ⟨[.ref a],[]⟩ [.ref a] [.ref a] _ _ hr e0 (hbind s₁ (.ref a)) (.cons rfl .nil) (hsp H hO hS)) fun r s' h=>?_
  cases r with
  | error e=>exact (hCX H e s' h).elim
  | ok fl=>
   cases fl with
   | next=>exact False.elim h
   | brk=>exact False.elim h
   | cont=>exact False.elim h
   | ret u=>
    obtain ⟨v,H',os,bare,un,hok',r',q⟩:=h
    have q':v=.bl true:=q
    subst q'
    obtain rfl:u=Value.bool true:=r'
    refine ⟨rfl,OldK.of_keep fun b o e=>?_,os,bare⟩
    cases q:H b with
    | none=>exact un.keep b o e q (by intro z;exact absurd (show b∈([]:List Addr) from z) (by simp)) (by simp)
    | some u=>
     rcases hO b with z | ⟨ob,xs,z⟩
     ·rw [q] at z;cases z
     ·have z2:=un.frzs b ob _ z
      obtain ⟨e1,_⟩:=hok b _ z
      obtain ⟨e2,_⟩:=hok' b _ z2
      rw [e] at e1;cases e1
      exact e2
 cases hk:K.lookup a with
 | some o=>
  have e:=KX a o hk
  rw [ha] at e
  cases e
  refine core (fun _=>none) (fun _=>.inl rfl) (.inr ⟨_,vs.toArray,_,hk,rfl,rfl,rfl,by rw [List.size_toArray,lenV];exact hl,by simpa using rv⟩) (fun b u z=>by have z':(none:Option HO)=some u:=z;cases z') (fun b z=>absurd rfl z) fun z=>absurd rfl z
 | none=>
  refine core (fun b=>if b=a then some (.frz { cls:=.type "list",data:=.seq vs.toArray } (.lst (ns.map V.int))) else none) (fun b=>?_) (.inl (.inr ⟨{ cls:=.type "list",data:=.seq vs.toArray },if_pos rfl⟩)) (fun b u z=>?_) (fun b z=>?_) fun _=>hk
  ·by_cases hb:b=a
   ·exact .inr ⟨_,_,if_pos hb⟩
   ·exact .inl (if_neg hb)
  ·by_cases hb:b=a
   ·have z':=(if_pos hb).symm.trans z
    cases z'
    subst hb
    exact ⟨ha,by rw [List.length_map];exact hl,vs,_,rv,ha⟩
   ·have z':=(if_neg hb).symm.trans z
    cases z'
  ·by_cases hb:b=a
   ·exact hb
   ·exact absurd (if_neg hb) z
theorem walk_of {l:PySem.W.OpenLaw} {n k:Nat} {q:Program} {loose:List Str} {XP:(Str→Option Value)→Heap→Prop} {YP:World→Heap→Prop} {d:DefRec} {K:Params→PySem.W.Frag} {CX:World→CXT} {sp:World→Sp} {x:Str}
  (hn:l.most=some n) (hn2:n≤sizeLine) (hdf:d.params.defaults=[]) (hr:Room k callerA)
  (hY:∀ (w:World) (h:Heap),YP w h→(K w.params).In h)
  (F:∀ (w:World) (mg:Str→Option Value) (fa:Addr) (h:Heap),(K w.params).In h→h.Ns mainGlobals mg→mg d.name=some (.ref fa)→
   ∃ fd:FuncData,(∀ (s:Shared) (u:Value),BindsTo s fd ⟨[u],[]⟩ [(x,u)])∧
    ∀ base:Heap,(K w.params).In base→base.Ns mainGlobals mg→FnOk l.prog w (K w.params) mg base (CX w) k fa fd [x] (sp w))
  (hsp:∀ (w:World) (H:Hp) (a:Addr) (ns:List Int),ns.length≤n→jgc H→SqL (K w.params) H a (ns.map V.int)→sp w [.ref a] H (fun v _=>v=.bl true) fun _ _ _=>False)
  (hCX:∀ (w:World) (H:Hp) (s:Shared) (e:Value) (s':Shared),CX w [] H s (fun _ _ _=>False) e s'→False) :
  PySem.W.WalkO q loose XP YP l.row.toRowW d [] (fun f vs=>PySem.call f vs):=by
 refine Att.attach_call hn hdf fun w s₀ s₁ mg mb fa o pm cd doc a vs ns G Y ho hd hcd hmg hobj hints hlen hg=>?_
 have KX:=hY w _ Y
 obtain ⟨fd,hb,hF⟩:=F w mg fa _ KX G.T.g hmg
 exact jdx KX G.T.g G.T.b G.T.builtins G.T.nolimit hg hobj hints (Nat.le_trans hlen hn2) hr hF hb (fun H hO hS=>hsp w H a ns hlen hO hS) fun H e s'=>hCX w H s₁ e s'
def jeV (s:Stmt) (j:Nat):Stmt:=match s with
 | .ClassDef _ _ _ body _ _ _ _ _ _ _=>body.getD j (.Pass ⟨0,0,0,0⟩)
 | _=>.Pass ⟨0,0,0,0⟩
def yh (s:Stmt):Arguments:=match s with
 | .FunctionDef _ a _ _ _ _ _ _ _ _=>a
 | _=>{ posonlyargs:=[],args:=[],vararg:=none,kwonlyargs:=[],kw_defaults:=[],kwarg:=none,defaults:=[] }
def qL (s:Stmt):List Stmt:=match s with
 | .FunctionDef _ _ b _ _ _ _ _ _ _=>b
 | _=>[]
def js (s:Stmt):Scope:=match s with
 | .FunctionDef _ _ _ _ _ _ sc _ _ _=>sc
 | _=>{ kind:=.function,names:=[],isGenerator:=false,isCoroutine:=false }
abbrev CX0:CXT:=fun _ _ _ _ _ _=>False
abbrev E0:XK:=fun _ _ _=>False
theorem jfh {X:Cx}:Ki CX0 X E0:=fun _ _ _ _ _ _ _ h=>h.elim
structure Fun (K:PySem.W.Frag) (x qual:Str) (st:Stmt) (f:Addr) (fd:FuncData):Prop where
 ex:∃ (oc:Value) (od:Option Addr) (kV doc pm:Value) (an:Option Addr) (cdv ct:Value) (osl:Array (Option Value)),
  fd=PySem.W.fnOf x qual (yh st) (qL st) (js st) .none kV doc pm an cdv ct∧K.lookup f=some ⟨oc,od,.func fd,osl⟩∧PySem.W.codeIn K cdv qual=true
 kp:PySem.W.keepIn K (.ref f)=true
section
variable {P:Program} {w:World} {K:PySem.W.Frag} {mg:Str→Option Value} {base:Heap}
theorem Fun.ok {x qual:Str} {st:Stmt} {f:Addr} {fd:FuncData} {N ps:List Str} {k:Nat} {sp:Sp} (F:Fun K x qual st f fd) (S:FnScope N ps (js st)) (len:∀ vs H Q E,sp vs H Q E→vs.length=ps.length)
  (hbody:∀ (cdv:Value) (A:Around) (outer:List Env) (s:Shared) (H:Hp) (vs:List V) (Q:VK) (E:XK),Room k (A.deeper (envOfC qual (js st) s.heap.objs.size f cdv))→sp vs H Q E→
   ∃ t,PSs (Zz CX0 P w K mg base N qual (js st) f cdv A outer s H E).nox (qL st) t∧t { nx:=fun _ H'=>Q .non H',rt:=Q } (ym N vs) H):FnOk P w K mg base CX0 (k+1) f fd ps sp:=by
 obtain ⟨oc,od,kV,doc,pm,an,cdv,ct,osl,rfl,lk,hcd⟩:=F.ex
 refine jfp lk hcd S len fun A outer s H vs Q E hr hsp=>?_
 obtain ⟨t,h,q⟩:=hbody cdv A outer s H vs Q E hr hsp
 exact ⟨t,h.nox,q⟩
theorem Fun.binds {x qual:Str} {st:Stmt} {f:Addr} {fd:FuncData} {ps:List Str} (F:Fun K x qual st f fd)
  (h:∀ (kV doc pm:Value) (an:Option Addr) (cdv ct:Value) (us:List Value),us.length=ps.length→bindArgs (PySem.W.fnOf x qual (yh st) (qL st) (js st) .none kV doc pm an cdv ct) ⟨us,[]⟩=pure (ps.zip us)):Binds K fd ps []:=by
 obtain ⟨oc,od,kV,doc,pm,an,cdv,ct,osl,rfl,lk,hcd⟩:=F.ex
 exact .all (h kV doc pm an cdv ct)
theorem jP {x qual:Str} {st:Stmt} {f:Addr} {oc:Value} {od an:Option Addr} {osl:Array (Option Value)} {kV doc pm cdv ct:Value} (l:K.lookup f=some ⟨oc,od,.func (PySem.W.fnOf x qual (yh st) (qL st) (js st) .none kV doc pm an cdv ct),osl⟩)
  (c:PySem.W.codeIn K cdv qual=true) (k:PySem.W.keepIn K (.ref f)=true):Fun K x qual st f (PySem.W.fnOf x qual (yh st) (qL st) (js st) .none kV doc pm an cdv ct):=⟨⟨oc,od,kV,doc,pm,an,cdv,ct,osl,rfl,l,c⟩,k⟩
end
theorem jaW {A:Around} {k:Nat} (hr:Room k A):A.units+1 < cLine:=Nat.lt_of_le_of_lt (Nat.add_le_add_left (by decide:1≤64) _) hr.units
theorem jv {n:Nat} (h:n≤1000):n < sizeLine:=Nat.lt_of_le_of_lt h (by decide)
section
variable {X:Cx}
theorem pv (i:Nat) {x:Str} {pos:Pos} (hN:X.N[i]?=some x:=by rfl) (hv:Vis X.env.scope x:=by first | exact Or.inl rfl | exact Or.inr (Or.inl rfl) | exact Or.inr (Or.inr rfl)) (hd:(x == ("__debug__" : Str))=false:=by decide)
  (hcd:(x == ("__classdict__" : Str))=false:=by decide):PE X (.Name x pos) (jft i):=jcP hN hv hd hcd
end
theorem qH {A B:Prop} (h:B):if false=true then A else B:=by
 rw [if_neg Bool.false_ne_true]
 exact h
theorem zy {A B:Prop} (h:A):if true=true then A else B:=by
 rw [if_pos rfl]
 exact h
theorem j3 {c A B:Prop} [Decidable c] (h1:c→A) (h2:¬ c→B):if c then A else B:=by
 by_cases h:c
 ·rw [if_pos h]
  exact h1 h
 ·rw [if_neg h]
  exact h2 h
def Same (H H':Hp):Prop:=∀ b o,H b=some o→H' b=some o
theorem Same.refl (H:Hp):Same H H:=fun _ _ h=>h
theorem Same.trans {H H1 H2:Hp} (a:Same H H1) (b:Same H1 H2):Same H H2:=fun c o h=>b c o (a c o h)
theorem Same.free {H H':Hp} (e:Same H H') {l:Addr} (h:H' l=Option.none):H l=Option.none:=by
 cases q:H l with
 | none=>rfl
 | some o=>
  rw [e l o q] at h
  cases h
theorem Same.seq {K:PySem.W.Frag} {H H':Hp} {a:Addr} {xs:List V} (e:Same H H') (h:SqL K H a xs):SqL K H' a xs:=by
 rcases h with (h | ⟨o,h⟩) | h
 ·exact .inl (.inl (e _ _ h))
 ·exact .inl (.inr ⟨o,e _ _ h⟩)
 ·exact .inr h
theorem yP {prog:Program} {w:World} {A:Around} {s:Shared} {elt target iter:Expr} {ifs:List Expr} {scope:Scope} {pos:Pos} {it acc:Value} {env:Env} {R:Result→Shared→Prop} (I:Nat→Shared→Prop)
  (turn:∀ n s,I n s→wpAny (model prog w) A (pyNext it) (fun r s1=>match r with
   | none=>R (.ok .next) s1
   | some v=>wpAny (model prog w) A (letOwnedTupleGo target it v) (fun _ s1'=>wpAny (model prog w) A (assign target env v) (fun _ s2=>
     wpAny (model prog w) A (forIn ifs true fun c r=>if r=true then do let ok ← isTrue c env (eval c env);pure (ForInStep.yield ok) else pure (ForInStep.yield r)) (fun ok s3=>
      if ok=true then wpAny (model prog w) A (eval elt env) (fun x s4=>
       wpAny (model prog w) A (call (.builtin "list.append") [acc,x]) (fun _ s5=>∃ m,m < n∧I m s5) (fun _ _=>False) s4) (fun _ _=>False) s3
      else ∃ m,m < n∧I m s3) (fun _ _=>False) s2) (fun _ _=>False) s1') (fun _ _=>False) s1) (fun _ _=>False) s)
  (n:Nat) (h:I n s):codeAny (model prog w) A (.compLoop (.ListComp elt [⟨target,iter,ifs,0⟩] scope pos) 0 it acc env) R s:=by
 have no:∀ (x:Value) (s':Shared),False→notedBy (model prog w) A env (fun e s'=>R (.error e) s') x s':=fun _ _ z=>z.elim
 refine codeAny_loop rfl I (fun n s hI=>?_) n h
 show wpAny _ A ((compTurn (.ListComp elt [⟨target,iter,ifs,0⟩] scope pos) 0 it acc env).onRaise (fun x=>do noteFrame x env;theTreesLotGoes x)) _ _ s
 refine wpAny_noted ?_
 rw [compTurn_list]
 refine wpAny_bind (wpAny_standAt (wpAny_bind (wpAny_mono (turn n s hI) (fun r s1 h1=>?_) no)))
 cases r with
 | none=>exact wpAny_pure h1
 | some v=>
  refine wpAny_bind (wpAny_mono h1 (fun _ s1' h1'=>?_) no)
  refine wpAny_bind (wpAny_mono h1' (fun _ s2 h2=>wpAny_bind (wpAny_mono h2 (fun ok s3 h3=>?_) no)) no)
  cases ok with
  | false=>exact wpAny_pure ⟨rfl,h3⟩
  | true=>
   exact wpAny_bind (wpAny_bind (wpAny_mono h3 (fun x s4 h4=>wpAny_bind (wpAny_mono h4 (fun _ s5 h5=>wpAny_pure (wpAny_pure ⟨rfl,h5⟩)) no)) no))
theorem jdJ:(NameKind.free == NameKind.free)=true:=rfl
def zG (cells:List (Str×Addr)):List (Str×NameKind)→List (Str×Addr)→List (Str×Addr)
 | [],acc=>acc
 | (n,k) :: r,acc=>if k == .free then zG cells r ((n,(cells.lookup n).getD 0) :: acc) else zG cells r acc
theorem Zo {env:Env}:∀ (names:List (Str×NameKind)) (acc:List (Str×Addr)),(∀ x∈names,x.2=.free→(env.cells.lookup x.1).isSome=true)→
  (forIn names acc fun x (cs:List (Str×Addr))=>(match x with | (name,kind)=>if (kind == NameKind.free)=true then do let c ← cellOf env name;pure (ForInStep.yield ((name,c) :: cs)) else pure (ForInStep.yield cs):Sem (ForInStep (List (Str×Addr)))))=(pure (zG env.cells names acc):Sem (List (Str×Addr)))
 | [],acc,_=>by simp only [List.forIn_nil];rfl
 | (n,k) :: r,acc,h=>by
  have ih:=fun a=>Zo (env:=env) r a fun x hx=>h x (List.mem_cons_of_mem _ hx)
  rw [List.forIn_cons]
  by_cases hk:k=.free
  ·subst hk
   have q:=h (n,.free) List.mem_cons_self rfl
   obtain ⟨c,hc⟩:=Option.isSome_iff_exists.mp q
   have e:cellOf env n=pure c:=by unfold cellOf;rw [show env.cells.lookup n=some c from hc]
   simp only [beq_self_eq_true,if_true,e,pure_bind]
   rw [ih]
   show _=pure (if (NameKind.free == NameKind.free)=true then zG env.cells r ((n,(env.cells.lookup n).getD 0) :: acc) else _)
   rw [if_pos jdJ,show env.cells.lookup n=some c from hc]
   rfl
  ·have hb:(k == NameKind.free)=false:=by simpa using hk
   simp only [hb,Bool.false_eq_true,if_false,pure_bind]
   rw [ih]
   show _=pure (if (k == NameKind.free)=true then _ else zG env.cells r acc)
   rw [hb]
   rfl
theorem yy {scope:Scope} {env:Env} (h:∀ x∈scope.names,x.2=.free→(env.cells.lookup x.1).isSome=true):closureFor scope env=pure (zG env.cells scope.names []):=by
 unfold closureFor
 have e:=Zo (env:=env) scope.names [] h
 simp only [bind_pure] at *
 exact e
theorem jaa {cells:List (Str×Addr)}:∀ (names:List (Str×NameKind)) (acc:List (Str×Addr)),(∀ x∈names,x.2=.free→(cells.lookup x.1).isSome=true)→(∀ x c,acc.lookup x=some c→cells.lookup x=some c)→
  ∀ x c,(zG cells names acc).lookup x=some c→cells.lookup x=some c
 | [],acc,_,ha=>ha
 | (n,k) :: r,acc,h,ha=>by
  unfold zG
  by_cases hk:k=.free
  ·subst hk
   rw [if_pos jdJ]
   refine jaa r _ (fun x hx=>h x (List.mem_cons_of_mem _ hx)) fun x c e=>?_
   by_cases hx:x=n
   ·subst hx
    rw [List.lookup_cons_self] at e
    obtain ⟨d,hd⟩:=Option.isSome_iff_exists.mp (h (x,.free) List.mem_cons_self rfl)
    have hd':cells.lookup x=some d:=hd
    rw [hd'] at e ⊢
    exact e
   ·rw [List.lookup_cons,beq_eq_false_iff_ne.mpr hx] at e
    exact ha x c e
  ·rw [if_neg (by simpa using hk)]
   exact jaa r _ (fun x hx=>h x (List.mem_cons_of_mem _ hx)) ha
theorem cl_mono {cells:List (Str×Addr)}:∀ (names:List (Str×NameKind)) (acc:List (Str×Addr)) (x:Str),(acc.lookup x).isSome=true→((zG cells names acc).lookup x).isSome=true
 | [],acc,_,ha=>ha
 | (n,k) :: r,acc,x,ha=>by
  unfold zG
  split
  ·refine cl_mono r _ x ?_
   rw [List.lookup_cons]
   split
   ·rfl
   ·exact ha
  ·exact cl_mono r _ x ha
theorem jab {cells:List (Str×Addr)}:∀ (names:List (Str×NameKind)) (acc:List (Str×Addr)) (x:Str),(x,NameKind.free)∈names→((zG cells names acc).lookup x).isSome=true
 | [],_,_,h=>by simp at h
 | (n,k) :: r,acc,x,h=>by
  unfold zG
  rcases List.mem_cons.mp h with e | h
  ·obtain ⟨e1,e2⟩:=Prod.mk.inj e
   subst e1 e2
   rw [if_pos jdJ]
   refine cl_mono r _ _ ?_
   rw [List.lookup_cons_self]
   rfl
  ·split
   ·exact jab r _ x h
   ·exact jab r _ x h
theorem qU {env:Env}:∀ {names:List (Str×NameKind)} {x:Str} {k:NameKind},
  (names.map fun (n,k)=>if (k == NameKind.free && env.scope.kind == .function && env.kindOf n == some .cell) then (n,NameKind.cell) else (n,k)).lookup x=some k→
   names.lookup x=some k∨(k=.cell∧names.lookup x=some .free)
 | [],_,_,h=>by simp at h
 | (n,k') :: r,x,k,h=>by
  rw [List.map_cons] at h
  by_cases hx:x=n
  ·subst hx
   rw [List.lookup_cons_self]
   by_cases hc:(k' == NameKind.free && env.scope.kind == .function && env.kindOf x == some .cell)=true
   ·simp only [hc,if_true] at h
    rw [List.lookup_cons_self] at h
    have hk:k'=.free:=by
     simp only [Bool.and_eq_true,beq_iff_eq] at hc
     exact hc.1.1
    exact .inr ⟨(Option.some.inj h).symm,by rw [hk]⟩
   ·simp only [hc] at h
    rw [if_neg (by simp),List.lookup_cons_self] at h
    exact .inl h
  ·have e:(x == n)=false:=beq_eq_false_iff_ne.mpr hx
   have h':(r.map fun (n,k)=>if (k == NameKind.free && env.scope.kind == .function && env.kindOf n == some .cell) then (n,NameKind.cell) else (n,k)).lookup x=some k:=by
    by_cases hc:(k' == NameKind.free && env.scope.kind == .function && env.kindOf n == some .cell)=true
    ·simp only [hc,if_true] at h
     rw [List.lookup_cons,e] at h
     exact h
    ·simp only [hc] at h
     rw [if_neg (by simp),List.lookup_cons,e] at h
     exact h
   have ih:=@qU env r x k h'
   rw [List.lookup_cons,e]
   exact ih
theorem yG {env:Env}:∀ {names:List (Str×NameKind)} {x:Str},names.lookup x=some .free→
  (names.map fun (n,k)=>if (k == NameKind.free && env.scope.kind == .function && env.kindOf n == some .cell) then (n,NameKind.cell) else (n,k)).lookup x=some .cell∨
  (names.map fun (n,k)=>if (k == NameKind.free && env.scope.kind == .function && env.kindOf n == some .cell) then (n,NameKind.cell) else (n,k)).lookup x=some .free
 | [],_,h=>by simp at h
 | (n,k') :: r,x,h=>by
  rw [List.map_cons]
  by_cases hx:x=n
  ·subst hx
   rw [List.lookup_cons_self] at h
   cases h
   by_cases hc:(NameKind.free == NameKind.free && env.scope.kind == .function && env.kindOf x == some .cell)=true
   ·simp only [hc,if_true]
    exact .inl List.lookup_cons_self
   ·simp only [hc]
    rw [if_neg (by simp)]
    exact .inr List.lookup_cons_self
  ·have e:(x == n)=false:=beq_eq_false_iff_ne.mpr hx
   rw [List.lookup_cons,e] at h
   have ih:=@yG env r x h
   by_cases hc:(k' == NameKind.free && env.scope.kind == .function && env.kindOf n == some .cell)=true
   ·simp only [hc,if_true]
    rw [List.lookup_cons,e]
    exact ih
   ·simp only [hc]
    rw [if_neg (by simp),List.lookup_cons,e]
    exact ih
def blk (X:Cx) (scope:Scope) (own:List Str) (fr:List Nat) (s:Shared) (H:Hp) (ex:List Addr):Cx where
 prog:=X.prog
 w:=X.w
 K:=X.K
 mg:=X.mg
 base:=X.base
 A:=X.A
 N:=own++fr.map fun j=>X.N.getD j (Str.ofString "")
 s₀:=s
 H₀:=H
 env:=compEnvC scope (zG X.env.cells scope.names []) s.heap.objs.size X.env
 outer:=X.stack
 stack:=X.stack
 ex:=ex
 fn:=fun _=>false
 calm:=X.calm
 pn:=[]
 xe:=fun _ _=>False
def jbX (own:List Str) (fr:List Nat) (σ:St):St:=own.map (fun _=>none)++fr.map fun j=>(σ[j]?).join
structure CompOk (X:Cx) (scope:Scope) (fr:List Nat):Prop where
 kind:scope.kind=.function
 nocell:∀ y∈scope.names,y.2≠.cell
 loc:∀ y∈scope.names,y.2=.local→scope.names.lookup y.1=some .local
 frees:∀ y∈scope.names,y.2=.free→X.env.scope.names.lookup y.1=some .cell∨X.env.scope.names.lookup y.1=some .free
 fr:∀ j∈fr,scope.names.lookup (X.N.getD j (Str.ofString ""))=some .free
theorem YC {X:Cx} {scope:Scope} {own:List Str} {fr:List Nat} {pins:List (Addr×Obj)} {σ:St} {H:Hp} {s:Shared} {ex:List Addr} {h1:Heap} {t1:Nat} (I:Inv X pins σ H s) (O:CompOk X scope fr)
  (hex:∀ b∈ex,yS X pins H b∧b < s.heap.objs.size) (hns:h1.Ns s.heap.objs.size fun _=>none) (hk:∀ b o,s.heap.get? b=some o→h1.get? b=some o) :
  Inv (blk X scope own fr s H ex) [] (jbX own fr σ) H { s with heap:=h1,toks:=t1 }:=by
 have hsome:∀ x∈scope.names,x.2=.free→(X.env.cells.lookup x.1).isSome=true:=fun x hx e=>by
  obtain ⟨c,hc⟩:=I.ok.has x.1 (O.frees x hx e)
  rw [hc];rfl
 have sub:∀ x c,(zG X.env.cells scope.names []).lookup x=some c→X.env.cells.lookup x=some c:=jaa scope.names [] hsome fun x c e=>by simp at e
 have hasc:∀ x,scope.names.lookup x=some .free→∃ c,(zG X.env.cells scope.names []).lookup x=some c:=fun x e=>Option.isSome_iff_exists.mp (jab scope.names [] x (PySem.mem_of_lookup e))
 have hcne:∀ x c,X.env.cells.lookup x=some c→c < s.heap.objs.size:=fun x c e=>by
  obtain ⟨v,q⟩:=I.cell x c e
  exact q.lt
 have hN:σ.length=X.N.length:=I.len
 refine ⟨⟨I.ok.mod,O.kind,I.ok.glob,I.ok.blt,Nat.le_refl _,fun x y c e1 e2=>I.ok.inj x y c (sub x c e1) (sub y c e2),fun x hx=>?_,fun x c z=>absurd z (by simp [blk]),I.ok.hd,I.ok.frames,.inl rfl,fun b hb=>⟨Nat.ne_of_lt (hex b hb).2,fun x c e=>(hex b hb).1.2.2.2.2.1 x c (sub x c e)⟩,
  fun b o e=>I.bs b o e,Nat.le_trans I.ok.bsz I.sz,fun b o e hb=>?_,fun b hb z=>?_,I.stack,I.stkFree⟩,
  rfl,I.bare,Un.kept hk,⟨_,hns,fun i x v e1 e2 e3=>?_⟩,fun x c e=>?_,I.fresh,fun x c e=>I.freeC x c (sub x c e),fun p hp=>absurd hp (by simp [blk]),I.hok.kept hk,?_⟩
 ·have hx':(relabel scope X.env).names.lookup x=some .cell∨(relabel scope X.env).names.lookup x=some .free:=hx
  rcases hx' with hx | hx
  ·rcases qU hx with q | ⟨_,q⟩
   ·exact absurd rfl (O.nocell _ (PySem.mem_of_lookup q))
   ·exact hasc x q
  ·rcases qU hx with q | ⟨q,_⟩
   ·exact hasc x q
   ·cases q
 ·rcases (hex b hb).1.2.2.2.1 with z | z
  ·exact I.ok.noex b o e z
  ·exact absurd (Nat.lt_of_lt_of_le (Heap.lt_size e) (Nat.le_trans I.ok.bsz z)) (Nat.lt_irrefl _)
 ·obtain ⟨_,f1,f2,_⟩:=(hex b hb).1
  rcases List.mem_cons.mp (I.stkSub b z) with q | q
  ·exact f1 q
  ·exact f2 q
 ·have e1':(own++fr.map fun j=>X.N.getD j (Str.ofString ""))[i]?=some x:=e1
  unfold jbX at e2
  have hi:own.length≤i:=by
   by_cases h:own.length≤i
   ·exact h
   ·rw [List.getElem?_append_left (by simpa using Nat.lt_of_not_le h),List.getElem?_map] at e2
    cases q:own[i]? with
    | none=>rw [q] at e2;cases e2
    | some z=>rw [q] at e2;cases e2
  rw [List.getElem?_append_right hi,List.getElem?_map] at e1'
  rw [List.getElem?_append_right (by simpa using hi),List.getElem?_map,List.length_map] at e2
  cases q:fr[i - own.length]? with
  | none=>rw [q] at e2;cases e2
  | some j=>
   rw [q] at e1' e2
   have e1'':X.N.getD j (Str.ofString "")=x:=Option.some.inj e1'
   have e2':(σ[j]?).join=some v:=Option.some.inj e2
   have e2'':σ[j]?=some (some v):=by
    cases z:σ[j]? with
    | none=>rw [z] at e2';cases e2'
    | some y=>rw [z] at e2';rw [← e2'];rfl
   have hj:j < X.N.length:=by rw [← hN];exact (List.getElem?_eq_some_iff.mp e2'').1
   have e3':X.N[j]?=some x:=by
    rw [List.getElem?_eq_getElem hj,← e1'',List.getD_eq_getElem?_getD,List.getElem?_eq_getElem hj]
    rfl
   have hf:=O.fr j (List.mem_of_getElem? q)
   rw [e1''] at hf
   have hv:=O.frees _ (PySem.mem_of_lookup hf) rfl
   obtain ⟨m,_,hl⟩:=I.loc
   obtain ⟨u,ru,lk⟩:=hl j x v e3' e2'' (.inr hv)
   refine ⟨u,ru,.inr ⟨?_,?_⟩⟩
   ·exact yG hf
   ·obtain ⟨c,hc⟩:=hasc x hf
    refine ⟨c,hc,?_⟩
    rcases lk with ⟨k,_⟩ | ⟨_,c',hc',z⟩
    ·have k':X.env.scope.names.lookup x=some .local:=k
     rcases hv with hv | hv <;> · rw [k'] at hv;cases hv
    ·have:=sub x c hc
     rw [hc'] at this
     cases this
     obtain ⟨o,ho,hd⟩:=z
     exact ⟨o,hk _ _ ho,hd⟩
 ·obtain ⟨v,o,ho,hd⟩:=I.cell x c (sub x c e)
  exact ⟨v,o,hk _ _ ho,hd⟩
 ·show (jbX own fr σ).length=(own++fr.map fun j=>X.N.getD j (Str.ofString "")).length
  unfold jbX
  rw [List.length_append,List.length_append,List.length_map,List.length_map,List.length_map]
theorem zg {X:Cx} {scope:Scope} {own:List Str} {fr:List Nat} {pins:List (Addr×Obj)} {σ σ':St} {H H':Hp} {s s':Shared} {ex:List Addr} (I:Inv X pins σ H s) (hex:∀ b∈ex,yS X pins H b∧b < s.heap.objs.size)
  (J:Inv (blk X scope own fr s H ex) [] σ' H' s') {h':Heap} (hs:Heap.SameBut s.heap.objs.size s'.heap h'):Inv X pins σ H' { s' with heap:=h' }:=by
 have hC:H' s.heap.objs.size=none:=J.free
 have u:Un (frs X.stack) ex H H' s.heap s'.heap:=J.base
 have ne:∀ b o,s.heap.get? b=some o→b≠s.heap.objs.size:=fun b o e=>Nat.ne_of_lt (Heap.lt_size e)
 have at':∀ b o,b≠s.heap.objs.size→s'.heap.get? b=some o→h'.get? b=some o:=fun b o hb e=>(hs.2 b hb).trans e
 refine I.call' (ch:=ex) J.os ⟨fun b o e n hb hx=>?_,fun b o e n hb hx=>?_,u.free,fun b o e hx=>?_,u.tups,u.frzs,u.tbls⟩ (fun b o e=>?_) J.bare fun b hb=>?_
 ·exact at' b o (ne b o e) (u.keep b o e n hb hx)
 ·obtain ⟨sl,q⟩:=u.slot b o e n hb hx
  exact ⟨sl,at' b _ (ne b o e) q⟩
 ·obtain ⟨o',q⟩:=u.there b o e hx
  exact ⟨o',at' b _ (ne b o e) q⟩
 ·refine (J.hok b o e).stay (fun c v hc q=>at' c v ?_ q) (fun _ q=>q) fun _ _ q=>q
  rintro z
  rcases hc with y | y
  ·rw [y] at z;rw [z,hC] at e;cases e
  ·rw [z,hC] at y;cases y
 ·obtain ⟨f0,f1,f2,f3,f4,f5⟩:=(hex b hb).1
  exact ⟨f3,f1,f4,f5⟩
def PTs (X:Cx) (ifs:List Expr) (t:TT):Prop:=
 ∀ (pins:List (Addr×Obj)) (s:Shared) (σ:St) (H:Hp) (Q:Bool→Hp→Prop),Inv X pins σ H s→t σ H Q→
  wpAny (model X.prog X.w) X.A (forIn ifs true fun c r=>if r=true then do let ok ← isTrue c X.env (eval c X.env);pure (ForInStep.yield ok) else pure (ForInStep.yield r)) (TP X pins σ Q) X.xe s
def JD:TT:=fun _ H Q=>Q true H
theorem jef {X:Cx}:PTs X [] JD:=fun _ _ _ H _ I h=>wpAny_tests_nil ⟨H,I,h⟩
theorem jee {X:Cx} {c:Expr} {t:TT} (h:PT X c t):PTs X [c] t:=fun pins s σ H Q I q=>wpAny_tests_one (h pins s σ H Q I q)
def Kj (J:It) (p:Addr) (g:TG) (tt:TT) (te:TE) (Q:VK) (σ:St) (H:Hp):Prop:=∃ W:Nat→Nat→St→Hp→Prop,(∃ m,W 0 m σ H)∧
 ∀ i m σ' H',W i m σ' H'→(J.stop i H'∧Q (.ref p) H')∨(J.go i H'∧∃ N:St→Hp→Prop,(∀ σ3 H3,N σ3 H3→∃ m',m' < m∧W (i+1) m' σ3 H3)∧∀ x H2,J.yld i H' x H2→g x σ' H2 fun σ3 H3=>tt σ3 H3 fun c H4=>
  if c=true then te σ3 H4 fun y H5=>∃ ys,H5 p=some (.lst ys)∧ys.length < sizeLine∧N σ3 (upd H5 p (.lst (ys++[y]))) else N σ3 H4)
def Kx (own:List Str) (fr:List Nat) (wi:TI) (g:TG) (tt:TT) (te:TE):TE:=fun σ H Q=>wi σ H fun J H1=>∀ p,H1 p=none→Kj J p g tt te Q (jbX own fr σ) (upd H1 p (.lst []))
theorem jdS {X:Cx} {scope:Scope} {own:List Str} {fr:List Nat} {elt tg iter:Expr} {ifs:List Expr} {pos:Pos} {wi:TI} {g:TG} {tt:TT} {te:TE} {use:Option (Value→Sem Unit)} (hc:X.calm=true) (O:CompOk X scope fr) (hi:PI X tg iter wi)
  (hb:∀ s H ex,PG (blk X scope own fr s H ex) tg g∧PTs (blk X scope own fr s H ex) ifs tt∧PE (blk X scope own fr s H ex) elt te)
  (hs:∀ x,foldedSetIterable iter X.env x=pure x) {pins:List (Addr×Obj)} {s:Shared} {σ:St} {H:Hp} {Q:VK} {R:Value→Shared→Prop} (I:Inv X pins σ H s) (h:Kx own fr wi g tt te σ H Q) (hx:∀ e s',X.xe e s'↔False)
  (fin:∀ (p C:Addr) (H':Hp) (s':Shared) (m:Str→Option Value),s'.heap.Ns C m→H' C=none→C≠X.env.locals→(∀ x c,X.env.cells.lookup x=some c→c≠C)→Inv X pins σ H' s'→(∀ h',Heap.SameBut C s'.heap h'→Inv X pins σ H' { s' with heap:=h' })→Q (.ref p) H'→
   compPost (model X.prog X.w) X.A X.xe use R (.ref p) C (.ok .next) s') :
  wpAny (model X.prog X.w) X.A (comprehension (.ListComp elt [⟨tg,iter,ifs,0⟩] scope pos) scope X.env (firstIterPos [⟨tg,iter,ifs,0⟩] pos) (newList []) false (eval iter X.env) use) R X.xe s:=by
 have hsome:∀ x∈scope.names,x.2=.free→(X.env.cells.lookup x.1).isSome=true:=fun x hx' e=>by
  obtain ⟨c,hc⟩:=I.ok.has x.1 (O.frees x hx' e)
  rw [hc];rfl
 have no:∀ (E:Value→Shared→Prop) (x:Value) (s':Shared),X.xe x s'→E x s':=fun E x s' z=>((hx x s').mp z).elim
 refine wpAny_comprehension_free (cl:=zG X.env.cells scope.names []) rfl hs (yy hsome) O.kind O.loc ?_
 refine thn (hi pins s σ H _ I h) fun v s1 h1=>thn h1 fun itv s2 h2=>?_
 obtain ⟨it,fp,tn,J,H2,e,I2,T,st2,f2,q2⟩:=h2
 subst e
 refine wpAny_newObj_type ?_
 have nw:H2 s2.heap.objs.size=none:=I2.fresh
 obtain ⟨W,⟨m0,w0⟩,turn⟩:=q2 _ nw
 generalize hp:s2.heap.objs.size=p at *
 have I3:Inv X pins σ (upd H2 p (.lst [])) { s2 with heap:=s2.heap.push { cls:=.type "list",dict:=none,data:=.seq ([]:List Value).toArray } }:=by
  have:=I2.lnew (ys:=[]) (its:=[]) (t':=s2.toks) .nil (Nat.zero_le _)
  rw [hp] at this
  exact this
 have lt2:∀ b∈fp,b < s2.heap.objs.size:=fun b hb=>by
  obtain ⟨o,ho,_⟩:=T.obj _ _ st2 b hb
  exact Heap.lt_size ho
 have fpn:∀ b∈fp,(upd H2 p (.lst [])) b=none:=fun b hb=>by
  rw [jr (by rw [← hp];exact Nat.ne_of_lt (lt2 b hb))]
  exact (f2 b hb).1
 generalize hs3:({ s2 with heap:=s2.heap.push { cls:=.type "list",dict:=none,data:=.seq ([]:List Value).toArray } }:Shared)=s3 at *
 have sz3:s3.heap.objs.size=p+1:=by
  rw [← hs3]
  show (s2.heap.push _).objs.size=_
  rw [Heap.size_push,hp]
 have st3:tn 0 s3.heap:=T.keep 0 _ _ st2 fun b hb o e=>by
  rw [← hs3]
  exact Heap.get?_push_of_some _ e
 refine wpAny_newFunctionEnv O.nocell (by intro y hy;simp at hy) (fun h4 hns4 hsb4=>?_) O.kind
 have k4:∀ b o,s3.heap.get? b=some o→h4.get? b=some o:=fun b o e=>hsb4.extBut b o (Nat.ne_of_lt (Heap.lt_size e)) (Heap.get?_push_of_some _ e)
 have hns4':h4.Ns s3.heap.objs.size fun _=>none:=by
  have z:(fun x:Str=>([]:List (Str×Value)).reverse.lookup x)=fun _=>none:=by funext x;rfl
  rw [z] at hns4
  exact hns4
 have fo:∀ b∈fp,yS X pins (upd H2 p (.lst [])) b∧b < s3.heap.objs.size:=fun b hb=>⟨⟨fpn b hb,(f2 b hb).2⟩,by rw [sz3,← hp];exact Nat.lt_succ_of_lt (lt2 b hb)⟩
 have I4:=YC (own:=own) (fr:=fr) (t1:=s3.toks+([]:List (Str×Value)).length) I3 O fo hns4' k4
 have st4:tn 0 h4:=T.keep 0 _ _ st3 fun b hb o e=>k4 b o e
 obtain ⟨hg,ht,he⟩:=hb s3 (upd H2 p (.lst [])) fp
 have stat:∀ {H':Hp} {pn:List (Addr×Obj)} {s':Shared} {σ':St},Inv (blk X scope own fr s3 (upd H2 p (.lst [])) fp) [] σ' H' s'→(∀ b∈fp,H' b=none)→∀ b∈fp,yS (blk X scope own fr s3 (upd H2 p (.lst [])) fp) [] H' b:=fun {H' pn s' σ'} J hn b hb'=>
  ⟨hn b hb',(J.ok.exf b hb').1,J.ok.exfs b hb',.inl hb',(J.ok.exf b hb').2,fun p hp=>absurd hp (by simp [blk])⟩
 have nocells:∀ x c,X.env.cells.lookup x=some c→c≠s3.heap.objs.size:=fun x c e=>by
  obtain ⟨v,q⟩:=I3.cell x c e
  exact Nat.ne_of_lt q.lt
 have loop:∀ s5:Shared,s5={ s3 with heap:=h4,toks:=s3.toks+([]:List (Str×Value)).length }→
   codeAny (model X.prog X.w) X.A (.compLoop (.ListComp elt [⟨tg,iter,ifs,0⟩] scope pos) 0 (.ref it) (.ref p) (blk X scope own fr s3 (upd H2 p (.lst [])) fp).env) (compPost (model X.prog X.w) X.A X.xe use R (.ref p) s3.heap.objs.size) s5:=by
  rintro s5 rfl
  refine yP (fun n s'=>∃ i σ' H',Inv (blk X scope own fr s3 (upd H2 p (.lst [])) fp) [] σ' H' s'∧tn i s'.heap∧(∀ b∈fp,H' b=none)∧W i n σ' H') ?_ m0 ⟨0,_,_,I4,st4,fpn,w0⟩
  rintro n s6 ⟨i,σ6,H6,I6,st6,fr6,w6⟩
  rcases turn i n σ6 H6 w6 with ⟨stop,qn⟩ | ⟨go,N,hN,step⟩
  ·refine thn (T.done (blk X scope own fr s3 (upd H2 p (.lst [])) fp) rfl rfl rfl hc i [] s6 σ6 H6 _ I6 (stat (pn:=[]) I6 fr6) st6 stop) fun r s7 ⟨hr,I7⟩=>?_
   subst hr
   obtain ⟨m,hm,_⟩:=I7.loc
   exact fin p _ H6 s7 m hm I7.free (Nat.ne_of_gt I3.lt) nocells (zg I3 fo I7 (Heap.SameBut.refl ..)) (fun h' hs'=>zg I3 fo I7 hs') qn
  ·refine thn (T.item (blk X scope own fr s3 (upd H2 p (.lst [])) fp) rfl rfl rfl hc i [] s6 σ6 H6 _ I6 (stat (pn:=[]) I6 fr6) st6 go) fun r s7 ⟨u,hr,h7⟩=>?_
   subst hr
   refine thn h7 fun _ s8 ⟨x,H8,I8,r8,y8,st8,fr8⟩=>?_
   have I8':=I8.pinned (stat (pn:=[]) I8 fr8) (T.obj _ _ st8)
   refine thn (hg _ s8 σ6 H8 x u _ I8' r8 (step x H8 y8)) fun _ s9 ⟨σ9,H9,I9,q9⟩=>?_
   refine thn (ht _ s9 σ9 H9 _ I9 q9) fun ok s10 ⟨H10,I10,q10⟩=>?_
   have again:∀ {H11:Hp} {s11:Shared},Inv (blk X scope own fr s3 (upd H2 p (.lst [])) fp) ([]++zu fp s8.heap) σ9 H11 s11→(∃ m',m' < n∧W (i+1) m' σ9 H11)→
     ∃ m,m < n∧∃ i σ' H',Inv (blk X scope own fr s3 (upd H2 p (.lst [])) fp) [] σ' H' s11∧tn i s11.heap∧(∀ b∈fp,H' b=none)∧W i m σ' H':=fun {H11 s11} I11 ⟨m',hm,w11⟩=>by
    refine ⟨m',hm,i+1,σ9,H11,I11.unpinned,T.keep _ _ _ st8 fun b hb' o e=>(I11.pin (b,o) (List.mem_append_right _ (List.mem_append_right _ (kN hb' e)))).1,fun b hb'=>?_,w11⟩
    obtain ⟨o,e,d⟩:=T.obj _ _ st8 b hb'
    exact (I11.pin (b,o) (List.mem_append_right _ (List.mem_append_right _ (kN hb' e)))).2.1
   cases ok with
   | false=>
    rw [if_neg Bool.false_ne_true] at q10 ⊢
    exact again I10 (hN _ _ q10)
   | true=>
    rw [if_pos rfl] at q10 ⊢
    refine thn (he _ s10 σ9 H10 _ I10 q10) fun yv s11 ⟨y,H11,I11,r11,ys,hys,hlen,q11⟩=>?_
    have ap:=jQ (X:=blk X scope own fr s3 (upd H2 p (.lst [])) fp) ([]++zu fp s8.heap) s11 σ9 H11 (.ref p) [y] (.ref p) [yv] (fun _ H12=>∃ m',m' < n∧W (i+1) m' σ9 H12) I11 rfl (.cons r11 .nil) ⟨p,ys,y,rfl,rfl,hys,hlen,hN _ _ q11⟩
    exact thn ap fun _ s12 ⟨_,H12,I12,_,q12⟩=>again I12 q12
 refine codeAny_compStart_list (loop _ rfl) (T.self X.A 0 _ _ _ st4 (loop _ rfl))
theorem jez {X:Cx} {scope:Scope} {elt tg iter:Expr} {ifs:List Expr} {pos:Pos} {wi:TI} {g:TG} {tt:TT} {te:TE} (own:List Str) (fr:List Nat) (hc:X.calm=true) (O:CompOk X scope fr) (hi:PI X.nox tg iter wi)
  (hb:∀ s H ex,PG (blk X.nox scope own fr s H ex) tg g∧PTs (blk X.nox scope own fr s H ex) ifs tt∧PE (blk X.nox scope own fr s H ex) elt te)
  (hs:∀ x,foldedSetIterable iter X.env x=pure x:=by intro _;rfl):PE X.nox (.ListComp elt [⟨tg,iter,ifs,0⟩] scope pos) (Kx own fr wi g tt te):=by
 intro pins s σ H Q I h
 rw [eval_ListComp]
 refine jdS (X:=X.nox) (use:=none) (Q:=Q) hc ⟨O.kind,O.nocell,O.loc,O.frees,O.fr⟩ hi hb hs I h (fun _ _=>Iff.rfl) fun p C H' s' m hm hC _ _ I' back q=>?_
 exact ⟨m,hm,fun h' hs'=>⟨.ref p,H',back h' hs',rfl,q⟩⟩
section
variable {p:Addr} {g:TG} {tt:TT} {te:TE} {σ:St} {H:Hp} {Q:VK}
theorem YN (J:It) (n:Nat) (Pv:Nat→St→Hp→Prop) (h0:Pv 0 σ H) (stop:∀ σ' H',Pv n σ' H'→J.stop n H') (go:∀ i σ' H',i < n→Pv i σ' H'→J.go i H')
  (hs:∀ i σ' H',i < n→Pv i σ' H'→∀ x H2,J.yld i H' x H2→g x σ' H2 fun σ3 H3=>tt σ3 H3 fun c H4=>if c=true then te σ3 H4 fun y H5=>∃ ys,H5 p=some (.lst ys)∧ys.length < sizeLine∧Pv (i+1) σ3 (upd H5 p (.lst (ys++[y]))) else Pv (i+1) σ3 H4)
  (hd:∀ σ' H',Pv n σ' H'→Q (.ref p) H'):Kj J p g tt te Q σ H:=by
 refine ⟨fun i m σ H=>m=n - i∧i≤n∧Pv i σ H,⟨n,by simp,Nat.zero_le _,h0⟩,?_⟩
 rintro i m σ1 H1 ⟨rfl,hi,pv⟩
 by_cases hlt:i < n
 ·exact .inr ⟨go i σ1 H1 hlt pv,Pv (i+1),fun σ3 H3 q=>⟨n - (i+1),by omega,rfl,hlt,q⟩,hs i σ1 H1 hlt pv⟩
 ·have e:i=n:=by omega
  subst e
  exact .inl ⟨stop σ1 H1 pv,hd σ1 H1 pv⟩
theorem Z9 {lo:Int} {n:Nat} (Pv:Nat→St→Hp→Prop) (h0:Pv 0 σ H)
  (hs:∀ i σ' H',i < n→Pv i σ' H'→g (.int (lo+i)) σ' H' fun σ3 H3=>tt σ3 H3 fun c H4=>if c=true then te σ3 H4 fun y H5=>∃ ys,H5 p=some (.lst ys)∧ys.length < sizeLine∧Pv (i+1) σ3 (upd H5 p (.lst (ys++[y]))) else Pv (i+1) σ3 H4)
  (hd:∀ σ' H',Pv n σ' H'→Q (.ref p) H'):Kj (Itr lo n) p g tt te Q σ H:=
 YN (Itr lo n) n Pv h0 (fun _ _ _=>Nat.le_refl _) (fun i _ _ h _=>h) (fun i σ' H' h pv x H2 y=>by
  obtain ⟨e1,e2⟩:=y
  subst e1 e2
  exact hs i σ' _ h pv) hd
theorem zT {K:PySem.W.Frag} {a:Addr} {xs:List V} (Pv:Nat→St→Hp→Prop) (h0:Pv 0 σ H) (hl:∀ i σ' H',i≤xs.length→Pv i σ' H'→SqT K H' a xs)
  (hs:∀ i x σ' H',xs[i]?=some x→Pv i σ' H'→g x σ' H' fun σ3 H3=>tt σ3 H3 fun c H4=>if c=true then te σ3 H4 fun y H5=>∃ ys,H5 p=some (.lst ys)∧ys.length < sizeLine∧Pv (i+1) σ3 (upd H5 p (.lst (ys++[y]))) else Pv (i+1) σ3 H4)
  (hd:∀ σ' H',Pv xs.length σ' H'→Q (.ref p) H'):Kj (Itt K a) p g tt te Q σ H:=
 YN (Itt K a) xs.length Pv h0 (fun σ' H' pv=>⟨xs,hl _ σ' H' (Nat.le_refl _) pv,Nat.le_refl _⟩) (fun i σ' H' h pv=>⟨xs,xs[i],hl i σ' H' (Nat.le_of_lt h) pv,by simp [h]⟩) (fun i σ' H' h pv x H2 y=>by
  obtain ⟨e1,e2⟩:=y
  subst e1
  exact hs i x σ' _ (e2 xs (hl i σ' _ (Nat.le_of_lt h) pv)) pv) hd
theorem qP {K:PySem.W.Frag} {a:Addr} {xs:List V} (Pv:Nat→St→Hp→Prop) (h0:Pv 0 σ H) (hl:∀ i σ' H',i≤xs.length→Pv i σ' H'→SqL K H' a xs)
  (hs:∀ i x σ' H',xs[i]?=some x→Pv i σ' H'→g x σ' H' fun σ3 H3=>tt σ3 H3 fun c H4=>if c=true then te σ3 H4 fun y H5=>∃ ys,H5 p=some (.lst ys)∧ys.length < sizeLine∧Pv (i+1) σ3 (upd H5 p (.lst (ys++[y]))) else Pv (i+1) σ3 H4)
  (hd:∀ σ' H',Pv xs.length σ' H'→Q (.ref p) H'):Kj (Itl K a) p g tt te Q σ H:=
 YN (Itl K a) xs.length Pv h0 (fun σ' H' pv=>⟨xs,hl _ σ' H' (Nat.le_refl _) pv,Nat.le_refl _⟩) (fun i σ' H' h pv=>⟨xs,xs[i],hl i σ' H' (Nat.le_of_lt h) pv,by simp [h]⟩) (fun i σ' H' h pv x H2 y=>by
  obtain ⟨e1,e2⟩:=y
  subst e1
  exact hs i x σ' _ (e2 xs (hl i σ' _ (Nat.le_of_lt h) pv)) pv) hd
end
inductive D where
 | int (i:Int) | str (x:Str) | tup (ds:List D)
mutual
def Held (H:Hp):D→V→Prop
 | .int i,v=>v=.int i
 | .str x,v=>v=.str x
 | .tup ds,v=>∃ a xs,v=.ref a∧H a=some (.tup xs)∧HeldL H ds xs
def HeldL (H:Hp):List D→List V→Prop
 | [],vs=>vs=[]
 | d :: ds,vs=>∃ v r,vs=v :: r∧Held H d v∧HeldL H ds r
end
mutual
theorem Held.mono {H H':Hp} (e:Same H H'):∀ {d:D} {v:V},Held H d v→Held H' d v
 | .int i,v,h=>by unfold Held at h ⊢;exact h
 | .str x,v,h=>by unfold Held at h ⊢;exact h
 | .tup ds,v,h=>by
  unfold Held at h ⊢
  obtain ⟨a,xs,e1,e2,e3⟩:=h
  exact ⟨a,xs,e1,e a _ e2,HeldL.mono e e3⟩
theorem HeldL.mono {H H':Hp} (e:Same H H'):∀ {ds:List D} {vs:List V},HeldL H ds vs→HeldL H' ds vs
 | [],vs,h=>by unfold HeldL at h ⊢;exact h
 | d :: ds,vs,h=>by
  unfold HeldL at h ⊢
  obtain ⟨v,r,e1,e2,e3⟩:=h
  exact ⟨v,r,e1,Held.mono e e2,HeldL.mono e e3⟩
end
theorem jU {H:Hp} {i:Int}:Held H (.int i) (.int i):=by unfold Held;rfl
theorem jk {H:Hp} {x:Str}:Held H (.str x) (.str x):=by unfold Held;rfl
theorem jdE {H:Hp} {a:Addr} {xs:List V} {ds:List D} (e:H a=some (.tup xs)) (h:HeldL H ds xs):Held H (.tup ds) (.ref a):=by unfold Held;exact ⟨a,xs,rfl,e,h⟩
theorem jl {H:Hp}:HeldL H [] []:=by unfold HeldL;rfl
theorem jc {H:Hp} {d:D} {ds:List D} {v:V} {r:List V} (h:Held H d v) (t:HeldL H ds r):HeldL H (d :: ds) (v :: r):=by unfold HeldL;exact ⟨v,r,rfl,h,t⟩
theorem HeldL.length {H:Hp}:∀ {ds:List D} {vs:List V},HeldL H ds vs→ds.length=vs.length
 | [],vs,h=>by unfold HeldL at h;subst h;rfl
 | d :: ds,vs,h=>by
  unfold HeldL at h
  obtain ⟨v,r,e1,_,e3⟩:=h
  subst e1
  rw [List.length_cons,List.length_cons,HeldL.length e3]
theorem HeldL.get {H:Hp}:∀ {ds:List D} {vs:List V} {j:Nat} {d:D},HeldL H ds vs→ds[j]?=some d→∃ v,vs[j]?=some v∧Held H d v
 | [],_,_,_,_,e=>by simp at e
 | d :: ds,vs,0,d',h,e=>by
  unfold HeldL at h
  obtain ⟨v,r,e1,e2,e3⟩:=h
  simp at e;subst e e1
  exact ⟨v,rfl,e2⟩
 | d :: ds,vs,j+1,d',h,e=>by
  unfold HeldL at h
  obtain ⟨v,r,e1,e2,e3⟩:=h
  subst e1
  obtain ⟨w,h1,h2⟩:=HeldL.get (j:=j) (d:=d') e3 (by simpa using e)
  exact ⟨w,by simpa using h1,h2⟩
mutual
def D.depth:D→Nat
 | .int _=>0
 | .str _=>0
 | .tup ds=>D.depthL ds+1
def D.depthL:List D→Nat
 | []=>0
 | d :: ds=>max (D.depth d) (D.depthL ds)
end
theorem jN {X:Cx}:OpR X (binaryOp .FloorDiv) (rI (fun _ j=>0 < j∧j < 2 ^ 200) fun i j=>.int (i / j)):=opI fun i j _ _ _ _ _ hc q=>by
 refine floordiv_int (by omega) ?_ (.inl (PyProof.noPylong_of_log2 ?_))
 ·rw [Int.fdiv_eq_ediv_of_nonneg _ (by omega)]
  exact q
 ·have h0:j.natAbs≠0:=by omega
  exact Nat.lt_trans ((Nat.log2_lt h0).mpr (show j.natAbs < 2 ^ 200 by omega)) (by decide)
theorem ZD {X:Cx}:qI X (.builtin "isinstance") (fun xs H Q=>∃ x t T b,xs=[x,.ty T]∧TyOf X.K H x t∧PySem.W.kitOne X.K t (.type T)=some b∧Q (.bl b) H):=by
 intro pins s σ H xs us Q I r h
 obtain ⟨x,t,T,b,rfl,ty,e,q⟩:=h
 obtain ⟨u,v,rfl,ru,rv⟩:=jch r
 cases rv
 exact jbM I ru ty e fun tk=>⟨.bl b,H,I.tok _,rfl,q⟩
theorem jfX (K:PySem.W.Frag):PySem.W.kitOne K (.type "tuple") (.type "tuple")=some true:=rfl
theorem jfZ (K:PySem.W.Frag):PySem.W.kitOne K (.type "int") (.type "tuple")=some false:=rfl
theorem jfY (K:PySem.W.Frag):PySem.W.kitOne K (.type "str") (.type "tuple")=some false:=rfl
def kn:Expr→Bool
 | .Starred _ _=>false
 | _=>true
theorem qD {e:Expr} (h:kn e=true) (qc:List Expr) (env:Env):starEach (e :: qc) env=(false,eval e env) :: starEach qc env:=by
 cases e <;> first | rfl | cases h
theorem yp (pos:Pos) (env:Env):∀ es:List Expr,es.all kn=true→(backTo pos (starEach es env)).any (·.1)=false
 | [],_=>rfl
 | e :: es,h=>by
  rw [List.all_cons,Bool.and_eq_true] at h
  rw [qD h.1]
  have ih:=yp pos env es h.2
  show (false || (backTo pos (starEach es env)).any (·.1))=false
  rw [ih]
  rfl
theorem jgL {X:Cx} {e:Expr} {es:List Expr} {te:TE} {t:TA} (ha:PE X e te) (hr:PA X es t) (hp:kn e=true:=by rfl):PA X (e :: es) (jcs te t):=jeD ha hr (qD hp es X.env)
theorem jgH {X:Cx} {x:Str} {p pos:Pos} {e:Expr} {es:List Expr} {t:TA} {id:String} {r:List V→Hp→VK→Prop} (hc:qI X (.builtin id) r) (hg:Gl X x) (hm:X.mg x=none) (hv:bootBuiltins x=some (.builtin id)) (ha:PA X (e :: es) t) (hp:(e :: es).all kn=true:=by rfl) (hn:x≠"__name__":=by decide) (hdb:(x == ("__debug__" : Str))=false:=by decide) :
  PE X (.Call (.Name x p) (e :: es) [] pos) (tCB r t):=by
 rw [List.all_cons,Bool.and_eq_true] at hp
 exact jcY hc hg hm hv ha hn hdb (qD hp.1 es X.env) (yp pos X.env es hp.2)
theorem jgG {X:Cx} {x:Str} {p pos:Pos} {e:Expr} {es:List Expr} {t:TA} {T:String} {r:List V→Hp→VK→Prop} (hc:qI X (.type T) r) (hg:Gl X x) (hm:X.mg x=none) (hv:bootBuiltins x=some (.type T)) (ha:PA X (e :: es) t) (hp:(e :: es).all kn=true:=by rfl) (hn:x≠"__name__":=by decide) (hdb:(x == ("__debug__" : Str))=false:=by decide) :
  PE X (.Call (.Name x p) (e :: es) [] pos) (tCB r t):=by
 rw [List.all_cons,Bool.and_eq_true] at hp
 exact jbt hc hg hm hv ha hn hdb (qD hp.1 es X.env) (yp pos X.env es hp.2)
structure Fn (P:Program) (w:World) (K:PySem.W.Frag) (mg:Str→Option Value) (base:Heap) (k:Nat) (x:Str) (ps:List Str) (sp:Sp):Prop where
 ex:∃ f fd,FnOk P w K mg base CX0 k f fd ps sp∧Binds K fd ps []∧PySem.W.keepIn K (.ref f)=true∧mg x=some (.ref f)
theorem jgF {X:Cx} {k k':Nat} {x:Str} {ps:List Str} {sp:Sp} {e:Expr} {es:List Expr} {t:TA} {p pos:Pos} (F:Fn X.prog X.w X.K X.mg X.base k x ps sp) (hr:Room k' X.A) (ha:PA X (e :: es) t) (hk:k≤k':=by decide) (hg:Gl X x:=by rfl)
  (hd:(x == ("__debug__" : Str))=false:=by decide) (hp:(e :: es).all kn=true:=by rfl):PE X (.Call (.Name x p) (e :: es) [] pos) (jct sp [] E0 t):=by
 obtain ⟨f,fd,G,b,kp,m⟩:=F.ex
 rw [List.all_cons,Bool.and_eq_true] at hp
 exact jeB G (hr.mono hk) hg m kp b .nil jfh ha hd (qD hp.1 es X.env) (yp pos X.env es hp.2)
theorem Fn.mk' {P:Program} {w:World} {K:PySem.W.Frag} {mg:Str→Option Value} {base:Heap} {k:Nat} {x:Str} {ps:List Str} {sp:Sp} {st:Stmt} {f:Addr} {fd:FuncData} (F:Fun K x x st f fd) (b:Binds K fd ps []) (m:mg x=some (.ref f)) (G:FnOk P w K mg base CX0 k f fd ps sp):Fn P w K mg base k x ps sp:=⟨f,fd,G,b,F.kp,m⟩
theorem kQ {X:Cx} {scope:Scope} {fr:List Nat} {sc:Scope} {N:List Str} (h1:X.env.scope=sc) (h2:X.N=N) (h:scope.kind=.function∧(∀ y∈scope.names,y.2≠.cell)∧(∀ y∈scope.names,y.2=.local→scope.names.lookup y.1=some .local)∧
  (∀ y∈scope.names,y.2=.free→sc.names.lookup y.1=some .cell∨sc.names.lookup y.1=some .free)∧∀ j∈fr,scope.names.lookup (N.getD j (Str.ofString ""))=some .free):CompOk X scope fr:=by
 obtain ⟨a,b,c,d,e⟩:=h
 exact ⟨a,b,c,by rw [h1];exact d,by rw [h2];exact e⟩
theorem kH:bootBuiltins "len" = some (.builtin "len"):=by decide +kernel
theorem Kq:bootBuiltins "isinstance" = some (.builtin "isinstance"):=by decide +kernel
theorem K0:bootBuiltins "sorted" = some (.builtin "sorted"):=by decide +kernel
theorem qw:bootBuiltins "tuple" = some (.type "tuple"):=by decide +kernel
theorem yi:bootBuiltins "list" = some (.type "list"):=by decide +kernel
theorem je0:bootBuiltins "dict" = some (.type "dict"):=by decide +kernel
theorem jae:bootBuiltins "set" = some (.type "set"):=by decide +kernel
structure Free0 (mg:Str→Option Value):Prop where
 len_:mg "len" = none
 max_:mg "max" = none
 min_:mg "min" = none
 all_:mg "all" = none
 isinstance_:mg "isinstance" = none
 abs_:mg "abs" = none
 sorted_:mg "sorted" = none
 int_:mg "int" = none
 str_:mg "str" = none
 bool_:mg "bool" = none
 tuple_:mg "tuple" = none
 list_:mg "list" = none
 dict_:mg "dict" = none
 range_:mg "range" = none
 set_:mg "set" = none
theorem jdz {X:Cx} {K:PySem.W.Frag} (h:X.K=K:=by rfl):IxR X (jgy K):=by subst h;exact jX
theorem Js {X:Cx} {K:PySem.W.Frag} (h:X.K=K:=by rfl):IxR X (jgx K):=by subst h;exact jq
theorem Kp {X:Cx} {K:PySem.W.Frag} (h:X.K=K:=by rfl):qI X (.builtin "len") (fun xs H Q=>∃ p ys,xs=[.ref p]∧(SqL K H p ys∨SqT K H p ys)∧Q (.int ys.length) H):=by subst h;exact jF
structure QS (X:Cx) (st:Stmt) (t:TS):Prop where
 h:PS X st t
structure QSs (X:Cx) (st:List Stmt) (t:TS):Prop where
 h:PSs X st t
theorem qs {X:Cx} {st:Stmt} {t:TS} (h:PS X st t):QS X st t:=⟨h⟩
theorem Ku:∀ {its:List Value} {ns:List Str},StrsAre its ns→Vals (ns.map V.str) its
 | _,_,.nil=>.nil
 | _,_,.cons n t h=>.cons ⟨t,rfl⟩ (Ku h)
theorem jdw:64≤(sizeLine:Nat):=by rw [sizeLine_eq];decide
theorem ZV {X:Cx}:OpR X (binaryOp .Mult) (fun x y H Q=>∃ i j,x=.str i∧y=.int j∧i.length≤16∧0≤j∧j≤1000∧Q (.str (Txt.mul i j)) H):=by
 intro pins s σ H x y v u Q I rx ry h
 obtain ⟨i,j,rfl,rfl,h1,h2,h3,q⟩:=h
 obtain ⟨t,rfl⟩:=rx
 obtain ⟨t',rfl⟩:=ry
 exact SB.mul (mulOk_of 16 1000 h1 (by omega) (by omega) (by decide) (by decide)) fun t' k=>⟨.str (Txt.mul i j),H,I.tok _,⟨_,rfl⟩,q⟩
open PySem PySem.Spec PyProof.Rows PySem.W
def OkP (N:Nat) (p:Array Nat):Prop:=p.toList.Perm (List.range N)
theorem OkP.size {N:Nat} {p:Array Nat} (h:OkP N p):p.size=N:=by
 have:=h.length_eq
 rw [List.length_range] at this
 simpa using this
end L2
namespace PySem
open Sem (wp)
namespace F
theorem sub_attr_attr:isSubtype (.type "AttributeError") (.type "AttributeError")=pure true:=by rw [isSubtype_type];kernel_rfl
end F
section
variable {prog:Program} {w:World} {A:Around} {E:Value→Shared→Prop} {h:Heap} {g:Array GenState} {d:Drawn} {t:Nat} {os:OsState} {a:Addr} {its:Array Value} {n:Nat} {sl:Array (Option Value)}
theorem jaf {α:Type} {m:Str} {Q:α→Shared→Prop} (hm:m.length≤sizeLine) (hh:A.handled=none)
   (hq:∀ h' t' e,(∀ b u,h.get? b=some u→h'.get? b=some u)→(∃ oe,h'.get? e=some oe∧oe.cls=.type "AttributeError")→E (.ref e) ⟨h',g,d,t',os⟩) :
  wpAny (model prog w) A (raiseAttrError (.ref a) (Str.ofString "keys") m:Sem α) Q E ⟨h,g,d,t,os⟩:=by
 unfold raiseAttrError
 refine wpAny_bind (wpAny_mkStr (wpAny_bind ?_) hm)
 unfold newExc newTuple
 refine wpAny_bind (wpAny_newObj_type ?_ (by show 1≤sizeLine;rw [sizeLine_eq];decide))
 refine wpAny_bind (m:=firstArgMember _ _) (wpAny_of_eq (a:=Value.none) (by kernel_rfl) ?_)
 refine wpAny_newObj_type ?_ (by size_fits)
 refine wpAny_bind (wpAny_mkText ?_)
 dsimp only
 have hsub:isSubtype (.type "AttributeError") (.type "AttributeError")=pure true:=by rw [isSubtype_type];kernel_rfl
 generalize hf:(#[Value.ref h.objs.size,Value.none,Value.none,Value.none,Value.bool false,Value.none]++ownMembersOf (Value.type "AttributeError") [Value.str m t])=fs
 have e1:((h.push { cls:=.type "tuple",data:=.seq #[Value.str m t] }).push { cls:=.type "AttributeError",data:=.fields fs }).get? (h.push { cls:=.type "tuple",data:=.seq #[Value.str m t] }).objs.size=some { cls:=.type "AttributeError",data:=.fields fs }:=Heap.get?_push_size _ rfl
 have old:∀ b u,h.get? b=some u→((h.push { cls:=.type "tuple",data:=.seq #[Value.str m t] }).push { cls:=.type "AttributeError",data:=.fields fs }).get? b=some u:=fun b u q=>Heap.get?_push_of_some _ (Heap.get?_push_of_some _ q)
 have oldn:∀ b u,h.get? b=some u→b≠(h.push { cls:=.type "tuple",data:=.seq #[Value.str m t] }).objs.size:=fun b u q=>Nat.ne_of_lt (Heap.lt_size (Heap.get?_push_of_some _ q))
 generalize ((h.push { cls:=.type "tuple",data:=.seq #[Value.str m t] }).push { cls:=.type "AttributeError",data:=.fields fs })=h2 at *
 generalize (h.push { cls:=.type "tuple",data:=.seq #[Value.str m t] }).objs.size=e at *
 refine wpAny_bind ?_
 have hT:(⟨h2,g,d,t+1+1,os⟩:Shared).TypeIs (.ref e) "AttributeError":=⟨_,e1,rfl⟩
 unfold noteAttr
 dsimp only
 refine wpAny_bind ?_
 unfold lacksNameAndObj
 dsimp only
 refine wpAny_bind (wpAny_isInstance hT hsub ?_)
 simp only [Bool.not_true,Bool.false_eq_true,if_false]
 refine wpAny_bind (wpAny_load e1 ?_)
 dsimp only
 have e6:fs[6]?=some unsetMember:=by rw [← hf];rfl
 have e7:fs[7]?=some unsetMember:=by rw [← hf];rfl
 rw [if_neg (by rw [e6,e7];decide),if_neg (by rw [e6,e7];decide)]
 refine wpAny_pure ?_
 rw [if_pos rfl]
 refine wpAny_bind (wpAny_rule (wpAny_bind (wpAny_typeOf hT ?_)))
 dsimp only
 unfold layMembers
 refine wpAny_bind (wpAny_load e1 ?_)
 dsimp only
 refine wpAny_update e1 ?_
 unfold raiseNew
 refine wpAny_bind (wpAny_handled ?_)
 rw [hh]
 refine wpAny_bind (wpAny_pure (wpAny_throw ?_))
 refine hq _ _ e (fun b u q=>?_) ⟨_,Heap.get?_update_self _ e1 rfl,rfl⟩
 rw [Heap.get?_update_ne _ _ _ _ (oldn b u q)]
 exact old b u q
end
end PySem
namespace L2
open PySem PySem.Spec PyProof.Rows PySem.W
theorem zR:entryFor table "dict.update.loop" = some Builtin.«dict.update.loop»:=entryFor_of_tree (by kernel_rfl)
theorem qu:plainId "dict.update.loop" = true:=by decide +kernel
section
variable {prog:Program} {w:World} {A:Around} {E:Value→Shared→Prop} {R:Result→Shared→Prop}
theorem jeT {kvs:List (Key×V)} {vs:List (Key×Value)} (r:KV kvs vs):vs.map (·.1)=kvs.map (·.1):=by
 unfold KV at r
 induction r with
 | nil=>rfl
 | cons h _ ih=>rw [List.map_cons,List.map_cons,ih,h.1]
theorem jeS {kvs:List (Key×V)} {vs:List (Key×Value)} {k:Key} {x:V} {v:Value} (r:KV kvs vs) (h:RelV x v):KV (kvs++[(k,x)]) (vs++[(k,v)]):=by
 unfold KV at r ⊢
 induction r with
 | nil=>exact .cons ⟨rfl,h⟩ .nil
 | cons h' _ ih=>exact .cons h' ih
end
theorem Inv.more {X:Cx} {pins:List (Addr×Obj)} {σ:St} {H H':Hp} {s:Shared} {h':Heap} {t':Nat} (I:Inv X pins σ H s) (k:∀ b u,s.heap.get? b=some u→h'.get? b=some u) (same:Same H H')
  (new:∀ b o,H b=none→H' b=some o→s.heap.objs.size≤b∧ObjOk X.prog X.w H' h' b o):Inv X pins σ H' { s with heap:=h',toks:=t' }:=by
 refine I.un ⟨fun b u q _ _ _=>k b u q,fun b u q _ _ _=>⟨u.slots,k b u q⟩,fun b u q n _=>?_,fun b u q _=>⟨u,k b u q⟩,fun b xs q=>same _ _ q,fun b u xs q=>same _ _ q,fun b ps q=>⟨#[],by rw [same _ _ q];simp⟩⟩ fun b o e=>?_
 ·cases e:H' b with
  | none=>rfl
  | some o=>exact absurd (Heap.lt_size q) (Nat.not_lt.mpr (new b o n e).1)
 ·cases q:H b with
  | none=>exact (new b o q e).2
  | some u=>
   have:=same _ _ q
   rw [e] at this
   cases this
   exact (I.hok b o q).stay (fun c v _ q=>k c v q) (fun c q=>same _ _ q) fun c xs q=>same _ _ q
abbrev Up (xs:Array Nat):Prop:=xs.toList.Pairwise (· < ·)
structure TabOk (led:Bool) (t:SetTable):Prop where
 led_:t.led=led
 none_:t.dummies=#[]
 up:Up t.place
theorem jao {xs:Array Nat} (h:Up xs) {i j:Nat} (hij:i < j) (hj:j < xs.size):xs.getD i 0 < xs.getD j 0:=by
 have hi:i < xs.size:=by omega
 have:=List.pairwise_iff_getElem.mp h i j (by simpa using hi) (by simpa using hj) hij
 simpa [Array.getD,hi,hj] using this
theorem Kh {xs:Array Nat} (h:Up xs) (j:Nat):∀ (f lo hi:Nat),lo≤hi→hi≤xs.size→hi≤lo+f→(∀ i,i < lo→xs.getD i 0 < j)→(∀ i,hi≤i→i < xs.size→j≤xs.getD i 0)→
  (SetTable.below.go xs j f lo hi)≤xs.size∧(∀ i,i < SetTable.below.go xs j f lo hi→xs.getD i 0 < j)∧∀ i,SetTable.below.go xs j f lo hi≤i→i < xs.size→j≤xs.getD i 0
 | 0,lo,hi,h1,h2,h3,a,b=>by
  unfold SetTable.below.go
  exact ⟨by omega,a,fun i hi'=>b i (by omega)⟩
 | f+1,lo,hi,h1,h2,h3,a,b=>by
  unfold SetTable.below.go
  by_cases e:lo < hi
  ·rw [if_pos e]
   dsimp only
   have hm:(lo+hi) / 2 < xs.size:=by omega
   have eg:xs.getD ((lo+hi) / 2) j=xs.getD ((lo+hi) / 2) 0:=by simp [Array.getD,hm]
   rw [eg]
   by_cases c:xs.getD ((lo+hi) / 2) 0 < j
   ·rw [if_pos c]
    refine Kh h j f ((lo+hi) / 2+1) hi (by omega) h2 (by omega) (fun i hi'=>?_) b
    rcases Nat.lt_or_ge i ((lo+hi) / 2) with z | z
    ·exact Nat.lt_trans (jao h z hm) c
    ·have:i=(lo+hi) / 2:=by omega
     subst this
     exact c
   ·rw [if_neg c]
    refine Kh h j f lo ((lo+hi) / 2) (by omega) (by omega) (by omega) a fun i hi' hs=>?_
    rcases Nat.lt_or_ge ((lo+hi) / 2) i with z | z
    ·exact Nat.le_trans (Nat.le_of_not_lt c) (Nat.le_of_lt (jao h z hs))
    ·have:i=(lo+hi) / 2:=by omega
     subst this
     exact Nat.le_of_not_lt c
  ·rw [if_neg e]
   exact ⟨by omega,a,fun i hi'=>b i (by omega)⟩
theorem Kg {xs:Array Nat} (h:Up xs) (j:Nat):SetTable.below xs j≤xs.size∧(∀ i,i < SetTable.below xs j→xs.getD i 0 < j)∧∀ i,SetTable.below xs j≤i→i < xs.size→j≤xs.getD i 0:=
 Kh h j xs.size 0 xs.size (Nat.zero_le _) (Nat.le_refl _) (by omega) (fun i h=>by omega) fun i h1 h2=>by omega
theorem jeX {xs:Array Nat} {i:Nat} (h:i < xs.size):xs[i]?=some (xs.getD i 0):=by simp [Array.getD,h]
theorem jbO {xs:Array Nat} (h:Up xs) {j:Nat} (hj:xs[SetTable.below xs j]?≠some j):Up (SetTable.insertAt xs (SetTable.below xs j) j):=by
 obtain ⟨b1,b2,b3⟩:=Kg h j
 unfold Up
 rw [SetTable.toList_insertAt]
 have hd:∀ x∈xs.toList.drop (SetTable.below xs j),j < x:=fun x hx=>by
  obtain ⟨i,hi,rfl⟩:=List.mem_iff_getElem.mp hx
  rw [List.length_drop] at hi
  rw [List.getElem_drop]
  have hs:SetTable.below xs j+i < xs.size:=by simpa using (by omega:SetTable.below xs j+i < xs.toList.length)
  have e:xs.toList[SetTable.below xs j+i]'(by simpa using hs)=xs.getD (SetTable.below xs j+i) 0:=by simp [Array.getD,hs]
  rw [e]
  have ge:=b3 (SetTable.below xs j+i) (by omega) hs
  rcases Nat.lt_or_ge j (xs.getD (SetTable.below xs j+i) 0) with z | z
  ·exact z
  ·have eq:xs.getD (SetTable.below xs j+i) 0=j:=by omega
   rcases Nat.eq_zero_or_pos i with rfl | hp
   ·exact absurd (by rw [Nat.add_zero] at eq hs;rw [jeX hs,eq]) hj
   ·have:=jao h (i:=SetTable.below xs j) (j:=SetTable.below xs j+i) (by omega) hs
    have:=b3 (SetTable.below xs j) (Nat.le_refl _) (by omega)
    omega
 have ht:∀ x∈xs.toList.take (SetTable.below xs j),x < j:=fun x hx=>by
  obtain ⟨i,hi,rfl⟩:=List.mem_iff_getElem.mp hx
  rw [List.length_take] at hi
  rw [List.getElem_take]
  have hs:i < xs.size:=by simpa using (by omega:i < xs.toList.length)
  have e:xs.toList[i]'(by simpa using hs)=xs.getD i 0:=by simp [Array.getD,hs]
  rw [e]
  exact b2 i (by omega)
 refine List.pairwise_append.mpr ⟨h.sublist (List.take_sublist _ _),List.pairwise_cons.mpr ⟨hd,h.sublist (List.drop_sublist _ _)⟩,fun x hx y hy=>?_⟩
 rcases List.mem_cons.mp hy with rfl | hy
 ·exact ht x hx
 ·exact Nat.lt_trans (ht x hx) (hd y hy)
theorem Y8 {led:Bool} {t:SetTable} (h:TabOk led t) {hashAt:Nat→Int} {hh:Int} (hne:∀ i,(hashAt i == hh)=false):∀ (f:Nat) (p:SetTable.Probe) (m:SetTable.Met),p.dummy=none→SetTable.probe.go t hashAt hh f p=some m→∃ j,m=.empty j none∧t.slot j=.empty
 | 0,p,m,_,e=>by
  unfold SetTable.probe.go at e
  cases e
 | f+1,p,m,hd,e=>by
  unfold SetTable.probe.go at e
  cases hs:t.slot p.j with
  | empty=>
   rw [hs] at e
   cases e
   exact ⟨p.j,by rw [hd],hs⟩
  | dummy=>
   exfalso
   unfold SetTable.slot at hs
   dsimp only at hs
   rw [h.none_] at hs
   split at hs
   ·cases hs
   ·simp [SetTable.has] at hs
  | live i=>
   rw [hs] at e
   dsimp only at e
   rw [hne i] at e
   rw [if_neg Bool.false_ne_true] at e
   refine Y8 h hne f _ m ?_ e
   unfold SetTable.advance
   split
   ·exact hd
   ·exact hd
theorem jaZ {led:Bool} {t:SetTable} (h:TabOk led t) {hh:Int} {j:Nat} {d:Bool} (e:t.freeSlot hh=some (j,d)):t.place[SetTable.below t.place j]?≠some j:=by
 unfold SetTable.freeSlot at e
 cases hp:t.probe (fun _=>hh+1) hh (t.probeStart hh) with
 | none=>rw [hp] at e;cases e
 | some m=>
  obtain ⟨j',rfl,hs⟩:=Y8 h (fun _=>beq_eq_false_iff_ne.mpr (by omega)) _ _ m rfl (show SetTable.probe.go t (fun _=>hh+1) hh _ _=some m from hp)
  rw [hp] at e
  cases e
  unfold SetTable.slot at hs
  dsimp only at hs
  intro z
  split at hs
  ·cases hs
  ·next c=>
   refine c ?_
   have z':t.place[SetTable.below t.place j']?=some j':=z
   rw [z']
   simp
theorem jck (n:Nat):Up (Array.range n):=by
 unfold Up
 rw [Array.toList_range]
 exact List.pairwise_lt_range
theorem yC {led:Bool} {t:SetTable} (h:t.led=led) (n:Nat):TabOk led (t.standIn n):=⟨h,rfl,jck n⟩
theorem jcH {led:Bool} {t:SetTable} (h:TabOk led t) {j:Nat} (hj:t.place[SetTable.below t.place j]?≠some j):TabOk led (t.put j).1:=by
 refine ⟨h.led_,?_,jbO h.up hj⟩
 unfold SetTable.put
 dsimp only
 rw [h.none_]
 split
 ·simp [SetTable.eraseAt]
 ·rfl
theorem jbJ {led:Bool} {t:SetTable} (h:TabOk led t) (es:Array (Int×Value)) (hh:Int) (x:Value):TabOk led (layNew t es hh x).2.1:=by
 unfold layNew
 split
 ·next slot d e=>
  dsimp only
  unfold SetTable.orStandIn
  split
  ·exact jcH h (jaZ h e)
  ·exact yC (jcH h (jaZ h e)).led_ _
 ·exact yC h.led_ _
theorem jaT {mask finger moves:Nat} {led plain:Bool} {hashes:Array Int} {t:SetTable} {o:Array Nat} (h:SetTable.laid mask finger moves led plain hashes=some (t,o)):TabOk led t:=by
 unfold SetTable.laid at h
 cases hl:SetTable.layClean mask hashes with
 | none=>rw [hl] at h;cases h
 | some owner=>
  rw [hl] at h
  cases h
  refine ⟨rfl,rfl,?_⟩
  unfold Up
  dsimp only
  have key:∀ l:List Nat,(l.filterMap fun j=>(owner.getD j none).map (fun k=>(j,k))).map (·.1)=l.filter fun j=>(owner.getD j none).isSome:=by
   intro l
   induction l with
   | nil=>rfl
   | cons a l ih=>
    rw [List.filterMap_cons,List.filter_cons]
    cases owner.getD a none with
    | none=>simpa using ih
    | some k=>
     show a :: List.map _ _=_
     rw [ih]
     rfl
  show List.Pairwise _ (List.map _ _)
  rw [key]
  exact List.pairwise_lt_range.sublist List.filter_sublist
theorem jcE {led:Bool} {t:SetTable} (h:TabOk led t) (es:Array (Int×Value)) (n:Nat):TabOk led (relayAll t es n).2.1:=by
 unfold relayAll
 split
 ·next t' o e=>
  dsimp only
  split
  ·have:=jaT (show SetTable.laid _ _ _ _ _ _=some (t',o) from e)
   rw [h.led_] at this
   exact this
  ·exact yC h.led_ _
 ·exact yC h.led_ _
theorem jbr {led:Bool} {t:SetTable} (h:TabOk led t):TabOk led { t with plain:=false }:=⟨h.led_,h.none_,h.up⟩
abbrev ledOf (w:World):Bool:=!(w.params.followText "set-order")
end L2
namespace PySem
section
variable {prog:Program} {w:World} {A:Around} {E:Value→Shared→Prop} {s:Shared}
theorem Ji (a:Value) {Q₁:Value→Shared→Prop}
  (h:Q₁ (.ref s.heap.objs.size) { s with heap:=s.heap.push { cls:=.type "set",dict:=none,data:=.set #[] 0 (.fresh 0 0 (L2.ledOf w)) } }) :
  codeAny (model prog w) A (.call (.builtin "set.__new__") ⟨[.type "set",a],[]⟩) (wants Q₁ E) s:=by
 refine codeAny_of_tree ?_
 show wpAny _ A.in1 (do checkBuiltinCall "set.__new__" ⟨[.type "set",a],[]⟩;again (.builtin "set.__new__" ⟨[.type "set",a],[]⟩)) _ _ s
 refine wpAny_bind (wpAny_of_eq (F.newCall_set_1 a) (wpAny_pure ⟨plainId_quiet F.plain_set_new _,codeAny_builtin F.entry_set_new ?_⟩))
 rw [Around.under_plainId F.plain_set_new _]
 unfold Builtin.«set.__new__» Builtin.Frozenset.newClass
 have hsub:=sub_set_self
 obtain ⟨hp,g,d,tk,os⟩:=s
 dsimp only
 wp_walk
 refine wpAny_askSetting (wpAny_pure ?_)
 dsimp only
 simp only [newObj]
 refine wpAny_bind (wpAny_alloc (wpAny_pure ?_))
 exact wpAny_pure h
end
namespace F
theorem slot_seti_next:Slot "set_iterator" "__next__" "set_iterator.__next__":=
 .of (owner:="set_iterator") (n:="__next__") (by rw [typeLookup_type,builtinLookup_eq_fast];kernel_rfl) (by decide +kernel) (by decide +kernel) (by decide +kernel)
  (by first | exact .inl (by decide +kernel) | exact .inr (by decide +kernel)) (by rw [isSubtype_type];kernel_rfl)
theorem entry_seti_next:entryFor table "set_iterator.__next__" = some Builtin.«set_iterator.__next__»:=entryFor_of_tree (by kernel_rfl)
theorem args_seti_next (a:Value):argsOk "set_iterator.__next__" ⟨[a],[]⟩:=by unfold argsOk;kernel_rfl
theorem entry_set_iter':entryFor table "set.__iter__" = some Builtin.«frozenset.__iter__»:=entryFor_alias (id':="frozenset.__iter__") (by kernel_rfl) (by first | rfl | decide +kernel) (by decide +kernel) (by kernel_rfl)
end F
end PySem
namespace L2
open PySem PySem.Spec PyProof.Rows PySem.W
abbrev j6 (es:Array (Int×Value)) (ep:Nat) (t:SetTable):Obj:={ cls:=.type "set",dict:=none,data:=.set es ep t }
abbrev KR (first:Value) (i:Nat) (a:Addr) (n ep:Nat):Obj:={ cls:=.type "set_iterator",data:=.fields #[first,.int i 0,.ref a,.int n 0,.int ep 0] }
def zB (es:Array (Int×Value)) (t:SetTable):Bool:=!t.plain && decide (es.size > 1)
section
variable {prog:Program} {w:World} {A:Around} {E:Value→Shared→Prop} {s:Shared}
theorem jac {src:Source} {n:Nat} {Q:Nat→Shared→Prop} (hn:n≠0) (h:∀ i d',i < n→Q i { s with drawn:=d' }):wpAny (model prog w) A (choose src n) Q E s:=by
 intro Γ p hΓ
 show Sem.wp _ _ (.choose src n .pure) _ _ _ _
 rw [Sem.wp_choose]
 exact ⟨hn,h _ _ (Nat.mod_lt _ (Nat.pos_of_ne_zero hn))⟩
theorem yu {α:Type}:∀ {l:List α} {i:Nat} {x:α},l[i]?=some x→(x :: l.eraseIdx i).Perm l
 | [],i,x,e=>by simp at e
 | a :: l,0,x,e=>by
  simp at e
  subst e
  exact List.Perm.refl _
 | a :: l,i+1,x,e=>by
  simp at e
  have ih:=yu (l:=l) (i:=i) (x:=x) e
  show (x :: a :: l.eraseIdx i).Perm (a :: l)
  exact (List.Perm.swap a x _).trans (ih.cons a)
theorem J9 {α:Type}:∀ (n:Nat) (xs:List α) (s:Shared) (Q:List α→Shared→Prop),xs.length=n→(∀ ys d',ys.Perm xs→Q ys { s with drawn:=d' })→wpAny (model prog w) A (drawOrder n xs) Q E s
 | 0,xs,s,Q,hl,h=>by
  have:xs=[]:=List.length_eq_zero_iff.mp hl
  subst this
  unfold drawOrder
  exact wpAny_pure (h [] s.drawn (List.Perm.refl _))
 | n+1,[],s,Q,hl,h=>by simp at hl
 | n+1,x :: xs,s,Q,hl,h=>by
  unfold drawOrder
  refine wpAny_bind (jac (by simp) fun i d' hi=>?_)
  have hg:(x :: xs)[i]?=some (x :: xs)[i]:=List.getElem?_eq_getElem hi
  rw [hg]
  dsimp only
  refine wpAny_bind (J9 n _ _ _ (by rw [List.length_eraseIdx,if_pos hi];omega) fun ys d2 hp=>?_)
  exact wpAny_pure (h _ d2 ((hp.cons _).trans (yu hg)))
theorem KJ {α:Type} (next:Nat→Nat) (xs:Array α):(pickOrder next xs).toList.Perm xs.toList:=by
 have key:∀ (f k:Nat) (left:List α) (out:Array α),left.length=f→(pickOrder.go next f k left out).toList.Perm (out.toList++left):=by
  intro f
  induction f with
  | zero=>
   intro k left out h
   have:left=[]:=List.length_eq_zero_iff.mp h
   subst this
   unfold pickOrder.go
   rw [List.append_nil]
  | succ f ih=>
   intro k left out h
   unfold pickOrder.go
   have hm:next k % left.length < left.length:=Nat.mod_lt _ (by omega)
   have hg:left[next k % left.length]?=some (left[next k % left.length]'hm):=List.getElem?_eq_getElem hm
   rw [hg]
   dsimp only
   refine (ih (k+1) _ _ (by rw [List.length_eraseIdx,if_pos hm];omega)).trans ?_
   rw [Array.toList_push,List.append_assoc]
   exact (yu hg).append_left _
 have:=key xs.size 0 xs.toList #[] (by simp)
 simpa [pickOrder] using this
theorem yb {I a:Addr} {first:Value} {i:Nat} {es:Array (Int×Value)} {ep:Nat} {t:SetTable} {Q:Option Value→Shared→Prop} (hI:s.heap.get? I=some (KR first i a es.size ep)) (ha:s.heap.get? a=some (j6 es ep t)) (hf:t.fits es.size=true)
  (h:wpAny (model prog w) A.in1 (if let .int slot _:=first then
   (do match ← setNext a slot.toNat i ep with
    | some (x,next)=>
     setField (.ref I) 0 (rawInt next)
     setField (.ref I) 1 (rawInt ((i:Int)+1))
     ret x
    | none=>setField (.ref I) 2 .none;raiseNew (← newExc (.type "StopIteration") []):Sem Fin)
   else (do
    let some places ← seqItems? first | unsupported "internal:set_iterator"
    match places[i]? with
    | some (.int place _)=>
     let x ← setNextDrawn a place.toNat ep
     setField (.ref I) 1 (rawInt ((i:Int)+1))
     ret x
    | some _=>unsupported "internal:set_iterator"
    | none=>setField (.ref I) 0 (rawInt 0);setField (.ref I) 2 .none;raiseNew (← newExc (.type "StopIteration") []):Sem Fin))
   (fun fin s'=>∃ v,fin=.done (.ret v)∧Q (some v) s') (fun e s'=>∃ c o,e=.ref c∧s'.heap.get? c=some o∧o.cls=.type "StopIteration"∧Q none s') s):wpAny (model prog w) A (pyNext (.ref I)) Q E s:=by
 have hT:s.TypeIs (.ref I) "set_iterator":=⟨_,hI,rfl⟩
 unfold pyNext
 refine wpAny_bind (wpAny_attempt (wpAny_callSpecial?_slot (name:=Str.ofString "__next__") hT F.slot_seti_next
  (wpAny_call_entry F.slot_seti_next hT F.entry_seti_next ?_ (F.args_seti_next _))))
 unfold Builtin.«set_iterator.__next__»
 refine wpAny_bind (wpAny_pure (wpAny_bind (wpAny_fieldsOf hI rfl ?_)))
 dsimp only
 refine wpAny_bind ?_
 unfold setEntries
 refine wpAny_bind (wpAny_setState_of ha rfl hf (wpAny_pure ?_))
 rw [if_neg (by simp)]
 simp only [Int.toNat_natCast]
 refine wpAny_mono h (fun fin s' x=>?_) fun e s' x=>?_
 ·obtain ⟨v,rfl,q⟩:=x
  exact ⟨v,rfl,wpAny_pure q⟩
 ·obtain ⟨c,o,rfl,e1,e2,q⟩:=x
  refine wpAny_bind (wpAny_isInstance (T:="StopIteration") ⟨o,e1,e2⟩ isSubtype_stop ?_)
  rw [if_pos rfl]
  exact wpAny_pure q
def ItSt (w:World) (h:Heap) (I a:Addr) (es:Array (Int×Value)) (ep:Nat) (t:SetTable) (vals:List Value) (i:Nat):Prop:=h.get? a=some (j6 es ep t)∧
 ((w.params.followText "set-order" = true∧h.get? I=some (KR (.int 0 0) i a es.size ep)∧vals=(pickOrder (w.params.setOrder a ep) es).toList.map (·.2))∨
   (w.params.followText "set-order" = false∧∃ (T:Addr) (ps:List Nat),h.get? I=some (KR (.ref T) i a es.size ep)∧h.get? T=some { cls:=.type "tuple",data:=.seq (ps.map fun (p:Nat)=>rawInt p).toArray }∧T≠I∧(∀ p∈ps,p < es.size)∧vals=ps.map fun p=>(es.getD p (0,.none)).2)∨
   (w.params.followText "set-order" = false∧zB es t=false∧∃ slot:Nat,h.get? I=some (KR (.int slot 0) i a es.size ep)∧SetTable.below t.place slot=i∧vals=es.toList.map (·.2)))
theorem Yb {I:Addr} {o:Obj} {vs:Array Value} {k:Nat} {x:Value} {Q:Option Value→Shared→Prop} (hh:A.handled=none) (hI:s.heap.get? I=some o) (hd:o.data=.fields vs) (hk:k < vs.size) (h:∀ h',(∀ b u,b≠I→s.heap.get? b=some u→h'.get? b=some u)→Q none { s with heap:=h' }) :
  wpAny (model prog w) A.in1 (do setField (.ref I) k x;raiseNew (← newExc (.type "StopIteration") []):Sem Fin) (fun fin s'=>∃ v,fin=.done (.ret v)∧Q (some v) s') (fun e s'=>∃ c o,e=.ref c∧s'.heap.get? c=some o∧o.cls=.type "StopIteration"∧Q none s') s:=by
 refine wpAny_bind (wpAny_setField hI hd hk ?_)
 refine wpAny_bind ?_
 simp only [newExc,newTuple]
 refine wpAny_bind (wpAny_newObj_type ?_ (by size_fits))
 refine wpAny_bind (m:=firstArgMember _ _) (wpAny_of_eq (a:=Value.none) (by first | rfl | (simp only [firstArgMember];rfl)) ?_)
 refine wpAny_newObj_type ?_ (by size_fits)
 simp only [raiseNew]
 refine wpAny_bind (wpAny_handled ?_)
 rw [show A.in1.handled=none from hh]
 refine wpAny_bind (wpAny_pure (wpAny_throw ?_))
 refine ⟨_,_,rfl,Heap.get?_push_size _ rfl,rfl,h _ fun b u hb e=>?_⟩
 exact Heap.get?_push_of_some _ (Heap.get?_push_of_some _ ((Heap.get?_update_ne _ _ _ _ hb).trans e))
theorem zC {Q:Bool→Shared→Prop} (h:Q (w.params.followText "set-order") s):wpAny (model prog w) A setsByText Q E s:=by
 unfold setsByText
 exact wpAny_bind (wpAny_askSetting (wpAny_pure h))
theorem yV {I:Addr} {first:Value} {i:Nat} {a:Addr} {n ep k:Nat} {x:Value} {Q:Unit→Shared→Prop} (hI:s.heap.get? I=some (KR first i a n ep)) (hk:k < 5)
  (h:∀ h',h'.get? I=some { cls:=.type "set_iterator",data:=.fields (#[first,.int i 0,.ref a,.int n 0,.int ep 0].setIfInBounds k x) }→(∀ b u,b≠I→s.heap.get? b=some u→h'.get? b=some u)→Q () { s with heap:=h' }):wpAny (model prog w) A (setField (.ref I) k x) Q E s:=
 wpAny_setField_rec hI hk fun h' e sb=>h h' e fun b u hb e=>(sb.2 b hb).trans e
theorem jbG {I a:Addr} {es:Array (Int×Value)} {ep:Nat} {t:SetTable} {vals:List Value} {i:Nat} {Q:Option Value→Shared→Prop} (hf:t.fits es.size=true) (ht:TabOk (ledOf w) t) (hIa:a≠I) (hst:ItSt w s.heap I a es ep t vals i) (hi:i < vals.length)
  (h:∀ h',ItSt w h' I a es ep t vals (i+1)→(∀ b u,b≠I→s.heap.get? b=some u→h'.get? b=some u)→Q (some (vals.getD i Value.none)) { s with heap:=h' }):wpAny (model prog w) A (pyNext (.ref I)) Q E s:=by
 obtain ⟨ha,hm⟩:=hst
 rcases hm with ⟨hb,hI,hv⟩ | ⟨hb,T,ps,hI,hT,hTI,hps,hv⟩ | ⟨hb,hd,slot,hI,hs,hv⟩
 ·refine yb hI ha hf ?_
  show wpAny _ _ (setNext a (Int.toNat 0) i ep >>= _) _ _ _
  refine wpAny_bind ?_
  unfold setNext
  refine wpAny_bind (wpAny_setState_of ha rfl hf (wpAny_bind (zC ?_)))
  dsimp only
  rw [hb,if_pos rfl,if_neg (by simp)]
  refine wpAny_bind ?_
  unfold setWalk
  refine wpAny_bind (wpAny_setState_of ha rfl hf (wpAny_bind (zC ?_)))
  rw [hb,if_pos rfl]
  refine wpAny_bind (wpAny_askSetting (wpAny_pure (wpAny_pure ?_)))
  have hg:(pickOrder (w.params.setOrder a ep) es)[i]?=some ((pickOrder (w.params.setOrder a ep) es)[i]'(by rw [hv] at hi;simpa using hi)):=Array.getElem?_eq_getElem _
  have hvi:vals.getD i Value.none=((pickOrder (w.params.setOrder a ep) es)[i]'(by rw [hv] at hi;simpa using hi)).2:=by
   subst hv
   have hi':i < (pickOrder (w.params.setOrder a ep) es).size:=by simpa using hi
   simp [hi']
  show wpAny _ _ (match ((pickOrder (w.params.setOrder a ep) es)[i]?).map fun e=>(e.2,Int.toNat 0) with | some (x,next)=>_ | none=>_) _ _ _
  rw [hg]
  dsimp only [Option.map]
  refine wpAny_bind (yV hI (by decide) fun h1 e1 k1=>?_)
  refine wpAny_bind (yV (s:={ s with heap:=h1 }) (first:=.int 0 0) e1 (by decide) fun h2 e2 k2=>wpAny_pure ⟨_,rfl,?_⟩)
  rw [← hvi]
  refine h h2 ⟨k2 _ _ hIa (k1 _ _ hIa ha),.inl ⟨hb,?_,hv⟩⟩ fun b u hb e=>k2 _ _ hb (k1 _ _ hb e)
  exact e2
 ·refine yb hI ha hf ?_
  show wpAny _ _ (seqItems? (.ref T) >>= _) _ _ _
  refine wpAny_bind (wpAny_seqItems hT rfl ?_)
  have hi':i < ps.length:=by rw [hv,List.length_map] at hi;exact hi
  have hg:(List.map (fun (p:Nat)=>rawInt p) ps).toArray[i]?=some (rawInt ps[i]):=by simp [hi']
  dsimp only
  rw [hg]
  have hpl:=hps _ (List.getElem_mem hi')
  show wpAny _ _ (setNextDrawn a (Int.toNat (ps[i]:Nat)) ep >>= _) _ _ _
  rw [Int.toNat_natCast]
  refine wpAny_bind ?_
  unfold setNextDrawn
  refine wpAny_bind (wpAny_setState_of ha rfl hf ?_)
  dsimp only
  rw [if_neg (by simp),Array.getElem?_eq_getElem hpl]
  refine wpAny_pure ?_
  refine wpAny_bind (yV hI (by decide) fun h1 e1 k1=>wpAny_pure ⟨_,rfl,?_⟩)
  have hvi:vals.getD i Value.none=es[ps[i]].2:=by
   subst hv
   simp [hi',hpl]
  show Q (some es[ps[i]].2) _
  rw [← hvi]
  refine h h1 ⟨k1 _ _ hIa ha,.inr (.inl ⟨hb,T,ps,?_,k1 _ _ hTI hT,hTI,hps,hv⟩)⟩ k1
  exact e1
 ·refine yb hI ha hf ?_
  show wpAny _ _ (setNext a (Int.toNat (slot:Nat)) i ep >>= _) _ _ _
  rw [Int.toNat_natCast]
  refine wpAny_bind ?_
  unfold setNext
  refine wpAny_bind (wpAny_setState_of ha rfl hf (wpAny_bind (zC ?_)))
  dsimp only
  rw [hb,if_neg Bool.false_ne_true]
  have hi':i < es.size:=by rw [hv,List.length_map,Array.length_toList] at hi;exact hi
  have hled:t.led=true:=by rw [ht.led_];unfold ledOf;rw [hb];rfl
  have hpz:t.place.size=es.size:=by
   simp only [SetTable.fits,Bool.and_eq_true,beq_iff_eq] at hf
   exact hf.1
  show wpAny _ _ (if zB es t=true then _ else _) _ _ _
  rw [hd,if_neg Bool.false_ne_true]
  refine wpAny_bind ?_
  show wpAny _ _ (if (!t.led && !es.isEmpty)=true then _ else _) _ _ _
  rw [hled,if_neg (by simp)]
  refine wpAny_pure (wpAny_pure ?_)
  rw [hs,Array.getElem?_eq_getElem hi',Array.getElem?_eq_getElem (by omega)]
  dsimp only
  refine wpAny_bind (yV hI (by decide) fun h1 e1 k1=>?_)
  refine wpAny_bind (yV (s:={ s with heap:=h1 }) (first:=.int ((t.place[i]'(by omega)+1:Nat):Int) 0) e1 (by decide) fun h2 e2 k2=>wpAny_pure ⟨_,rfl,?_⟩)
  have hvi:vals.getD i Value.none=es[i].2:=by
   subst hv
   simp [hi']
  rw [← hvi]
  refine h h2 ⟨k2 _ _ hIa (k1 _ _ hIa ha),.inr (.inr ⟨hb,hd,t.place[i]'(by omega)+1,?_,?_,hv⟩)⟩ fun b u hb e=>k2 _ _ hb (k1 _ _ hb e)
  ·exact e2
  ·obtain ⟨b1,b2,b3⟩:=Kg ht.up (t.place[i]'(by omega)+1)
   have eg:t.place.getD i 0=t.place[i]'(by omega):=by
    have hlt:i < t.place.size:=by omega
    simp [Array.getD,hlt]
   have h1:i < SetTable.below t.place (t.place[i]'(by omega)+1):=by
    rcases Nat.lt_or_ge i (SetTable.below t.place (t.place[i]'(by omega)+1)) with z | z
    ·exact z
    ·have:=b3 i z (by omega)
     omega
   rcases Nat.lt_or_ge (i+1) (SetTable.below t.place (t.place[i]'(by omega)+1)) with z | z
   ·have h2:=b2 (i+1) z
    have h3:=jao ht.up (i:=i) (j:=i+1) (by omega) (by omega)
    omega
   ·omega
theorem jdq {I a:Addr} {es:Array (Int×Value)} {ep:Nat} {t:SetTable} {vals:List Value} {i:Nat} {Q:Option Value→Shared→Prop} (hh:A.handled=none) (hf:t.fits es.size=true) (ht:TabOk (ledOf w) t) (hIa:a≠I) (hst:ItSt w s.heap I a es ep t vals i) (hi:i=vals.length)
  (h:∀ h',(∀ b u,b≠I→s.heap.get? b=some u→h'.get? b=some u)→Q none { s with heap:=h' }):wpAny (model prog w) A (pyNext (.ref I)) Q E s:=by
 obtain ⟨ha,hm⟩:=hst
 rcases hm with ⟨hb,hI,hv⟩ | ⟨hb,T,ps,hI,hT,hTI,hps,hv⟩ | ⟨hb,hd,slot,hI,hs,hv⟩
 ·refine yb hI ha hf ?_
  show wpAny _ _ (setNext a (Int.toNat 0) i ep >>= _) _ _ _
  refine wpAny_bind ?_
  unfold setNext
  refine wpAny_bind (wpAny_setState_of ha rfl hf (wpAny_bind (zC ?_)))
  dsimp only
  rw [hb,if_pos rfl,if_neg (by simp)]
  refine wpAny_bind ?_
  unfold setWalk
  refine wpAny_bind (wpAny_setState_of ha rfl hf (wpAny_bind (zC ?_)))
  rw [hb,if_pos rfl]
  refine wpAny_bind (wpAny_askSetting (wpAny_pure (wpAny_pure ?_)))
  have hg:(pickOrder (w.params.setOrder a ep) es)[i]?=none:=by
   rw [hi,hv]
   simp
  show wpAny _ _ (match ((pickOrder (w.params.setOrder a ep) es)[i]?).map fun e=>(e.2,Int.toNat 0) with | some (x,next)=>_ | none=>_) _ _ _
  rw [hg]
  exact Yb hh hI rfl (by simp) h
 ·refine yb hI ha hf ?_
  show wpAny _ _ (seqItems? (.ref T) >>= _) _ _ _
  refine wpAny_bind (wpAny_seqItems hT rfl ?_)
  have hg:(List.map (fun (p:Nat)=>rawInt p) ps).toArray[i]?=none:=by
   rw [hi,hv]
   simp
  dsimp only
  rw [hg]
  dsimp only
  refine wpAny_bind (yV hI (by decide) fun h1 e1 k1=>?_)
  exact Yb (s:={ s with heap:=h1 }) hh e1 rfl (by simp) fun h' k=>h h' fun b u hb e=>k _ _ hb (k1 _ _ hb e)
 ·refine yb hI ha hf ?_
  show wpAny _ _ (setNext a (Int.toNat (slot:Nat)) i ep >>= _) _ _ _
  rw [Int.toNat_natCast]
  refine wpAny_bind ?_
  unfold setNext
  refine wpAny_bind (wpAny_setState_of ha rfl hf (wpAny_bind (zC ?_)))
  dsimp only
  rw [hb,if_neg Bool.false_ne_true]
  have hled:t.led=true:=by rw [ht.led_];unfold ledOf;rw [hb];rfl
  show wpAny _ _ (if zB es t=true then _ else _) _ _ _
  rw [hd,if_neg Bool.false_ne_true]
  refine wpAny_bind ?_
  show wpAny _ _ (if (!t.led && !es.isEmpty)=true then _ else _) _ _ _
  rw [hled,if_neg (by simp)]
  refine wpAny_pure (wpAny_pure ?_)
  have hg:es[i]?=none:=by
   rw [hi,hv]
   simp
  rw [hs,hg]
  dsimp only
  exact Yb hh hI rfl (by simp) h
end
section
variable {prog:Program} {w:World} {A:Around} {E:Value→Shared→Prop} {s:Shared}
theorem ItSt.kept {h h':Heap} {I a:Addr} {es:Array (Int×Value)} {ep:Nat} {t:SetTable} {vals:List Value} {i:Nat} (x:ItSt w h I a es ep t vals i) (k:∀ b o,h.get? b=some o→o.cls≠.type "list"→h'.get? b=some o):ItSt w h' I a es ep t vals i:=by
 obtain ⟨ha,hm⟩:=x
 refine ⟨k _ _ ha (by simp),?_⟩
 rcases hm with ⟨hb,hI,hv⟩ | ⟨hb,T,ps,hI,hT,r⟩ | ⟨hb,hd,slot,hI,r⟩
 ·exact .inl ⟨hb,k _ _ hI (by simp),hv⟩
 ·exact .inr (.inl ⟨hb,T,ps,k _ _ hI (by simp),k _ _ hT (by simp),r⟩)
 ·exact .inr (.inr ⟨hb,hd,slot,k _ _ hI (by simp),r⟩)
theorem jdA {a:Addr} {es:Array (Int×Value)} {ep:Nat} {t:SetTable} {Q:Value→Shared→Prop} (ha:s.heap.get? a=some (j6 es ep t)) (hf:t.fits es.size=true) (ht:TabOk (ledOf w) t) (hz:es.size≤1000)
  (h:∀ I h' d' vals,s.heap.objs.size≤I→ItSt w h' I a es ep t vals 0→vals.Perm (es.toList.map (·.2))→(∀ b o,s.heap.get? b=some o→h'.get? b=some o)→Q (.ref I) { s with heap:=h',drawn:=d' }):wpAny (model prog w) A (pyIter (.ref a)) Q E s:=by
 have hT:s.TypeIs (.ref a) "set":=⟨_,ha,rfl⟩
 refine wpAny_pyIter_slot hT PySem.F.slot_set_iter (wpAny_call_entry PySem.F.slot_set_iter hT PySem.F.entry_set_iter' ?_ (PySem.F.args_set_iter_1 _))
 unfold Builtin.«frozenset.__iter__»
 refine wpAny_bind (wpAny_pure (wpAny_bind ?_))
 unfold Builtin.Frozenset.sizeOf setEntries
 refine wpAny_bind (wpAny_bind (wpAny_setState_of ha rfl hf (wpAny_pure (wpAny_pure ?_))))
 refine wpAny_bind ?_
 unfold setDrawn
 refine wpAny_bind (wpAny_setState_of ha rfl hf (wpAny_bind (zC (wpAny_pure ?_))))
 dsimp only
 show wpAny _ _ (if (!(w.params.followText "set-order") && zB es t)=true then _ else _) _ _ _
 have fin:∀ (first:Value) (s1:Shared) (vals:List Value),s1.heap.get? a=some (j6 es ep t)→vals.Perm (es.toList.map (·.2))→(∀ b o,s.heap.get? b=some o→s1.heap.get? b=some o)→s1.gens=s.gens→s1.toks=s.toks→s1.os=s.os→s.heap.objs.size≤s1.heap.objs.size→
   (∀ h' I,(∀ b o,s1.heap.get? b=some o→h'.get? b=some o)→s1.heap.objs.size=I→h'.get? I=some (KR first 0 a es.size ep)→ItSt w h' I a es ep t vals 0)→
   wpAny (model prog w) A.in1 (do let e ← setEpoch a;let i ← newFields "set_iterator" [first,rawInt 0,.ref a,rawInt es.size,rawInt e];ret i) (fun fin s'=>∃ v,fin=Fin.done (Flow.ret v)∧∃ T' r,s'.TypeIs v T'∧typeLookup (.type T') "__next__" = pure (some r)∧Q v s') E s1:=by
  intro first s1 vals h1 hp hk eg et eo hle hst
  refine wpAny_bind (wpAny_setEpoch_of h1 rfl hf ?_)
  refine wpAny_bind (wpAny_newObj_type (wpAny_pure ⟨_,rfl,"set_iterator",_,⟨_,Heap.get?_push_size _ rfl,rfl⟩,PySem.F.slot_seti_next.lookup,?_⟩))
  obtain ⟨hp1,g1,d1,t1,o1⟩:=s1
  dsimp only at eg et eo
  subst eg et eo
  exact h _ _ d1 vals hle (hst _ _ (fun b o e=>Heap.get?_push_of_some _ e) rfl (Heap.get?_push_size _ rfl)) hp fun b o e=>Heap.get?_push_of_some _ (hk b o e)
 cases hb:w.params.followText "set-order" with
 | true=>
  rw [if_neg (by simp)]
  refine wpAny_bind (wpAny_pure ?_)
  refine fin (rawInt 0) s ((pickOrder (w.params.setOrder a ep) es).toList.map (·.2)) ha ((KJ _ _).map _) (fun _ _ e=>e) rfl rfl rfl (Nat.le_refl _) fun h' I k _ hI=>?_
  exact ⟨k _ _ ha,.inl ⟨hb,hI,rfl⟩⟩
 | false=>
  cases hd:zB es t with
  | true=>
   rw [if_pos (by simp)]
   refine wpAny_bind (J9 es.size (List.range es.size) s _ (by simp) fun ps d' hp=>?_)
   refine wpAny_bind (wpAny_newObj_type ?_ (by show (List.map _ ps).length≤_;rw [List.length_map,hp.length_eq,List.length_range];exact Nat.le_of_lt (jv hz)))
   have hps:∀ p∈ps,p < es.size:=fun p h=>List.mem_range.mp (hp.mem_iff.mp h)
   have hvp:(ps.map fun p=>(es.getD p (0,.none)).2).Perm (es.toList.map (·.2)):=by
    have h1:=hp.map fun p=>(es.getD p (0,.none)).2
    have e:((List.range es.size).map fun p=>(es.getD p (0,Value.none)).2)=es.toList.map (·.2):=by
     apply List.ext_getElem
     ·simp
     ·intro i h1 h2
      have hi:i < es.size:=by simpa using h1
      simp [hi]
    rw [e] at h1
    exact h1
   have lt:∀ o:Obj,s.heap.objs.size < (s.heap.push o).objs.size:=fun o=>by rw [size_push'];exact Nat.lt_succ_self _
   refine fin (.ref s.heap.objs.size) _ (ps.map fun p=>(es.getD p (0,.none)).2) (Heap.get?_push_of_some _ ha) hvp (fun b o e=>Heap.get?_push_of_some _ e) rfl rfl rfl (Nat.le_of_lt (lt _)) fun h' I k eI hI=>?_
   refine ⟨k _ _ (Heap.get?_push_of_some _ ha),.inr (.inl ⟨hb,s.heap.objs.size,ps,hI,k _ _ (Heap.get?_push_size _ rfl),?_,hps,rfl⟩)⟩
   rw [← eI]
   exact Nat.ne_of_lt (lt _)
  | false=>
   rw [if_neg (by simp)]
   refine wpAny_bind (wpAny_pure ?_)
   refine fin (rawInt 0) s (es.toList.map (·.2)) ha (List.Perm.refl _) (fun _ _ e=>e) rfl rfl rfl (Nat.le_refl _) fun h' I k _ hI=>?_
   refine ⟨k _ _ ha,.inr (.inr ⟨hb,hd,0,hI,?_,rfl⟩)⟩
   obtain ⟨b1,b2,b3⟩:=Kg ht.up 0
   rcases Nat.eq_zero_or_pos (SetTable.below t.place 0) with z | z
   ·exact z
   ·exact absurd (b2 0 z) (Nat.not_lt_zero _)
theorem Zr {S I a:Addr} {es:Array (Int×Value)} {ep:Nat} {t:SetTable} {vals:List Value} {res:Value} {R:Result→Shared→Prop} (hh:A.handled=none) (hf:t.fits es.size=true) (ht:TabOk (ledOf w) t) (hIa:a≠I) (hSI:S≠I) (hz:vals.length≤1000) :
  ∀ (k i:Nat) (s:Shared) (c:Nat),i+k=vals.length→ItSt w s.heap I a es ep t vals i→s.heap.get? S=some { cls:=.type "list",dict:=none,data:=.seq (vals.take i).toArray c,slots:=#[] }→
   (∀ h' c',h'.get? S=some { cls:=.type "list",dict:=none,data:=.seq vals.toArray c',slots:=#[] }→(∀ b o,b≠S→b≠I→s.heap.get? b=some o→h'.get? b=some o)→R (.ok (.ret res)) { s with heap:=h' })→
   codeAny (model prog w) A (.builtin "list.extend.loop" ⟨[.ref S,.ref I,res],[]⟩) R s:=by
 intro k
 induction k with
 | zero=>
  intro i s c hk hst hS hR
  have hi:i=vals.length:=by omega
  refine codeAny_builtin PySem.F.entry_extend_loop ?_
  rw [Around.under_plainId PySem.F.plain_extend_loop _]
  show wpAny _ A.in1 (pyNext (.ref I) >>= _) _ _ s
  refine wpAny_bind (jdq (A:=A.in1) hh hf ht hIa hst hi fun h1 k1=>?_)
  refine wpAny_pure ?_
  rw [hi,List.take_length] at hS
  exact hR h1 c (k1 _ _ hSI hS) fun b o _ hb e=>k1 _ _ hb e
 | succ k ih=>
  intro i s c hk hst hS hR
  have hi:i < vals.length:=by omega
  refine codeAny_builtin PySem.F.entry_extend_loop ?_
  rw [Around.under_plainId PySem.F.plain_extend_loop _]
  show wpAny _ A.in1 (pyNext (.ref I) >>= _) _ _ s
  refine wpAny_bind (jbG (A:=A.in1) hf ht hIa hst hi fun h1 st1 k1=>?_)
  dsimp only
  have hS1:=k1 _ _ hSI hS
  refine wpAny_bind ?_
  show wpAny _ _ (updateSeq S (·.push (vals.getD i Value.none))) _ _ _
  refine wpAny_updateSeq hS1 rfl ?_ (by simp only [List.size_toArray,List.length_take];exact Nat.le_of_lt (jv (by omega))) (by simp only [Array.size_push,List.size_toArray,List.length_take];exact Nat.le_succ_of_le (Nat.le_of_lt (jv (by omega))))
  refine wpAny_pure ⟨plainId_quiet PySem.F.plain_extend_loop _,?_⟩
  obtain ⟨c2,hS2⟩:∃ c2,(h1.update S (Obj.mapSeq (·.push (vals.getD i Value.none)))).get? S=some (seqObj "list" ((vals.take i).toArray.push (vals.getD i Value.none)) c2):=⟨_,get?_update_seq hS1 _⟩
  have oth:∀ b o,b≠S→h1.get? b=some o→(h1.update S (Obj.mapSeq (·.push (vals.getD i Value.none)))).get? b=some o:=fun b o hb e=>(Heap.get?_update_other _ _ (Ne.symm hb)).trans e
  have et:((vals.take i).toArray.push (vals.getD i Value.none))=(vals.take (i+1)).toArray:=by
   rw [List.take_succ,List.getElem?_eq_getElem hi]
   simp [hi]
  rw [et] at hS2
  refine ih (i+1) _ c2 (by omega) (st1.kept fun b o e hc=>oth b o (fun z=>?_) e) hS2 fun h' c' e1 e2=>hR h' c' e1 fun b o hb hb2 e=>e2 b o hb hb2 (oth b o hb (k1 _ _ hb2 e))
  rw [z,hS1] at e
  cases e
  exact hc rfl
end
open PySem PySem.Spec PySem.Calls PyProof.Rows PySem.W
section
variable {prog:Program} {w:World} {A:Around} {E:Value→Shared→Prop} {s:Shared}
theorem jdC {r:Addr} {Q:Bool→Shared→Prop} (hT:s.TypeIs (.ref r) "set") (h:Q false s):wpAny (model prog w) A (Builtin.List.listLengthHint (.ref r)) Q E s:=by
 unfold Builtin.List.listLengthHint
 refine wpAny_bind (wpAny_specialOf hT PySem.F.slot_set_len.lookup ?_)
 generalize hid:("set.__len__" : String)=id0
 wp_delta
 rw [show splitId id0=some ("set","__len__") from by subst hid;decide +kernel]
 subst hid
 refine wpAny_bind (wpAny_isInstance (T:="set") (b:=true) hT (by rw [isSubtype_type];kernel_rfl) ?_)
 refine wpAny_ite_split (fun hab=>absurd hab (by decide)) (fun _=>?_)
 refine wpAny_ite_split (fun _=>?_) (fun hab=>absurd (by decide +kernel) hab)
 exact wpAny_bind (wpAny_typeOf hT (wpAny_pure h))
theorem ZB {a:Addr} {es:Array (Int×Value)} {ep:Nat} {t:SetTable} {R:List Value→Shared→Prop} (hh:A.handled=none) (ha:s.heap.get? a=some (j6 es ep t)) (hf:t.fits es.size=true) (ht:TabOk (ledOf w) t) (hz:es.size≤1000)
  (h:∀ h' d' vals,vals.Perm (es.toList.map (·.2))→(∀ b o,s.heap.get? b=some o→h'.get? b=some o)→R vals { s with heap:=h',drawn:=d' }):wpAny (model prog w) A (collect (.ref a)) R E s:=by
 have haS:a < s.heap.objs.size:=Heap.lt_size ha
 unfold collect
 refine wpAny_bind (wpAny_runValue (codeAny_builtin entry_proto_collect' ?_))
 rw [Around.under_plainId PySem.F.plain_proto_collect _]
 show wpAny _ A.in1 (newList [] >>= fun l=>again (.builtin "list.__iadd__" ⟨[l,.ref a],[]⟩)) _ _ s
 refine wpAny_bind (wpAny_newObj_type ?_)
 refine wpAny_pure ⟨plainId_quiet PySem.F.plain_list_iadd _,codeAny_builtin entry_list_iadd' ?_⟩
 rw [Around.under_plainId PySem.F.plain_list_iadd _]
 show wpAny _ A.in1 (Builtin.List.listExtendWith (.ref s.heap.objs.size) (.ref a) (.ref s.heap.objs.size)) _ _ _
 have hS:(s.heap.push { cls:=.type "list",data:=.seq ([]:List Value).toArray }).get? s.heap.objs.size=some { cls:=.type "list",data:=.seq #[] }:=Heap.get?_push_size _ rfl
 have ha1:(s.heap.push { cls:=.type "list",data:=.seq ([]:List Value).toArray }).get? a=some (j6 es ep t):=Heap.get?_push_of_some _ ha
 have old1:∀ b o,s.heap.get? b=some o→(s.heap.push { cls:=.type "list",data:=.seq ([]:List Value).toArray }).get? b=some o:=fun b o e=>Heap.get?_push_of_some _ e
 have sz1:s.heap.objs.size < (s.heap.push { cls:=.type "list",data:=.seq ([]:List Value).toArray }).objs.size:=Heap.lt_size hS
 generalize (s.heap.push { cls:=.type "list",data:=.seq ([]:List Value).toArray })=h1 at *
 unfold Builtin.List.listExtendWith
 refine wpAny_bind (wpAny_typeOf (T:="set") ⟨_,ha1,rfl⟩ ?_)
 have e1:Builtin.List.listSameRef (.ref s.heap.objs.size) (.ref a)=false:=by
  have:s.heap.objs.size≠a:=Nat.ne_of_gt haS
  simp [Builtin.List.listSameRef,this]
 rw [if_neg (by rw [e1];decide)]
 refine wpAny_bind (jdA (A:=A.in1) (s:={ s with heap:=h1 }) ha1 hf ht hz fun I h2 d2 vals hI st hp old2=>?_)
 have ha2:=old2 _ _ ha1
 have hS2:=old2 _ _ hS
 have hSI:s.heap.objs.size≠I:=Nat.ne_of_lt (Nat.lt_of_lt_of_le sz1 hI)
 have hIa:a≠I:=Nat.ne_of_lt (Nat.lt_of_lt_of_le (Nat.lt_trans haS sz1) hI)
 have hvz:vals.length≤1000:=by
  rw [hp.length_eq,List.length_map,Array.length_toList]
  exact hz
 refine wpAny_bind (wpAny_holding (jdC ⟨_,ha2,rfl⟩ ?_))
 refine wpAny_ite_split (fun _=>?_) (fun _=>?_)
 ·refine wpAny_bind (wpAny_rule (wpAny_bind ?_))
  show wpAny _ _ (updateSeq s.heap.objs.size (·.push .none) >>= fun _=>updateSeq s.heap.objs.size (·.pop)) _ _ _
  refine wpAny_bind (wpAny_updateSeq hS2 rfl ?_ (by decide) (by show 1≤sizeLine+1;omega))
  obtain ⟨c3,hS3⟩:∃ c3,(h2.update s.heap.objs.size (Obj.mapSeq (·.push Value.none))).get? s.heap.objs.size=some (seqObj "list" (#[].push Value.none) c3):=⟨_,get?_update_seq hS2 _⟩
  refine wpAny_updateSeq hS3 rfl ?_ (by show 1≤sizeLine;rw [sizeLine_eq];decide) (by show 0≤sizeLine+1;omega)
  obtain ⟨c4,hS4⟩:∃ c4,((h2.update s.heap.objs.size (Obj.mapSeq (·.push Value.none))).update s.heap.objs.size (Obj.mapSeq (·.pop))).get? s.heap.objs.size=some (seqObj "list" ((#[].push Value.none).pop) c4):=⟨_,get?_update_seq hS3 _⟩
  have oth:∀ b o,b≠s.heap.objs.size→h2.get? b=some o→((h2.update s.heap.objs.size (Obj.mapSeq (·.push Value.none))).update s.heap.objs.size (Obj.mapSeq (·.pop))).get? b=some o:=fun b o hb e=>(Heap.get?_update_other _ _ (Ne.symm hb)).trans ((Heap.get?_update_other _ _ (Ne.symm hb)).trans e)
  refine wpAny_pure ⟨plainId_quiet PySem.F.plain_extend_loop _,Zr hh hf ht hIa hSI hvz vals.length 0 _ c4 (by omega) (st.kept fun b o e hc=>oth b o (fun z=>?_) e) hS4 fun h' c' e k=>?_⟩
  ·rw [z,hS2] at e
   cases e
   exact hc rfl
  ·show wpAny _ A (load s.heap.objs.size >>= _) _ _ _
   refine wpAny_bind (wpAny_load e (wpAny_pure ?_))
   refine h h' d2 vals hp fun b o q=>?_
   have hb:=Heap.lt_size q
   exact k b o (Nat.ne_of_lt hb) (Nat.ne_of_lt (Nat.lt_of_lt_of_le (Nat.lt_trans hb sz1) hI)) (oth b o (Nat.ne_of_lt hb) (old2 _ _ (old1 _ _ q)))
 ·refine wpAny_pure ⟨plainId_quiet PySem.F.plain_extend_loop _,Zr hh hf ht hIa hSI hvz vals.length 0 _ _ (by omega) st hS2 fun h' c' e k=>?_⟩
  show wpAny _ A (load s.heap.objs.size >>= _) _ _ _
  refine wpAny_bind (wpAny_load e (wpAny_pure ?_))
  refine h h' d2 vals hp fun b o q=>?_
  have hb:=Heap.lt_size q
  exact k b o (Nat.ne_of_lt hb) (Nat.ne_of_lt (Nat.lt_of_lt_of_le (Nat.lt_trans hb sz1) hI)) (old2 _ _ (old1 _ _ q))
end
theorem Inv.drawn {X:Cx} {pins:List (Addr×Obj)} {σ:St} {H:Hp} {s:Shared} {h':Heap} {d':Drawn} (I:Inv X pins σ H s) (k:∀ b u,s.heap.get? b=some u→h'.get? b=some u):Inv X pins σ H { s with heap:=h',drawn:=d' }:=
 I.call (g':=s.gens) (t':=s.toks) (d':=d') (ch:=[]) (Un.kept k) (I.hok.kept k) I.bare fun _ z=>nomatch z
theorem jbW {X:Cx} {scope:Scope} {own:List Str} {fr:List Nat} {elt tg iter:Expr} {ifs:List Expr} {pos:Pos} {wi:TI} {g:TG} {tt:TT} {te:TE} {use:Option (Value→Sem Unit)} (hc:X.calm=true) (O:CompOk X scope fr) (hi:PI X tg iter wi)
  (hb:∀ s H ex,PG (blk X scope own fr s H ex) tg g∧PTs (blk X scope own fr s H ex) ifs tt∧PE (blk X scope own fr s H ex) elt te)
  (hs:∀ x,foldedSetIterable iter X.env x=pure x) {pins:List (Addr×Obj)} {s:Shared} {σ:St} {H:Hp} {Q:VK} {R:Value→Shared→Prop} (I:Inv X pins σ H s) (h:Kx own fr wi g tt te σ H Q) (hx:∀ e s',X.xe e s'↔False)
  (fin:∀ (p C:Addr) (H':Hp) (s':Shared) (m:Str→Option Value),s'.heap.Ns C m→H' C=none→C≠X.env.locals→(∀ x c,X.env.cells.lookup x=some c→c≠C)→X.s₀.heap.objs.size≤C→(∀ p∈X.pn++pins,p.1≠C)→Inv X pins σ H' s'→(∀ h',Heap.SameBut C s'.heap h'→Inv X pins σ H' { s' with heap:=h' })→Q (.ref p) H'→
   compPost (model X.prog X.w) X.A X.xe use R (.ref p) C (.ok .next) s') :
  wpAny (model X.prog X.w) X.A (comprehension (.ListComp elt [⟨tg,iter,ifs,0⟩] scope pos) scope X.env (firstIterPos [⟨tg,iter,ifs,0⟩] pos) (newList []) false (eval iter X.env) use) R X.xe s:=by
 have hsome:∀ x∈scope.names,x.2=.free→(X.env.cells.lookup x.1).isSome=true:=fun x hx' e=>by
  obtain ⟨c,hc⟩:=I.ok.has x.1 (O.frees x hx' e)
  rw [hc];rfl
 have no:∀ (E:Value→Shared→Prop) (x:Value) (s':Shared),X.xe x s'→E x s':=fun E x s' z=>((hx x s').mp z).elim
 refine wpAny_comprehension_free (cl:=zG X.env.cells scope.names []) rfl hs (yy hsome) O.kind O.loc ?_
 refine thn (hi pins s σ H _ I h) fun v s1 h1=>thn h1 fun itv s2 h2=>?_
 obtain ⟨it,fp,tn,J,H2,e,I2,T,st2,f2,q2⟩:=h2
 subst e
 refine wpAny_newObj_type ?_
 have nw:H2 s2.heap.objs.size=none:=I2.fresh
 obtain ⟨W,⟨m0,w0⟩,turn⟩:=q2 _ nw
 generalize hp:s2.heap.objs.size=p at *
 have I3:Inv X pins σ (upd H2 p (.lst [])) { s2 with heap:=s2.heap.push { cls:=.type "list",dict:=none,data:=.seq ([]:List Value).toArray } }:=by
  have:=I2.lnew (ys:=[]) (its:=[]) (t':=s2.toks) .nil (Nat.zero_le _)
  rw [hp] at this
  exact this
 have lt2:∀ b∈fp,b < s2.heap.objs.size:=fun b hb=>by
  obtain ⟨o,ho,_⟩:=T.obj _ _ st2 b hb
  exact Heap.lt_size ho
 have fpn:∀ b∈fp,(upd H2 p (.lst [])) b=none:=fun b hb=>by
  rw [jr (by rw [← hp];exact Nat.ne_of_lt (lt2 b hb))]
  exact (f2 b hb).1
 generalize hs3:({ s2 with heap:=s2.heap.push { cls:=.type "list",dict:=none,data:=.seq ([]:List Value).toArray } }:Shared)=s3 at *
 have sz3:s3.heap.objs.size=p+1:=by
  rw [← hs3]
  show (s2.heap.push _).objs.size=_
  rw [Heap.size_push,hp]
 have st3:tn 0 s3.heap:=T.keep 0 _ _ st2 fun b hb o e=>by
  rw [← hs3]
  exact Heap.get?_push_of_some _ e
 refine wpAny_newFunctionEnv O.nocell (by intro y hy;simp at hy) (fun h4 hns4 hsb4=>?_) O.kind
 have k4:∀ b o,s3.heap.get? b=some o→h4.get? b=some o:=fun b o e=>hsb4.extBut b o (Nat.ne_of_lt (Heap.lt_size e)) (Heap.get?_push_of_some _ e)
 have hns4':h4.Ns s3.heap.objs.size fun _=>none:=by
  have z:(fun x:Str=>([]:List (Str×Value)).reverse.lookup x)=fun _=>none:=by funext x;rfl
  rw [z] at hns4
  exact hns4
 have fo:∀ b∈fp,yS X pins (upd H2 p (.lst [])) b∧b < s3.heap.objs.size:=fun b hb=>⟨⟨fpn b hb,(f2 b hb).2⟩,by rw [sz3,← hp];exact Nat.lt_succ_of_lt (lt2 b hb)⟩
 have I4:=YC (own:=own) (fr:=fr) (t1:=s3.toks+([]:List (Str×Value)).length) I3 O fo hns4' k4
 have st4:tn 0 h4:=T.keep 0 _ _ st3 fun b hb o e=>k4 b o e
 obtain ⟨hg,ht,he⟩:=hb s3 (upd H2 p (.lst [])) fp
 have stat:∀ {H':Hp} {pn:List (Addr×Obj)} {s':Shared} {σ':St},Inv (blk X scope own fr s3 (upd H2 p (.lst [])) fp) [] σ' H' s'→(∀ b∈fp,H' b=none)→∀ b∈fp,yS (blk X scope own fr s3 (upd H2 p (.lst [])) fp) [] H' b:=fun {H' pn s' σ'} J hn b hb'=>
  ⟨hn b hb',(J.ok.exf b hb').1,J.ok.exfs b hb',.inl hb',(J.ok.exf b hb').2,fun p hp=>absurd hp (by simp [blk])⟩
 have nocells:∀ x c,X.env.cells.lookup x=some c→c≠s3.heap.objs.size:=fun x c e=>by
  obtain ⟨v,q⟩:=I3.cell x c e
  exact Nat.ne_of_lt q.lt
 have loop:∀ s5:Shared,s5={ s3 with heap:=h4,toks:=s3.toks+([]:List (Str×Value)).length }→
   codeAny (model X.prog X.w) X.A (.compLoop (.ListComp elt [⟨tg,iter,ifs,0⟩] scope pos) 0 (.ref it) (.ref p) (blk X scope own fr s3 (upd H2 p (.lst [])) fp).env) (compPost (model X.prog X.w) X.A X.xe use R (.ref p) s3.heap.objs.size) s5:=by
  rintro s5 rfl
  refine yP (fun n s'=>∃ i σ' H',Inv (blk X scope own fr s3 (upd H2 p (.lst [])) fp) [] σ' H' s'∧tn i s'.heap∧(∀ b∈fp,H' b=none)∧W i n σ' H') ?_ m0 ⟨0,_,_,I4,st4,fpn,w0⟩
  rintro n s6 ⟨i,σ6,H6,I6,st6,fr6,w6⟩
  rcases turn i n σ6 H6 w6 with ⟨stop,qn⟩ | ⟨go,N,hN,step⟩
  ·refine thn (T.done (blk X scope own fr s3 (upd H2 p (.lst [])) fp) rfl rfl rfl hc i [] s6 σ6 H6 _ I6 (stat (pn:=[]) I6 fr6) st6 stop) fun r s7 ⟨hr,I7⟩=>?_
   subst hr
   obtain ⟨m,hm,_⟩:=I7.loc
   exact fin p _ H6 s7 m hm I7.free (Nat.ne_of_gt I3.lt) nocells I3.sz (fun p hp=>Nat.ne_of_lt (Heap.lt_size (I3.pin p hp).1)) (zg I3 fo I7 (Heap.SameBut.refl ..)) (fun h' hs'=>zg I3 fo I7 hs') qn
  ·refine thn (T.item (blk X scope own fr s3 (upd H2 p (.lst [])) fp) rfl rfl rfl hc i [] s6 σ6 H6 _ I6 (stat (pn:=[]) I6 fr6) st6 go) fun r s7 ⟨u,hr,h7⟩=>?_
   subst hr
   refine thn h7 fun _ s8 ⟨x,H8,I8,r8,y8,st8,fr8⟩=>?_
   have I8':=I8.pinned (stat (pn:=[]) I8 fr8) (T.obj _ _ st8)
   refine thn (hg _ s8 σ6 H8 x u _ I8' r8 (step x H8 y8)) fun _ s9 ⟨σ9,H9,I9,q9⟩=>?_
   refine thn (ht _ s9 σ9 H9 _ I9 q9) fun ok s10 ⟨H10,I10,q10⟩=>?_
   have again:∀ {H11:Hp} {s11:Shared},Inv (blk X scope own fr s3 (upd H2 p (.lst [])) fp) ([]++zu fp s8.heap) σ9 H11 s11→(∃ m',m' < n∧W (i+1) m' σ9 H11)→
     ∃ m,m < n∧∃ i σ' H',Inv (blk X scope own fr s3 (upd H2 p (.lst [])) fp) [] σ' H' s11∧tn i s11.heap∧(∀ b∈fp,H' b=none)∧W i m σ' H':=fun {H11 s11} I11 ⟨m',hm,w11⟩=>by
    refine ⟨m',hm,i+1,σ9,H11,I11.unpinned,T.keep _ _ _ st8 fun b hb' o e=>(I11.pin (b,o) (List.mem_append_right _ (List.mem_append_right _ (kN hb' e)))).1,fun b hb'=>?_,w11⟩
    obtain ⟨o,e,d⟩:=T.obj _ _ st8 b hb'
    exact (I11.pin (b,o) (List.mem_append_right _ (List.mem_append_right _ (kN hb' e)))).2.1
   cases ok with
   | false=>
    rw [if_neg Bool.false_ne_true] at q10 ⊢
    exact again I10 (hN _ _ q10)
   | true=>
    rw [if_pos rfl] at q10 ⊢
    refine thn (he _ s10 σ9 H10 _ I10 q10) fun yv s11 ⟨y,H11,I11,r11,ys,hys,hlen,q11⟩=>?_
    have ap:=jQ (X:=blk X scope own fr s3 (upd H2 p (.lst [])) fp) ([]++zu fp s8.heap) s11 σ9 H11 (.ref p) [y] (.ref p) [yv] (fun _ H12=>∃ m',m' < n∧W (i+1) m' σ9 H12) I11 rfl (.cons r11 .nil) ⟨p,ys,y,rfl,rfl,hys,hlen,hN _ _ q11⟩
    exact thn ap fun _ s12 ⟨_,H12,I12,_,q12⟩=>again I12 q12
 refine codeAny_compStart_list (loop _ rfl) (T.self X.A 0 _ _ _ st4 (loop _ rfl))
theorem ZR {X:Cx} {scope:Scope} {elt tg iter:Expr} {ifs:List Expr} {pos:Pos} {wi:TI} {g:TG} {tt:TT} {te:TE} {i:Nat} {y:Str} {py spos:Pos} (hN:X.N.Nodup) (hi':X.N[i]?=some y) (hy:Loc X.env.scope y) (own:List Str) (fr:List Nat) (hc:X.calm=true) (O:CompOk X scope fr) (hi:PI X.nox tg iter wi)
  (hb:∀ s H ex,PG (blk X.nox scope own fr s H ex) tg g∧PTs (blk X.nox scope own fr s H ex) ifs tt∧PE (blk X.nox scope own fr s H ex) elt te)
  (hs:∀ x,foldedSetIterable iter X.env x=pure x:=by intro _;rfl)
  (hsw:swapsWith (.ListComp elt [⟨tg,iter,ifs,0⟩] scope pos) (some (.Name y py)) spos.line X.env=pure true:=by rfl)
  (hf:X.fn y=true∨X.env.scope.names.lookup y=some .local:=by first | exact .inl rfl | exact .inr rfl | assumption) :
  PS X.nox (.Assign [.Name y py] (.ListComp elt [⟨tg,iter,ifs,0⟩] scope pos) spos) (jbm (Kx own fr wi g tt te) (kX i)):=by
 intro pins s σ H D I h
 rw [exec_Assign_Name_used _ _ _ _ hsw]
 refine wpAny_bind (wpAny_standAt (wpAny_bind ?_))
 show wpAny _ _ (do let _ ← comprehension (.ListComp elt [⟨tg,iter,ifs,0⟩] scope pos) scope X.nox.env _ (newList []) false (eval iter X.nox.env) (some (assign (.Name y py) X.nox.env))) _ _ s
 refine wpAny_bind (wpAny_mono (jbW (X:=X.nox) (use:=some (assign (.Name y py) X.nox.env)) (R:=fun _ s'=>SP X.nox pins D .next s') hc ⟨O.kind,O.nocell,O.loc,O.frees,O.fr⟩ hi hb hs I h (fun _ _=>Iff.rfl)
  fun p C H' s' m hm hC hL hcs hz hpn I' back q=>?_) (fun _ s' hq=>wpAny_pure (wpAny_pure hq)) fun _ _ e=>e)
 show wpAny _ _ (assign (.Name y py) X.nox.env (.ref p)) _ _ _
 refine wpAny_assign_Name (Kz (v:=.ref p) I' hN hi' hy rfl (fun s2 I2 hsb=>?_) hf)
 obtain ⟨a,hsa,ha⟩:=hsb
 have hCa:C≠a:=by
  rcases ha with rfl | e
  ·exact hL
  ·exact fun z=>hcs _ _ e z.symm
 refine ⟨m,hm.sameBut hsa hCa,fun h' hs'=>?_⟩
 exact ⟨_,H',I2.turned (t':=s2.toks) (fun b o hb e=>(hs'.2 b hb).trans e) hC hL (.inr hz) hcs hpn,q⟩
section
variable {X:Cx} {pins:List (Addr×Obj)} {σ:St} {H:Hp} {s:Shared} {tg:Expr}
theorem Inv.relabel {a:Addr} {u v:HO} (I:Inv X pins σ H s) (hu:H a=some u) (h1:∀ xs,u≠.tup xs) (h2:∀ ps,u≠.tbl ps) (h3:∀ o z,X.H₀ a≠some (.frz o z)) (h4:∀ x,u≠.own x) (hv:ObjOk X.prog X.w (upd H a v) s.heap a v):Inv X pins σ (upd H a v) s:=by
 have ne:∀ b,H b=none→b≠a:=fun b n z=>by rw [z,hu] at n;cases n
 have nt:∀ b xs,H b=some (.tup xs)→b≠a:=fun b xs n z=>by rw [z,hu] at n;exact h1 xs (Option.some.inj n)
 have no:∀ b x,H b=some (.own x)→b≠a:=fun b x n z=>by rw [z,hu] at n;exact h4 x (Option.some.inj n)
 refine ⟨I.ok,I.os,I.bare,⟨I.base.keep,I.base.slot,fun b o e n hx=>?_,I.base.there,fun b xs e=>?_,fun b o z e=>?_,fun b ps e=>?_⟩,I.loc,I.cell,?_,fun x c e=>?_,fun p hp=>?_,fun b o e=>?_,I.len⟩
 ·have q:=I.base.free b o e n hx
  rw [jr (ne b q)];exact q
 ·have q:=I.base.tups b xs e
  rw [jr (nt b xs q)];exact q
 ·have hb:b≠a:=fun z'=>by subst z';exact h3 _ _ e
  rw [jr hb]
  exact I.base.frzs b o z e
 ·obtain ⟨m,q⟩:=I.base.tbls b ps e
  have hb:b≠a:=fun z'=>by rw [z',hu] at q;exact h2 _ (Option.some.inj q)
  exact ⟨m,by rw [jr hb];exact q⟩
 ·rw [jr (ne _ I.free)];exact I.free
 ·rw [jr (ne _ (I.freeC x c e))];exact I.freeC x c e
 ·obtain ⟨q1,q2,q3⟩:=I.pin p hp
  exact ⟨q1,by rw [jr (ne _ q2)];exact q2,q3⟩
 ·by_cases hb:b=a
  ·subst hb
   rw [jb] at e
   cases e
   exact hv
  ·rw [jr hb] at e
   exact (I.hok b o e).stay (fun _ _ _ q=>q) (fun c q=>by rw [jr (no c _ q)];exact q) fun c xs q=>by rw [jr (nt c xs q)];exact q
end
theorem yQ:bootBuiltins "enumerate" = some (.type "enumerate"):=by decide +kernel
def Ite (K:PySem.W.Frag) (l:Addr):It:=
 ⟨fun i H=>∃ xs x,SqL K H l xs∧xs[i]?=some x,fun i H x H'=>∃ t y,H t=none∧(∀ xs,SqL K H l xs→xs[i]?=some y)∧x=.ref t∧H'=upd H t (.tup [.int i,y]),fun i H=>∃ xs,SqL K H l xs∧xs.length≤i⟩
theorem jbl {P:Program} {w:World} {K:PySem.W.Frag} {elts:List Expr} {x1:Nat} {tp:Pos} (l e it:Addr) (hne:e≠it):Turn P w K (.Tuple elts x1 tp) (Ite K l) [e,it] e (fun i h=>(∃ old,IsEnum h e it i old)∧h.IsListIter it l i) where
 mem:=by simp
 obj:=fun i h st b hb=>by
  obtain ⟨⟨old,h1⟩,o,e2,c,d⟩:=st
  rcases List.mem_cons.mp hb with rfl | hb
  ·exact ⟨_,h1,fun v z=>by cases z⟩
  ·rw [List.mem_singleton.mp hb]
   exact ⟨o,e2,fun v z=>by rw [d] at z;cases z⟩
 keep:=fun i h h' st k=>by
  obtain ⟨⟨old,h1⟩,o,e2,c,d⟩:=st
  exact ⟨⟨old,k e (by simp) _ h1⟩,o,k it (by simp) o e2,c,d⟩
 item:=by
  intro X hP hw hK hc i pins s σ H E I hf st hg
  subst hP hw hK
  obtain ⟨xs,x,hq,hx⟩:=hg
  obtain ⟨⟨old,hE⟩,hit⟩:=st
  obtain ⟨its,rv,p,hz⟩:=I.list hq
  obtain ⟨u,hu,ru⟩:=rv.get hx
  obtain ⟨a0,a1,a2,a3,a4,a5⟩:=hf e (by simp)
  obtain ⟨f0,f1,f2,f3,f4,f5⟩:=hf it (by simp)
  refine wpAny_pyNext_enum_item hE hit p.isList (x:=u) (by simpa using hu) hne fun h' o1 o2 o3 o4 o5=>?_
  refine ⟨_,rfl,wpAny_letOwnedTupleGo_enum (s:={ s with heap:=h',toks:=s.toks+1 }) o1 fun h2 g1 g2=>?_⟩
  have hfr:H s.heap.objs.size=none:=I.hok.fresh (Nat.le_refl _)
  have kp:∀ b o,b≠e→b≠it→s.heap.get? b=some o→h2.get? b=some o:=fun b o hb hb' q=>(g2.2 b hb).trans (o5 b o hb hb' q)
  have nt:∀ b o,s.heap.get? b=some o→b≠s.heap.objs.size:=fun b o q=>Nat.ne_of_lt (Heap.lt_size q)
  have ne:∀ b z,H b=some z→b≠e∧b≠it:=fun b z q=>⟨fun t=>(by rw [t,a0] at q;cases q),fun t=>(by rw [t,f0] at q;cases q)⟩
  have het:s.heap.objs.size≠e:=fun z=>absurd (Heap.lt_size hE) (by rw [← z];exact Nat.lt_irrefl _)
  have I1:Inv X pins σ (upd H s.heap.objs.size (.tup [.int i,x])) { s with heap:=h2,gens:=s.gens,drawn:=s.drawn,toks:=s.toks+1 }:=by
   refine I.step (g':=s.gens) (d':=s.drawn) (ch:=[e,it]) (fun b hb=>?_) (fun b o _ _ hc' q _=>kp b o (fun z=>hc' (by simp [z])) (fun z=>hc' (by simp [z])) q) (fun b o _ _ hc' q _=>⟨o.slots,kp b o (fun z=>hc' (by simp [z])) (fun z=>hc' (by simp [z])) q⟩)
    (fun b o _ q n=>by rw [jr (nt b o q)];exact n) (fun b o hc' q=>⟨o,kp b o (fun z=>hc' (by simp [z])) (fun z=>hc' (by simp [z])) q⟩) (fun b ys q=>by rw [jr (jn q hfr)];exact q) (fun b o z q=>by rw [jr (jn q hfr)];exact q)
    (fun b ps q=>⟨#[],by rw [jr (jn q hfr),q];simp⟩) (fun m hm=>?_) (fun b z q=>?_) I.bare
   ·rcases List.mem_cons.mp hb with rfl | hb
    ·exact ⟨a3,a1,a4,a5⟩
    ·rw [List.mem_singleton.mp hb];exact ⟨f3,f1,f4,f5⟩
   ·obtain ⟨o,es,ep,ho,r⟩:=hm
    exact ⟨o,es,ep,kp _ o (Ne.symm a1) (Ne.symm f1) ho,r⟩
   ·by_cases hb:b=s.heap.objs.size
    ·subst hb
     rw [jb] at q
     cases q
     refine ⟨?_,[Value.int (i:Int) s.toks,u],.cons ⟨_,rfl⟩ (.cons ru .nil),_,(g2.2 _ het).trans o3,rfl,0,rfl⟩
     show 2≤sizeLine
     rw [sizeLine_eq]
     decide
    ·rw [jr hb] at q
     refine (I.hok b z q).stay (fun c v hc' q'=>?_) (fun c q'=>by rw [jr (jn q' hfr)];exact q') fun c ys q'=>by rw [jr (jn q' hfr)];exact q'
     rcases hc' with rfl | hc'
     ·exact kp c v (ne c z q).1 (ne c z q).2 q'
     ·exact kp c v (ne c _ hc').1 (ne c _ hc').2 q'
  refine ⟨.ref s.heap.objs.size,_,I1,rfl,⟨_,x,hfr,fun ys hy=>by rw [I.list_inj hy hq];exact hx,rfl,rfl⟩,⟨⟨_,g1⟩,?_⟩,fun b hb=>?_⟩
  ·obtain ⟨o,z1,z2,z3⟩:=o2
   exact ⟨o,(g2.2 it (Ne.symm hne)).trans z1,z2,z3⟩
  ·rcases List.mem_cons.mp hb with rfl | hb
   ·rw [jr (Ne.symm het)];exact a0
   ·rw [List.mem_singleton.mp hb]
    have:it≠s.heap.objs.size:=by
     obtain ⟨o,z1,_⟩:=hit
     exact nt it o z1
    rw [jr this];exact f0
 done:=by
  intro X hP hw hK hc i pins s σ H E I hf st hg
  subst hP hw hK
  obtain ⟨xs,hq,hx⟩:=hg
  obtain ⟨⟨old,hE⟩,hit⟩:=st
  obtain ⟨its,rv,p,hz⟩:=I.list hq
  obtain ⟨f0,f1,f2,f3,f4,f5⟩:=hf it (by simp)
  have hl:=rv.length
  exact wpAny_pyNext_enum_end (I.ok.hd hc) hE hit p.isList (by simp;omega) fun h' eb=>⟨rfl,I.turned (t':=s.toks) (fun b o hb e=>eb b o hb e) f0 f1 f3 f4 f5⟩
 self:=fun _ _ _ _ _ st h=>by
  obtain ⟨⟨old,hE⟩,_⟩:=st
  exact wpAny_pyIter_enum hE h
section
variable {X:Cx} {elts:List Expr} {x1:Nat} {tp:Pos}
def jfn (K:PySem.W.Frag) (ta:TA):TI:=fun σ H R=>ta σ H fun vs H1=>∃ l,vs=[.ref l]∧(∃ xs,SqL K H1 l xs)∧R (Ite K l) H1
theorem jer {a:Expr} {ta:TA} {p pos:Pos} (hg:Gl X "enumerate") (hm:X.mg "enumerate" = none) (ha:PA X [a] ta) (hs:starEach [a] X.env=[(false,eval a X.env)]:=by rfl):PI X (.Tuple elts x1 tp) (.Call (.Name "enumerate" p) [a] [] pos) (jfn X.K ta):=by
 intro pins s σ H R I h
 refine Call_ (zx I hg hm yQ (PyProof.Rows.callWith_type1 (thn (ha pos pins s σ H _ I h) fun us s1 ⟨vs,H1,I1,r1,q1⟩=>?_) hs rfl))
 obtain ⟨l,e,⟨xs,hq⟩,q⟩:=q1
 subst e
 obtain ⟨u,rfl,rx⟩:=Jf r1
 cases rx
 obtain ⟨its,rv,pl,hz⟩:=I1.list hq
 refine call_enumerate_list pl.isList fun h' g1 g2 g3 g4=>?_
 refine wpAny_pyIter_enum (s:={ s1 with heap:=h' }) g1 ?_
 have I2:Inv X pins σ H1 { s1 with heap:=h' }:=I1.kept (t':=s1.toks) g4
 refine ⟨s1.heap.objs.size+1,[s1.heap.objs.size+1,s1.heap.objs.size],_,_,_,rfl,I2,jbl l _ _ (Nat.succ_ne_self _),⟨⟨_,g1⟩,g2⟩,fun b hb=>?_,q⟩
 rcases List.mem_cons.mp hb with rfl | hb
 ·exact I1.fpOk (Nat.le_succ _) (I1.hok.fresh (Nat.le_succ _))
 ·rw [List.mem_singleton.mp hb]
  exact I1.fpOk (Nat.le_refl _) (I1.hok.fresh (Nat.le_refl _))
theorem jdH {K:PySem.W.Frag} {l:Addr} {xs:List V} {g:TG} {tb:TS} {D:Ends} {σ:St} {H:Hp} (Pv:Nat→St→Hp→Prop) (h0:Pv 0 σ H) (hl:∀ i σ H,i≤xs.length→Pv i σ H→SqL K H l xs)
  (hs:∀ i y σ H t,xs[i]?=some y→Pv i σ H→H t=none→g (.ref t) σ (upd H t (.tup [.int i,y])) fun σ2 H2=>tb { D with nx:=Pv (i+1),ct:=Pv (i+1),bk:=D.nx } σ2 H2) (hd:∀ σ H,Pv xs.length σ H→D.nx σ H) :
  ∃ W:Nat→Nat→St→Hp→Prop,(∃ m,W 0 m σ H)∧∀ i m σ H,W i m σ H→
   ((Ite K l).stop i H∧D.nx σ H)∨((Ite K l).go i H∧∃ N:St→Hp→Prop,(∀ σ' H',N σ' H'→∃ m',m' < m∧W (i+1) m' σ' H')∧∀ x H',(Ite K l).yld i H x H'→g x σ H' fun σ2 H2=>tb { D with nx:=N,ct:=N,bk:=D.nx } σ2 H2):=by
 refine ⟨fun i m σ H=>m=xs.length - i∧i≤xs.length∧Pv i σ H,⟨xs.length,by simp,Nat.zero_le _,h0⟩,?_⟩
 rintro i m σ H ⟨rfl,hi,p⟩
 have q:=hl i σ H hi p
 by_cases hlt:i < xs.length
 ·refine .inr ⟨⟨xs,xs[i],q,by simp [hlt]⟩,Pv (i+1),fun σ' H' p'=>⟨xs.length - (i+1),by omega,rfl,hlt,p'⟩,fun x H' y=>?_⟩
  obtain ⟨t,z,ht,hz,rfl,rfl⟩:=y
  exact hs i z σ H t (hz xs q) p ht
 ·have:i=xs.length:=by omega
  subst this
  exact .inl ⟨⟨xs,q,Nat.le_refl _⟩,hd σ H p⟩
end
end L2
namespace PySem
open AutoSeq1 (wpAny_loadPart')
section
variable {prog:Program} {w:World} {A:Around} {E:Value→Shared→Prop} {s:Shared}
theorem kL {it t:Addr} {i:Nat} {items} {x:Value} {Q:Value→Shared→Prop} (hit:s.heap.IsTupleIter it t i) (ht:s.heap.IsTuple t items) (hx:items[i]?=some x)
  (hQ:∀ h',h'.IsTupleIter it t (i+1)→Heap.SameBut it s.heap h'→Q x { s with heap:=h' }):wpAny (model prog w) A (Builtin.SmallTypes.nextOf (.ref it)) Q E s:=by
 obtain ⟨o,ho,hc,hd⟩:=id hit
 obtain ⟨ol,hol,_,nl,hdl⟩:=ht
 unfold Builtin.SmallTypes.nextOf
 refine wpAny_bind (wpAny_callSpecial?_slot (name:=Str.ofString "__next__") hit.typeIs F.slot_tuple_iterator_next (wpAny_call_entry F.slot_tuple_iterator_next hit.typeIs F.entry_tuple_iterator_next ?_ (F.args_tuple_iterator_next_1 _)))
 show wpAny _ _ (field (.ref it) 0 >>= _) _ _ s
 refine wpAny_bind (wpAny_field ho hd (x:=.ref t) rfl ?_)
 show wpAny _ _ (if (Value.ref t == Value.none)=true then _ else _) _ _ s
 rw [if_neg (show ¬ ((Value.ref t == Value.none)=true) from Bool.false_ne_true)]
 show wpAny _ _ (field (.ref it) 1 >>= _) _ _ s
 refine wpAny_bind (wpAny_field ho hd (x:=.int i 0) rfl ?_)
 show wpAny _ _ (seqItems? (.ref t) >>= _) _ _ s
 refine wpAny_bind (wpAny_seqItems hol hdl ?_)
 simp only [Int.toNat_natCast,hx]
 refine wpAny_bind (wpAny_setField ho hd (by simp) (wpAny_pure ⟨x,rfl,wpAny_pure (hQ _ ?_ (Heap.SameBut.update ..))⟩))
 exact ⟨_,Heap.get?_update_self _ ho (Obj.isFreed_of_fields (Obj.data_mapFields hd _)),(Obj.cls_mapFields ..).trans hc,by rw [Obj.data_mapFields hd];simp [rawInt]⟩
theorem qK {it t:Addr} {i:Nat} {items} {Q:Value→Shared→Prop} (hh:A.handled=none) (hit:s.heap.IsTupleIter it t i) (ht:s.heap.IsTuple t items) (hx:items[i]?=none)
  (hE:∀ h' e,Heap.ExtBut it s.heap h'→(∃ o,h'.get? e=some o∧o.cls=.type "StopIteration")→E (.ref e) { s with heap:=h' }):wpAny (model prog w) A (Builtin.SmallTypes.nextOf (.ref it)) Q E s:=by
 obtain ⟨o,ho,hc,hd⟩:=id hit
 obtain ⟨ol,hol,_,nl,hdl⟩:=ht
 unfold Builtin.SmallTypes.nextOf
 refine wpAny_bind (wpAny_callSpecial?_slot (name:=Str.ofString "__next__") hit.typeIs F.slot_tuple_iterator_next (wpAny_call_entry F.slot_tuple_iterator_next hit.typeIs F.entry_tuple_iterator_next ?_ (F.args_tuple_iterator_next_1 _)))
 show wpAny _ _ (field (.ref it) 0 >>= _) _ _ s
 refine wpAny_bind (wpAny_field ho hd (x:=.ref t) rfl ?_)
 show wpAny _ _ (if (Value.ref t == Value.none)=true then _ else _) _ _ s
 rw [if_neg (show ¬ ((Value.ref t == Value.none)=true) from Bool.false_ne_true)]
 show wpAny _ _ (field (.ref it) 1 >>= _) _ _ s
 refine wpAny_bind (wpAny_field ho hd (x:=.int i 0) rfl ?_)
 show wpAny _ _ (seqItems? (.ref t) >>= _) _ _ s
 refine wpAny_bind (wpAny_seqItems hol hdl ?_)
 simp only [Int.toNat_natCast,hx]
 refine wpAny_bind (wpAny_rule (wpAny_bind (wpAny_setField ho hd (by simp) ?_)))
 show wpAny _ _ (newExc (.type "StopIteration") [] >>= _) _ _ _
 refine wpAny_bind ?_
 simp only [newExc,newTuple]
 refine wpAny_bind (wpAny_newObj_type ?_ (by size_fits))
 refine wpAny_bind (m:=firstArgMember _ _) (wpAny_of_eq (a:=Value.none) (by first | rfl | (simp only [firstArgMember];rfl)) ?_)
 refine wpAny_newObj_type ?_ (by size_fits)
 simp only [raiseNew]
 refine wpAny_bind (wpAny_handled ?_)
 first | rw [show A.in1.handled=none from hh] | rw [hh]
 refine wpAny_bind (wpAny_pure (wpAny_throw ?_))
 exact hE _ _ (((Heap.SameBut.update ..).extBut.push _).push _) ⟨_,Heap.get?_push_size _ rfl,rfl⟩
theorem jbR {e it:Addr} {i:Nat} {x old:Value} {Q:Value→Shared→Prop} {St:Heap→Prop} (he:IsEnum s.heap e it i old) (hne:e≠it)
  (hin:∀ Q':Value→Shared→Prop,(∀ h',St h'→Heap.SameBut it s.heap h'→Q' x { s with heap:=h' })→wpAny (model prog w) A (Builtin.SmallTypes.nextOf (.ref it)) Q' E s)
  (keep:∀ h h',St h→(∀ o,h.get? it=some o→h'.get? it=some o)→St h')
  (hQ:∀ h',IsEnumOut h' e it ((i:Int)+1) x s.heap.objs.size→St h'→h'.get? s.heap.objs.size=some { cls:=.type "tuple",data:=.seq #[.int i s.toks,x] }→h'.objs.size=s.heap.objs.size+1→
   (∀ b o,b≠e→b≠it→s.heap.get? b=some o→h'.get? b=some o)→Q (.ref s.heap.objs.size) { s with heap:=h',toks:=s.toks+1 }) :
  wpAny (model prog w) A (Builtin.«enumerate.__next__» ⟨[.ref e],[]⟩) (fun fin s'=>∃ v,fin=.done (.ret v)∧Q v s') E s:=by
 obtain ⟨hp,g,d,tk,os⟩:=s
 show wpAny _ _ (field (.ref e) 2 >>= _) _ _ _
 refine wpAny_bind (wpAny_field he rfl (x:=.ref it) rfl ?_)
 refine wpAny_bind (hin _ fun h1 st1 b1=>?_)
 replace b1:Heap.SameBut it hp h1:=b1
 have e1:IsEnum h1 e it i old:=(b1.2 e hne).trans he
 show wpAny _ _ (field (.ref e) 3 >>= _) _ _ ⟨h1,g,d,tk,os⟩
 refine wpAny_bind (wpAny_field e1 rfl (x:=rawInt i) rfl ?_)
 show wpAny _ _ (field (.ref e) 4 >>= _) _ _ ⟨h1,g,d,tk,os⟩
 refine wpAny_bind (wpAny_field e1 rfl (x:=.none) rfl ?_)
 show wpAny _ _ (mkInt i >>= _) _ _ ⟨h1,g,d,tk,os⟩
 refine wpAny_bind (wpAny_mkInt ?_)
 show wpAny _ _ (setField (.ref e) 3 (rawInt ((i:Int)+1)) >>= _) _ _ ⟨h1,g,d,tk+1,os⟩
 refine wpAny_bind (wpAny_setField_rec e1 (by simp) fun h2 e2 b2=>?_)
 replace b2:Heap.SameBut e h1 h2:=b2
 replace e2:IsEnum h2 e it ((i:Int)+1) old:=e2
 show wpAny _ _ (setField (.ref e) 4 .none >>= _) _ _ ⟨h2,g,d,tk+1,os⟩
 refine wpAny_bind (wpAny_setField_rec e2 (by simp) fun h3 e3 b3=>?_)
 replace b3:Heap.SameBut e h2 h3:=b3
 replace e3:IsEnum h3 e it ((i:Int)+1) old:=e3
 show wpAny _ _ (newTuple [.int i tk,x] >>= _) _ _ ⟨h3,g,d,tk+1,os⟩
 refine wpAny_bind (wpAny_newTuple ?_)
 have hsz:h3.objs.size=hp.objs.size:=by rw [b3.1,b2.1,b1.1]
 have st3:St h3:=keep h1 h3 st1 fun o q=>(b3.2 it (Ne.symm hne)).trans ((b2.2 it (Ne.symm hne)).trans q)
 have e4:IsEnum (h3.push { cls:=.type "tuple",data:=.seq #[.int i tk,x] }) e it ((i:Int)+1) old:=Heap.get?_push_of_some _ e3
 have st4:St (h3.push { cls:=.type "tuple",data:=.seq #[.int i tk,x] }):=keep h3 _ st3 fun o q=>Heap.get?_push_of_some _ q
 have t4:(h3.push { cls:=.type "tuple",data:=.seq #[.int i tk,x] }).get? hp.objs.size=some { cls:=.type "tuple",data:=.seq #[.int i tk,x] }:=by rw [← hsz];exact Heap.get?_push_size _ rfl
 have z4:(h3.push { cls:=.type "tuple",data:=.seq #[.int i tk,x] }).objs.size=hp.objs.size+1:=by rw [Heap.size_push,hsz]
 have k4:∀ b o,b≠e→b≠it→hp.get? b=some o→(h3.push { cls:=.type "tuple",data:=.seq #[.int i tk,x] }).get? b=some o:=fun b o hbe hbi hb=>
  Heap.get?_push_of_some _ (b3.extBut b o hbe (b2.extBut b o hbe (b1.extBut b o hbi hb)))
 have hel:e < hp.objs.size:=Heap.lt_size he
 rw [hsz]
 generalize h3.push { cls:=.type "tuple",data:=.seq #[.int i tk,x] }=h4 at *
 clear e3 b3 e2 b2 e1 b1 st1 st3 hsz
 show wpAny _ _ (Builtin.SmallTypes.ownedTupleIsFree (.ref e) >>= _) _ _ ⟨h4,g,d,tk+1,os⟩
 refine wpAny_bind ?_
 unfold Builtin.SmallTypes.ownedTupleIsFree
 refine wpAny_bind (wpAny_field e4 rfl (x:=.none) rfl (wpAny_pure ?_))
 simp only [if_true]
 refine wpAny_bind (wpAny_rule ?_)
 refine wpAny_bind (wpAny_field e4 rfl (x:=old) rfl ?_)
 refine wpAny_bind (wpAny_setField_rec e4 (by simp) fun h5 e5 b5=>?_)
 replace b5:Heap.SameBut e h4 h5:=b5
 replace e5:IsEnum h5 e it ((i:Int)+1) x:=e5
 show wpAny _ _ (Builtin.SmallTypes.ownedTupleHandOut (.ref e) (.ref hp.objs.size) >>= _) _ _ ⟨h5,g,d,tk+1,os⟩
 refine wpAny_bind ?_
 unfold Builtin.SmallTypes.ownedTupleHandOut
 refine wpAny_bind (wpAny_setField_rec e5 (by simp) fun h6 e6 b6=>?_)
 replace b6:Heap.SameBut e h5 h6:=b6
 replace e6:IsEnumOut h6 e it ((i:Int)+1) x hp.objs.size:=e6
 refine wpAny_setField_rec e6 (by simp) fun h7 e7 b7=>?_
 replace b7:Heap.SameBut e h6 h7:=b7
 replace e7:IsEnumOut h7 e it ((i:Int)+1) x hp.objs.size:=e7
 have k7:∀ b o,b≠e→h4.get? b=some o→h7.get? b=some o:=fun b o hb q=>b7.extBut b o hb (b6.extBut b o hb (b5.extBut b o hb q))
 refine wpAny_bind (wpAny_letGo (wpAny_pure ⟨_,rfl,hQ h7 e7 (keep h4 h7 st4 fun o q=>k7 it o (Ne.symm hne) q) (k7 _ _ (Nat.ne_of_gt hel) t4) (by rw [b7.1,b6.1,b5.1,z4]) fun b o hbe hbi hb=>k7 b o hbe (k4 b o hbe hbi hb)⟩))
theorem Zs {e it t:Addr} {i:Nat} {items:Array Value} {x old:Value} {Q:Option Value→Shared→Prop}
  (he:IsEnum s.heap e it i old) (hit:s.heap.IsTupleIter it t i) (ht:s.heap.IsTuple t items) (hx:items[i]?=some x) (hne:e≠it)
  (hQ:∀ h',IsEnumOut h' e it ((i:Int)+1) x s.heap.objs.size→h'.IsTupleIter it t (i+1)→h'.get? s.heap.objs.size=some { cls:=.type "tuple",data:=.seq #[.int i s.toks,x] }→h'.objs.size=s.heap.objs.size+1→
   (∀ b o,b≠e→b≠it→s.heap.get? b=some o→h'.get? b=some o)→Q (some (.ref s.heap.objs.size)) { s with heap:=h',toks:=s.toks+1 }):wpAny (model prog w) A (pyNext (.ref e)) Q E s:=by
 have hT:s.TypeIs (.ref e) "enumerate":=⟨_,he,rfl⟩
 unfold pyNext
 refine wpAny_bind (wpAny_attempt (wpAny_callSpecial?_slot (name:=Str.ofString "__next__") hT F.slot_enumerate_next (wpAny_call_entry F.slot_enumerate_next hT F.entry_enumerate_next ?_ (F.args_enumerate_next_1 _))))
 exact jbR (St:=fun h=>h.IsTupleIter it t (i+1)) he hne (fun Q' k=>kL hit ht hx k) (fun h h' st k=>st.at k) fun h' a b c d k=>wpAny_pure (hQ h' a b c d k)
theorem Jo {e it t:Addr} {i:Nat} {items:Array Value} {old:Value} {Q:Option Value→Shared→Prop} (hh:A.handled=none)
  (he:IsEnum s.heap e it i old) (hit:s.heap.IsTupleIter it t i) (ht:s.heap.IsTuple t items) (hx:items[i]?=none)
  (hQ:∀ h',Heap.ExtBut it s.heap h'→Q none { s with heap:=h' }):wpAny (model prog w) A (pyNext (.ref e)) Q E s:=by
 have hT:s.TypeIs (.ref e) "enumerate":=⟨_,he,rfl⟩
 unfold pyNext
 refine wpAny_bind (wpAny_attempt (wpAny_callSpecial?_slot (name:=Str.ofString "__next__") hT F.slot_enumerate_next (wpAny_call_entry F.slot_enumerate_next hT F.entry_enumerate_next ?_ (F.args_enumerate_next_1 _))))
 show wpAny _ _ (field (.ref e) 2 >>= _) _ _ _
 refine wpAny_bind (wpAny_field he rfl (x:=.ref it) rfl ?_)
 refine wpAny_bind (qK hh hit ht hx fun h' x he' hx'=>?_)
 obtain ⟨o,ho,hc⟩:=hx'
 refine wpAny_bind (wpAny_isInstance (T:="StopIteration") (b:=true) ⟨o,ho,hc⟩ isSubtype_stop ?_)
 exact wpAny_pure (hQ _ he')
theorem jdL (l:Addr) (items:Array Value) (n:Nat) (dct:Option Addr) (sl:Array (Option Value)) :
  Meets (Builtin.«enumerate.__new__» ⟨[.type "enumerate",.ref l],[]⟩) (fun _ R s=>s.heap.get? l=some { cls:=.type "tuple",dict:=dct,data:=.seq items n,slots:=sl }∧
   R (.ok (.ret (.ref (s.heap.push { cls:=.type "tuple_iterator",data:=.fields #[.ref l,.int 0 0] }).objs.size)))
    { s with heap:=(s.heap.push { cls:=.type "tuple_iterator",data:=.fields #[.ref l,.int 0 0] }).push { cls:=.type "enumerate",data:=.fields #[.none,.bool false,.ref s.heap.objs.size,rawInt 0,.none,.none] } }):=
 .of_wp fun prog w A R s h=>by
  obtain ⟨hp,g,d,tk,os⟩:=s;obtain ⟨hl,h⟩:=h
  have hsub:=sub_enumerate
  have hL:Heap.IsTuple (Shared.heap ⟨hp,g,d,tk,os⟩) l items:=⟨_,hl,rfl,n,rfl⟩
  wp_walk using wpAny_loadPart' hl
  refine wpAny_stack_any fun st=>wpAny_pure ?_
  split
  ·rename_i c _ _ _ _ _
   cases (c == Value.type "enumerate")
   ·wp_walk using wpAny_loadPart' hl,wpAny_pyIter_tuple hL
    exact ⟨_,rfl,h⟩
   ·wp_walk using wpAny_loadPart' hl,wpAny_pyIter_tuple hL
    exact ⟨_,rfl,h⟩
  ·wp_walk using wpAny_loadPart' hl,wpAny_pyIter_tuple hL
   exact ⟨_,rfl,h⟩
theorem jad {l:Addr} {items:Array Value} {Q:Value→Shared→Prop} (hL:s.heap.IsTuple l items)
  (h:∀ h',IsEnum h' (s.heap.objs.size+1) s.heap.objs.size 0 .none→h'.IsTupleIter s.heap.objs.size l 0→h'.objs.size=s.heap.objs.size+2→
   (∀ b o,s.heap.get? b=some o→h'.get? b=some o)→Q (.ref (s.heap.objs.size+1)) { s with heap:=h' }) :
  wpAny (model prog w) A (call (.type "enumerate") [.ref l]) Q E s:=by
 obtain ⟨⟨c,dct,dt,sl⟩,hl,hc,n,hd⟩:=hL
 replace hc:c=.type "tuple":=hc
 replace hd:dt=.seq items n:=hd
 subst hc hd
 refine callType_new F.called_enumerate (by decide) (F.typeCall_enumerate_1 _) (F.newCall_enumerate_1 _) (fun obj=>F.args_object_init_2 obj _) F.entry_enumerate_new (jdL l items n dct sl) ⟨hl,?_⟩
 have hz:(s.heap.push { cls:=.type "tuple_iterator",data:=.fields #[.ref l,.int 0 0] }).objs.size=s.heap.objs.size+1:=Heap.size_push ..
 show _∧_
 rw [hz]
 have he:IsEnum ((s.heap.push { cls:=.type "tuple_iterator",data:=.fields #[.ref l,.int 0 0] }).push { cls:=.type "enumerate",data:=.fields #[.none,.bool false,.ref s.heap.objs.size,rawInt 0,.none,.none] }) (s.heap.objs.size+1) s.heap.objs.size 0 .none:=by
  have:=Heap.get?_push_size (s.heap.push { cls:=.type "tuple_iterator",data:=.fields #[.ref l,.int 0 0] }) (o:={ cls:=.type "enumerate",data:=.fields #[.none,.bool false,.ref s.heap.objs.size,rawInt 0,.none,.none] }) rfl
  rw [hz] at this;exact this
 exact ⟨⟨_,he,rfl⟩,h _ he ⟨_,Heap.get?_push_of_some _ (Heap.get?_push_size _ rfl),rfl,rfl⟩ (by rw [Heap.size_push,hz]) fun b o x=>Heap.get?_push_of_some _ (Heap.get?_push_of_some _ x)⟩
end
end PySem
namespace L2
open PySem PySem.Spec PyProof.Rows
def jd1 (K:PySem.W.Frag) (l:Addr):It:=
 ⟨fun i H=>∃ xs x,SqT K H l xs∧xs[i]?=some x,fun i H x H'=>∃ t y,H t=none∧(∀ xs,SqT K H l xs→xs[i]?=some y)∧x=.ref t∧H'=upd H t (.tup [.int i,y]),fun i H=>∃ xs,SqT K H l xs∧xs.length≤i⟩
theorem ZM {P:Program} {w:World} {K:PySem.W.Frag} {elts:List Expr} {x1:Nat} {tp:Pos} (l e it:Addr) (hne:e≠it):Turn P w K (.Tuple elts x1 tp) (jd1 K l) [e,it] e (fun i h=>(∃ old,IsEnum h e it i old)∧h.IsTupleIter it l i) where
 mem:=by simp
 obj:=fun i h st b hb=>by
  obtain ⟨⟨old,h1⟩,o,e2,c,d⟩:=st
  rcases List.mem_cons.mp hb with rfl | hb
  ·exact ⟨_,h1,fun v z=>by cases z⟩
  ·rw [List.mem_singleton.mp hb]
   exact ⟨o,e2,fun v z=>by rw [d] at z;cases z⟩
 keep:=fun i h h' st k=>by
  obtain ⟨⟨old,h1⟩,o,e2,c,d⟩:=st
  exact ⟨⟨old,k e (by simp) _ h1⟩,o,k it (by simp) o e2,c,d⟩
 item:=by
  intro X hP hw hK hc i pins s σ H E I hf st hg
  subst hP hw hK
  obtain ⟨xs,x,hq,hx⟩:=hg
  obtain ⟨⟨old,hE⟩,hit⟩:=st
  obtain ⟨its,rv,p,hz⟩:=I.tuple hq
  obtain ⟨u,hu,ru⟩:=rv.get hx
  obtain ⟨a0,a1,a2,a3,a4,a5⟩:=hf e (by simp)
  obtain ⟨f0,f1,f2,f3,f4,f5⟩:=hf it (by simp)
  refine Zs hE hit (show s.heap.IsTuple l its.toArray from p) (x:=u) (by simpa using hu) hne fun h' o1 o2 o3 o4 o5=>?_
  refine ⟨_,rfl,wpAny_letOwnedTupleGo_enum (s:={ s with heap:=h',toks:=s.toks+1 }) o1 fun h2 g1 g2=>?_⟩
  have hfr:H s.heap.objs.size=none:=I.hok.fresh (Nat.le_refl _)
  have kp:∀ b o,b≠e→b≠it→s.heap.get? b=some o→h2.get? b=some o:=fun b o hb hb' q=>(g2.2 b hb).trans (o5 b o hb hb' q)
  have nt:∀ b o,s.heap.get? b=some o→b≠s.heap.objs.size:=fun b o q=>Nat.ne_of_lt (Heap.lt_size q)
  have ne:∀ b z,H b=some z→b≠e∧b≠it:=fun b z q=>⟨fun t=>(by rw [t,a0] at q;cases q),fun t=>(by rw [t,f0] at q;cases q)⟩
  have het:s.heap.objs.size≠e:=fun z=>absurd (Heap.lt_size hE) (by rw [← z];exact Nat.lt_irrefl _)
  have I1:Inv X pins σ (upd H s.heap.objs.size (.tup [.int i,x])) { s with heap:=h2,gens:=s.gens,drawn:=s.drawn,toks:=s.toks+1 }:=by
   refine I.step (g':=s.gens) (d':=s.drawn) (ch:=[e,it]) (fun b hb=>?_) (fun b o _ _ hc' q _=>kp b o (fun z=>hc' (by simp [z])) (fun z=>hc' (by simp [z])) q) (fun b o _ _ hc' q _=>⟨o.slots,kp b o (fun z=>hc' (by simp [z])) (fun z=>hc' (by simp [z])) q⟩)
    (fun b o _ q n=>by rw [jr (nt b o q)];exact n) (fun b o hc' q=>⟨o,kp b o (fun z=>hc' (by simp [z])) (fun z=>hc' (by simp [z])) q⟩) (fun b ys q=>by rw [jr (jn q hfr)];exact q) (fun b o z q=>by rw [jr (jn q hfr)];exact q)
    (fun b ps q=>⟨#[],by rw [jr (jn q hfr),q];simp⟩) (fun m hm=>?_) (fun b z q=>?_) I.bare
   ·rcases List.mem_cons.mp hb with rfl | hb
    ·exact ⟨a3,a1,a4,a5⟩
    ·rw [List.mem_singleton.mp hb];exact ⟨f3,f1,f4,f5⟩
   ·obtain ⟨o,es,ep,ho,r⟩:=hm
    exact ⟨o,es,ep,kp _ o (Ne.symm a1) (Ne.symm f1) ho,r⟩
   ·by_cases hb:b=s.heap.objs.size
    ·subst hb
     rw [jb] at q
     cases q
     refine ⟨?_,[Value.int (i:Int) s.toks,u],.cons ⟨_,rfl⟩ (.cons ru .nil),_,(g2.2 _ het).trans o3,rfl,0,rfl⟩
     show 2≤sizeLine
     rw [sizeLine_eq]
     decide
    ·rw [jr hb] at q
     refine (I.hok b z q).stay (fun c v hc' q'=>?_) (fun c q'=>by rw [jr (jn q' hfr)];exact q') fun c ys q'=>by rw [jr (jn q' hfr)];exact q'
     rcases hc' with rfl | hc'
     ·exact kp c v (ne c z q).1 (ne c z q).2 q'
     ·exact kp c v (ne c _ hc').1 (ne c _ hc').2 q'
  refine ⟨.ref s.heap.objs.size,_,I1,rfl,⟨_,x,hfr,fun ys hy=>by rw [I.tuple_inj hy hq];exact hx,rfl,rfl⟩,⟨⟨_,g1⟩,?_⟩,fun b hb=>?_⟩
  ·obtain ⟨o,z1,z2,z3⟩:=o2
   exact ⟨o,(g2.2 it (Ne.symm hne)).trans z1,z2,z3⟩
  ·rcases List.mem_cons.mp hb with rfl | hb
   ·rw [jr (Ne.symm het)];exact a0
   ·rw [List.mem_singleton.mp hb]
    have:it≠s.heap.objs.size:=by
     obtain ⟨o,z1,_⟩:=hit
     exact nt it o z1
    rw [jr this];exact f0
 done:=by
  intro X hP hw hK hc i pins s σ H E I hf st hg
  subst hP hw hK
  obtain ⟨xs,hq,hx⟩:=hg
  obtain ⟨⟨old,hE⟩,hit⟩:=st
  obtain ⟨its,rv,p,hz⟩:=I.tuple hq
  obtain ⟨f0,f1,f2,f3,f4,f5⟩:=hf it (by simp)
  have hl:=rv.length
  exact Jo (I.ok.hd hc) hE hit (show s.heap.IsTuple l its.toArray from p) (by simp;omega) fun h' eb=>⟨rfl,I.turned (t':=s.toks) (fun b o hb e=>eb b o hb e) f0 f1 f3 f4 f5⟩
 self:=fun _ _ _ _ _ st h=>by
  obtain ⟨⟨old,hE⟩,_⟩:=st
  exact wpAny_pyIter_enum hE h
section
variable {X:Cx} {elts:List Expr} {x1:Nat} {tp:Pos}
def jdB (K:PySem.W.Frag) (ta:TA):TI:=fun σ H R=>ta σ H fun vs H1=>∃ l,vs=[.ref l]∧(∃ xs,SqT K H1 l xs)∧R (jd1 K l) H1
theorem jcN {a:Expr} {ta:TA} {p pos:Pos} (hg:Gl X "enumerate") (hm:X.mg "enumerate" = none) (ha:PA X [a] ta) (hs:starEach [a] X.env=[(false,eval a X.env)]:=by rfl):PI X (.Tuple elts x1 tp) (.Call (.Name "enumerate" p) [a] [] pos) (jdB X.K ta):=by
 intro pins s σ H R I h
 refine Call_ (zx I hg hm yQ (PyProof.Rows.callWith_type1 (thn (ha pos pins s σ H _ I h) fun us s1 ⟨vs,H1,I1,r1,q1⟩=>?_) hs rfl))
 obtain ⟨l,e,⟨xs,hq⟩,q⟩:=q1
 subst e
 obtain ⟨u,rfl,rx⟩:=Jf r1
 cases rx
 obtain ⟨its,rv,pl,hz⟩:=I1.tuple hq
 refine jad (show s1.heap.IsTuple l its.toArray from pl) fun h' g1 g2 g3 g4=>?_
 refine wpAny_pyIter_enum (s:={ s1 with heap:=h' }) g1 ?_
 have I2:Inv X pins σ H1 { s1 with heap:=h' }:=I1.kept (t':=s1.toks) g4
 refine ⟨s1.heap.objs.size+1,[s1.heap.objs.size+1,s1.heap.objs.size],_,_,_,rfl,I2,ZM l _ _ (Nat.succ_ne_self _),⟨⟨_,g1⟩,g2⟩,fun b hb=>?_,q⟩
 rcases List.mem_cons.mp hb with rfl | hb
 ·exact I1.fpOk (Nat.le_succ _) (I1.hok.fresh (Nat.le_succ _))
 ·rw [List.mem_singleton.mp hb]
  exact I1.fpOk (Nat.le_refl _) (I1.hok.fresh (Nat.le_refl _))
theorem zd {K:PySem.W.Frag} {l:Addr} {xs:List V} {g:TG} {tb:TS} {D:Ends} {σ:St} {H:Hp} (Pv:Nat→St→Hp→Prop) (h0:Pv 0 σ H) (hl:∀ i σ H,i≤xs.length→Pv i σ H→SqT K H l xs)
  (hs:∀ i y σ H t,xs[i]?=some y→Pv i σ H→H t=none→g (.ref t) σ (upd H t (.tup [.int i,y])) fun σ2 H2=>tb { D with nx:=Pv (i+1),ct:=Pv (i+1),bk:=D.nx } σ2 H2) (hd:∀ σ H,Pv xs.length σ H→D.nx σ H) :
  ∃ W:Nat→Nat→St→Hp→Prop,(∃ m,W 0 m σ H)∧∀ i m σ H,W i m σ H→
   ((jd1 K l).stop i H∧D.nx σ H)∨((jd1 K l).go i H∧∃ N:St→Hp→Prop,(∀ σ' H',N σ' H'→∃ m',m' < m∧W (i+1) m' σ' H')∧∀ x H',(jd1 K l).yld i H x H'→g x σ H' fun σ2 H2=>tb { D with nx:=N,ct:=N,bk:=D.nx } σ2 H2):=by
 refine ⟨fun i m σ H=>m=xs.length - i∧i≤xs.length∧Pv i σ H,⟨xs.length,by simp,Nat.zero_le _,h0⟩,?_⟩
 rintro i m σ H ⟨rfl,hi,p⟩
 have q:=hl i σ H hi p
 by_cases hlt:i < xs.length
 ·refine .inr ⟨⟨xs,xs[i],q,by simp [hlt]⟩,Pv (i+1),fun σ' H' p'=>⟨xs.length - (i+1),by omega,rfl,hlt,p'⟩,fun x H' y=>?_⟩
  obtain ⟨t,z,ht,hz,rfl,rfl⟩:=y
  exact hs i z σ H t (hz xs q) p ht
 ·have:i=xs.length:=by omega
  subst this
  exact .inl ⟨⟨xs,q,Nat.le_refl _⟩,hd σ H p⟩
end
open PySem PySem.Spec PyProof.Rows PySem.W
mutual
def dEq:D→D→Bool
 | .int i,.int j=>i == j
 | .str x,.str y=>x == y
 | .tup a,.tup b=>dEqL a b
 | _,_=>false
def dEqL:List D→List D→Bool
 | [],[]=>true
 | a :: as,b :: bs=>dEq a b && dEqL as bs
 | _,_=>false
end
mutual
theorem YL:∀ {a b:D},dEq a b=true↔a=b
 | .int i,.int j=>by unfold dEq;rw [beq_iff_eq];exact ⟨(fun h=>by rw [h]),(fun h=>by injection h)⟩
 | .str i,.str j=>by unfold dEq;rw [beq_iff_eq];exact ⟨(fun h=>by rw [h]),(fun h=>by injection h)⟩
 | .tup a,.tup b=>by unfold dEq;rw [dEqL_iff];exact ⟨(fun h=>by rw [h]),(fun h=>by injection h)⟩
 | .int i,.str j=>by unfold dEq;exact ⟨(fun h=>by cases h),(fun h=>by cases h)⟩
 | .int i,.tup j=>by unfold dEq;exact ⟨(fun h=>by cases h),(fun h=>by cases h)⟩
 | .str i,.int j=>by unfold dEq;exact ⟨(fun h=>by cases h),(fun h=>by cases h)⟩
 | .str i,.tup j=>by unfold dEq;exact ⟨(fun h=>by cases h),(fun h=>by cases h)⟩
 | .tup i,.int j=>by unfold dEq;exact ⟨(fun h=>by cases h),(fun h=>by cases h)⟩
 | .tup i,.str j=>by unfold dEq;exact ⟨(fun h=>by cases h),(fun h=>by cases h)⟩
theorem dEqL_iff:∀ {a b:List D},dEqL a b=true↔a=b
 | [],[]=>by unfold dEqL;exact ⟨(fun _=>rfl),(fun _=>rfl)⟩
 | a :: as,b :: bs=>by
  unfold dEqL
  rw [Bool.and_eq_true,YL,dEqL_iff]
  exact ⟨(fun h=>by rw [h.1,h.2]),(fun h=>by injection h with h1 h2;exact ⟨h1,h2⟩)⟩
 | [],b :: bs=>by unfold dEqL;exact ⟨(fun h=>by cases h),(fun h=>by cases h)⟩
 | a :: as,[]=>by unfold dEqL;exact ⟨(fun h=>by cases h),(fun h=>by cases h)⟩
end
instance:DecidableEq D:=fun a b=>if h:dEq a b=true then isTrue (YL.mp h) else isFalse fun e=>h (YL.mpr e)
def LikeV (K:PySem.W.Frag) (H:Hp):Nat→V→V→Prop
 | 0,x,y=>(∃ i,x=.int i∧y=.int i)∨∃ z,x=.str z∧y=.str z
 | n+1,x,y=>LikeV K H n x y∨
  (∃ a b xs ys,x=.ref a∧y=.ref b∧SqT K H a xs∧SqT K H b ys∧xs.length=ys.length∧∀ (j:Nat) x' y',xs[j]?=some x'→ys[j]?=some y'→LikeV K H n x' y')∨
  ∃ a b xs ys,x=.ref a∧y=.ref b∧SqL K H a xs∧SqL K H b ys∧xs.length=ys.length∧∀ (j:Nat) x' y',xs[j]?=some x'→ys[j]?=some y'→LikeV K H n x' y'
theorem yM {K:PySem.W.Frag} {H:Hp} (i:Int):∀ n,LikeV K H n (.int i) (.int i)
 | 0=>.inl ⟨i,rfl,rfl⟩
 | n+1=>.inl (yM i n)
theorem yL {K:PySem.W.Frag} {H:Hp} (z:Str):∀ n,LikeV K H n (.str z) (.str z)
 | 0=>.inr ⟨z,rfl,rfl⟩
 | n+1=>.inl (yL z n)
theorem LikeV.up {K:PySem.W.Frag} {H:Hp} {n m:Nat} {x y:V} (h:LikeV K H n x y) (hm:n≤m):LikeV K H m x y:=by
 induction hm with
 | refl=>exact h
 | step _ ih=>exact .inl ih
section
variable {X:Cx} {pins:List (Addr×Obj)} {σ:St} {H:Hp} {s:Shared}
theorem K9 {xs ys:List V} {its its2:List Value} {A:Around} (hl:xs.length=ys.length) (rva:Vals xs its) (rvb:Vals ys its2) (h:∀ (j:Nat) x' y' u' v',xs[j]?=some x'→ys[j]?=some y'→RelV x' u'→RelV y' v'→SeqAt.EqAt A s u' v' true) :
  ∀ j (h1:j < its.toArray.size) (h2:j < its2.toArray.size),SeqAt.EqAt A s its.toArray[j] its2.toArray[j] true:=fun j h1 h2=>by
 have l3:=rva.length
 have h1':j < its.length:=by simpa using h1
 have hx':xs[j]?=some (xs[j]'(by omega)):=List.getElem?_eq_getElem (by omega)
 have hy':ys[j]?=some (ys[j]'(by omega)):=List.getElem?_eq_getElem (by omega)
 obtain ⟨u',hu',ru'⟩:=rva.get hx'
 obtain ⟨v',hv',rv'⟩:=rvb.get hy'
 have eu:its.toArray[j]=u':=by
  have:=(List.getElem?_eq_some_iff.mp hu').2
  simpa using this
 have ev:its2.toArray[j]=v':=by
  have:=(List.getElem?_eq_some_iff.mp hv').2
  simpa using this
 rw [eu,ev]
 exact h j _ _ u' v' hx' hy' ru' rv'
theorem yg (I:Inv X pins σ H s):∀ (n:Nat) (A:Around) (x y:V) (u v:Value),A.units+n < cLine→LikeV X.K H n x y→RelV x u→RelV y v→SeqAt.EqAt A s u v true
 | 0,A,x,y,u,v,hA,h,ru,rv=>by
  rcases h with ⟨i,rfl,rfl⟩ | ⟨z,rfl,rfl⟩
  ·obtain ⟨t,rfl⟩:=ru
   obtain ⟨t',rfl⟩:=rv
   have:=SeqAt.EqAt.int_int (A:=A) (s:=s) i t i t'
   rw [beq_self_eq_true] at this
   exact this
  ·obtain ⟨t,rfl⟩:=ru
   obtain ⟨t',rfl⟩:=rv
   have:=SeqAt.EqAt.str_str (A:=A) (s:=s) z t z t'
   rw [beq_self_eq_true] at this
   exact this
 | n+1,A,x,y,u,v,hA,h,ru,rv=>by
  rcases h with h | ⟨a,b,xs,ys,rfl,rfl,ha,hb,hl,hj⟩ | ⟨a,b,xs,ys,rfl,rfl,ha,hb,hl,hj⟩
  ·exact yg I n A x y u v (by omega) h ru rv
  ·cases ru;cases rv
   by_cases hab:a=b
   ·subst hab;exact SeqAt.EqAt.same _
   ·obtain ⟨its,rva,ta,_⟩:=I.tuple ha
    obtain ⟨its2,rvb,tb,_⟩:=I.tuple hb
    refine SeqAt.EqAt.of_refs hab ?_
    have l3:=rva.length
    have l4:=rvb.length
    have key:=SeqAt.RcAt.tuples (A:=A) (s:=s) (e:=fun _=>true) (show s.heap.IsTuple a its.toArray from ta) (show s.heap.IsTuple b its2.toArray from tb) (by omega) (K9 hl rva rvb fun j x' y' u' v' e1 e2 r1 r2=>yg I n A.in1 x' y' u' v' (by show A.units+1+n < cLine;omega) (hj j x' y' e1 e2) r1 r2)
    have e:((List.range (min its.toArray.size its2.toArray.size)).all (fun _=>true) && its.toArray.size == its2.toArray.size)=true:=by
     have:its.toArray.size=its2.toArray.size:=by simp;omega
     rw [this];simp
    rw [e] at key
    exact key
  ·cases ru;cases rv
   by_cases hab:a=b
   ·subst hab;exact SeqAt.EqAt.same _
   ·obtain ⟨its,rva,ta,_⟩:=I.list ha
    obtain ⟨its2,rvb,tb,_⟩:=I.list hb
    refine SeqAt.EqAt.of_refs hab ?_
    have l3:=rva.length
    have l4:=rvb.length
    have key:=SeqAt.RcAt.lists (A:=A) (s:=s) (e:=fun _=>true) ta.isList tb.isList (by simp;omega) (by omega) (K9 hl rva rvb fun j x' y' u' v' e1 e2 r1 r2=>yg I n A.in1 x' y' u' v' (by show A.units+1+n < cLine;omega) (hj j x' y' e1 e2) r1 r2)
    have e:(List.range its.toArray.size).all (fun _=>true)=true:=by simp
    rw [e] at key
    exact key
end
def TKF (H H':Hp):Prop:=(∀ b xs,H b=some (.tup xs)→H' b=some (.tup xs))∧∀ b o u,H b=some (.frz o u)→H' b=some (.frz o u)
theorem TKF.same {H H':Hp} (h:Same H H'):TKF H H':=⟨fun b xs e=>h b _ e,fun b o u e=>h b _ e⟩
section
variable {prog:Program} {w:World} {A:Around} {E:Value→Shared→Prop} {s:Shared}
theorem jdU {t b:Addr} {vs ws:List Value} {Q:Value→Shared→Prop} (ht:IsTup s.heap t vs.toArray) (hb:IsTup s.heap b ws.toArray) (hv:vs=[]) (h:Q (.ref b) s):wpAny (model prog w) A (binaryOp .Add (.ref t) (.ref b)) Q E s:=by
 obtain ⟨⟨cls,dd,data,sl⟩,ho,hc,n,hd⟩:=id ht
 obtain ⟨⟨cls2,dd2,data2,sl2⟩,ho2,hc2,n2,hd2⟩:=id hb
 simp only at hc hd hc2 hd2
 subst hc hd hc2 hd2
 exact concat_meets ⟨_,ho,rfl⟩ ⟨_,ho2,rfl⟩ noFill_tuple_add seq_tuple_add PySem.F.slot_tuple_add PySem.F.entry_tuple_add (PySem.F.args_tuple_add_2 _ _)
   (tuple_addW0 t b vs.toArray ws.toArray n n2 dd dd2 sl sl2 (by simp [hv])) ⟨ho,ho2,h⟩
end
def jfx:R2:=fun x y H Q=>∃ a b xs ys,x=.ref a∧y=.ref b∧H a=some (.tup xs)∧H b=some (.tup ys)∧xs.length+ys.length≤sizeLine∧∀ p H',Same H H'→H' p=some (.tup (xs++ys))→Q (.ref p) H'
theorem yJ {X:Cx}:OpR X (binaryOp .Add) jfx:=by
 intro pins s σ H x y v u Q I rx ry h
 obtain ⟨a,b,xs,ys,rfl,rfl,ha,hb,hz,q⟩:=h
 by_cases hx:xs=[]
 ·cases rx
  cases ry
  obtain ⟨its,r1,p1,_⟩:=I.tuple (SqT.of ha)
  obtain ⟨its2,r2,p2,_⟩:=I.tuple (SqT.of hb)
  subst hx
  exact jdU p1 p2 (r1.nil_iff.mpr rfl) ⟨.ref b,H,I,rfl,q b H (Same.refl _) hb⟩
 ·refine jeF pins s σ H (.ref a) (.ref b) v u Q I rx ry ⟨a,b,xs,ys,rfl,rfl,SqT.of ha,SqT.of hb,hx,hz,fun hy=>q a H (Same.refl _) (by rw [hy,List.append_nil];exact ha),fun _ p hp=>q p _ (fun c o e=>by rw [jr (jn e hp)];exact e) jb⟩
def je8 (t:TS):TS:=fun D σ H=>∃ J:St→Hp→Prop,t { D with nx:=J } σ H∧∀ σ' H',J σ' H'→D.nx σ' H'
theorem jek {X:Cx} {st:Stmt} {t:TS} (h:PS X st t):PS X st (je8 t):=by
 intro pins s σ H D I q
 obtain ⟨J,q,k⟩:=q
 refine thn (h pins s σ H _ I q) fun f s1 q1=>?_
 cases f with
 | next=>
  obtain ⟨σ',H',I',e⟩:=q1
  exact ⟨σ',H',I',k _ _ e⟩
 | cont=>exact q1
 | brk=>exact q1
 | ret v=>exact q1
end L2
namespace LW
open PySem L2
mutual
theorem jaX {H H':Hp} (e:∀ b xs,H b=some (.tup xs)→H' b=some (.tup xs)):∀ {d:D} {v:V},Held H d v→Held H' d v
 | .int i,v,h=>by unfold Held at h ⊢;exact h
 | .str x,v,h=>by unfold Held at h ⊢;exact h
 | .tup ds,v,h=>by
  unfold Held at h ⊢
  obtain ⟨a,xs,e1,e2,e3⟩:=h
  exact ⟨a,xs,e1,e a _ e2,heldL_tk e e3⟩
theorem heldL_tk {H H':Hp} (e:∀ b xs,H b=some (.tup xs)→H' b=some (.tup xs)):∀ {ds:List D} {vs:List V},HeldL H ds vs→HeldL H' ds vs
 | [],vs,h=>by unfold HeldL at h ⊢;exact h
 | d :: ds,vs,h=>by
  unfold HeldL at h ⊢
  obtain ⟨v,r,e1,e2,e3⟩:=h
  exact ⟨v,r,e1,jaX e e2,heldL_tk e e3⟩
end
def TK (G G':Hp):Prop:=∀ b xs,G b=some (.tup xs)→G' b=some (.tup xs)
theorem TK.same {G G':Hp} (h:Same G G'):TK G G':=fun b xs e=>h b _ e
theorem TK.upd {G:Hp} {a:Addr} {o u:HO} (h:G a=some o) (hn:∀ xs,o≠.tup xs):TK G (L2.upd G a u):=fun b xs e=>by
 rw [jr (jfj e h (fun z=>hn xs z.symm))]
 exact e
theorem TK.heldL {G G':Hp} (h:TK G G') {d:List D} {v:List V} (x:HeldL G d v):HeldL G' d v:=heldL_tk h x
theorem TK.held {G G':Hp} (h:TK G G') {d:D} {v:V} (x:Held G d v):Held G' d v:=jaX h x
end LW
namespace L2
open PySem PySem.Spec PyProof.Rows PySem.W
abbrev RD:=St→Hp→D→Prop
abbrev RDL:=St→Hp→List D→Prop
def tHD (R:RD):TE:=fun σ H Q=>∃ d,R σ H d∧∀ v H',Same H H'→Held H' d v→Q v H'
def jg2 (R:RDL):TA:=fun σ H Q=>∃ ds,R σ H ds∧∀ vs H',Same H H'→HeldL H' ds vs→Q vs H'
structure PD (X:Cx) (e:Expr) (R:RD):Prop where
 h:PE X e (tHD R)
 m:∀ {σ H H' d},Same H H'→R σ H d→R σ H' d
structure PDs (X:Cx) (es:List Expr) (R:RDL):Prop where
 h:PA X es (jg2 R)
 m:∀ {σ H H' d},Same H H'→R σ H d→R σ H' d
def rV (i:Nat):RD:=fun σ H d=>∃ v,σ[i]?=some (some v)∧Held H d v
def rK (c:D):RD:=fun _ _ d=>d=c
def rN:RDL:=fun _ _ ds=>ds=[]
def rC (R:RD) (Rs:RDL):RDL:=fun σ H ds=>∃ d r,ds=d :: r∧R σ H d∧Rs σ H r
def rT (R:RDL):RD:=fun σ H d=>∃ ds,d=.tup ds∧ds.length≤1000∧R σ H ds
theorem PE.weak {X:Cx} {e:Expr} {t t':TE} (h:PE X e t) (w:∀ σ H Q,t' σ H Q→t σ H Q):PE X e t':=fun pins s σ H Q I q=>h pins s σ H Q I (w σ H Q q)
theorem PA.weak {X:Cx} {es:List Expr} {t t':TA} (h:PA X es t) (w:∀ σ H Q,t' σ H Q→t σ H Q):PA X es t':=fun pos pins s σ H Q I q=>h pos pins s σ H Q I (w σ H Q q)
theorem fQ {a b c} (h:FnScope a b c:=by exact ⟨rfl,rfl,rfl,by decide +kernel,rfl,by decide +kernel,by decide +kernel⟩):FnScope a b c:=h
theorem oQ {p q:Prop} (h:p∨q:=by first|exact .inl rfl|exact .inr rfl):p∨q:=h
theorem jhe {i:Nat} {v:V} {σ σ':St} {H:Hp} {Q:St→Hp→Prop} (e:σ.set i (some v)=σ') (h:Q σ' H):kX i v σ H Q:=by subst e;exact h
theorem gQ {i:Nat} {v:V} {σ σ':St} {H:Hp} {Q:St→Hp→Prop} (h:Q σ' H) (e:σ.set i (some v)=σ':=by simp only [List.set_cons_succ,List.set_cons_zero];rfl):kX i v σ H Q:=jhe e h
theorem jR {t:TS} {D:Ends} {σ σ':St} {H:Hp} (e:σ=σ') (h:t D σ' H):t D σ H:=by subst e;exact h
theorem jf {H:Hp} {p:Addr} (h:H p=none) (o:HO):Same H (upd H p o):=fun b u q=>by rw [jr (jn q h)];exact q
theorem ya (H:Hp):Same H H:=fun _ _ e=>e
section
variable {X:Cx}
theorem jfN (i:Nat) {x:Str} {pos:Pos} (hN:X.N[i]?=some x:=by rfl) (hv:Vis X.env.scope x:=by first | exact Or.inl rfl | exact Or.inr (Or.inl rfl) | exact Or.inr (Or.inr rfl)) (hd:(x == ("__debug__" : Str))=false:=by decide)
  (hcd:(x == ("__classdict__" : Str))=false:=by decide):PD X (.Name x pos) (rV i):=
 ⟨(jcP hN hv hd hcd).weak fun σ H Q ⟨d,⟨v,e,hv⟩,q⟩=>⟨v,e,q v H (ya H) hv⟩,fun s ⟨v,e,h⟩=>⟨v,e,h.mono s⟩⟩
theorem jfO {i j pos}:PD X (.Constant (.int i) j pos) (rK (.int i)):=⟨jcU.weak fun σ H Q ⟨d,e,q⟩=>by cases e;exact q _ H (ya H) jU,fun _ h=>h⟩
theorem ZU {x j pos}:PD X (.Constant (.str x) j pos) (rK (.str x)):=⟨jcR.weak fun σ H Q ⟨d,e,q⟩=>by cases e;exact q _ H (ya H) jk,fun _ h=>h⟩
theorem jaN:PDs X [] rN:=⟨jc4.weak fun σ H Q ⟨d,e,q⟩=>by cases e;exact q _ H (ya H) jl,fun _ h=>h⟩
theorem zb {e:Expr} {es:List Expr} {R:RD} {Rs:RDL} (h:PD X e R) (hs:PDs X es Rs) (hp:kn e=true:=by rfl):PDs X (e :: es) (rC R Rs):=by
 refine ⟨(jgL h.h hs.h hp).weak fun σ H Q ⟨ds,⟨d,r,e,h1,h2⟩,q⟩=>?_,fun s ⟨d,r,e,h1,h2⟩=>⟨d,r,e,h.m s h1,hs.m s h2⟩⟩
 subst e
 exact ⟨d,h1,fun v H1 s1 hv=>⟨r,hs.m s1 h2,fun vs H2 s2 hvs=>q _ _ (s1.trans s2) (jc (hv.mono s2) hvs)⟩⟩
theorem jcZ {es:List Expr} {R:RDL} {x1} {pos:Pos} (h:PDs X es R):PD X (.Tuple es x1 pos) (rT R):=by
 refine ⟨(jcQ h.h).weak fun σ H Q ⟨d,⟨ds,e,hl,hr⟩,q⟩=>?_,fun s ⟨ds,e,hl,hr⟩=>⟨ds,e,hl,h.m s hr⟩⟩
 subst e
 refine ⟨ds,hr,fun vs H1 s1 hvs=>⟨?_,fun p hp=>?_⟩⟩
 ·rw [← hvs.length]
  exact Nat.le_of_lt (jv hl)
 ·exact q _ _ (s1.trans (jf hp _)) (jdE jb (hvs.mono (jf hp _)))
structure QA (X:Cx) (es:List Expr) (t:TA):Prop where
 h:PA X es t
structure QE (X:Cx) (e:Expr) (t:TE):Prop where
 h:PE X e t
end
end L2
namespace PySem
section
variable {prog:Program} {w:World} {A:Around} {E:Value→Shared→Prop} {s:Shared}
abbrev kU (h:Heap) (z TI TO:Addr) (f0:Value) (b:Bool):Prop:=
 h.get? z=some { cls:=.type "zip",dict:=none,data:=.fields #[f0,.bool b,.bool false,.ref TI,.ref TO],slots:=#[] }
theorem jfr {z TI TO i1 i2 l1 l2 T:Addr} {oT:Obj} {bb:Bool} {k1 k2:Nat} {xs ys:Array Value} {x y:Value} {Q:Value→Shared→Prop}
  (n1:i1≠z) (n2:i2≠z) (n12:i1≠i2) (m1:l1≠z) (m2:l2≠z) (m21:l2≠i1) (nTz:T≠z) (nTI:TI≠z)
  (hz:kU s.heap z TI TO (rawInt T) bb) (hT:s.heap.get? T=some oT) (hTI:IsPair s.heap TI (.ref i1) (.ref i2))
  (h1:s.heap.IsTupleIter i1 l1 k1) (h2L:s.heap.IsListIter i2 l2 k2) (hl1:s.heap.IsTuple l1 xs) (hl2:s.heap.IsList l2 ys) (hx:xs[k1]?=some x) (hy:ys[k2]?=some y)
  (hQ:∀ h',kU h' z TI TO (rawInt T) true→h'.IsTupleIter i1 l1 (k1+1)→h'.IsListIter i2 l2 (k2+1)→IsPair h' s.heap.objs.size x y→h'.objs.size=s.heap.objs.size+1→
   (∀ c o,c≠z→c≠i1→c≠i2→s.heap.get? c=some o→h'.get? c=some o)→Q (.ref s.heap.objs.size) { s with heap:=h' }) :
  wpAny (model prog w) A (Builtin.«zip.__next__» ⟨[.ref z],[]⟩) (fun fin s'=>∃ v,fin=.done (.ret v)∧Q v s') E s:=by
 show wpAny _ _ (field (.ref z) 2 >>= _) _ _ _
 refine wpAny_bind (wpAny_field hz rfl (x:=.bool false) rfl ?_)
 show wpAny _ _ (field (.ref z) 3 >>= _) _ _ _
 refine wpAny_bind (wpAny_field hz rfl (x:=.ref TI) rfl ?_)
 refine wpAny_bind (wpAny_seqItems hTI rfl ?_)
 show wpAny _ _ (Builtin.SmallTypes.ownedTupleIsFree (.ref z) >>= _) _ _ _
 refine wpAny_bind ?_
 unfold Builtin.SmallTypes.ownedTupleIsFree
 refine wpAny_bind (wpAny_field hz rfl (x:=rawInt T) rfl ?_)
 show wpAny _ _ (loadIfAlive ((T:Int).toNat) >>= _) _ _ _
 rw [Int.toNat_natCast]
 refine wpAny_bind (W.kdx_alive hT ?_)
 simp only [Option.isNone_some,Bool.false_eq_true,if_false]
 refine wpAny_bind (wpAny_field hz rfl (x:=.bool bb) rfl ?_)
 cases bb with
 | true=>
  rw [if_neg (show ¬ ((Value.bool true != Value.bool true)=true) from Bool.false_ne_true)]
  refine wpAny_pure ?_
  simp only [Bool.false_eq_true,if_false,← Array.forIn_toList,List.forIn_cons,List.forIn_nil]
  refine wpAny_bind (wpAny_bind (wpAny_bind (wpAny_holding ?_)))
  show wpAny _ _ (Builtin.SmallTypes.nextOf (.ref i1) >>= _) _ _ _
  refine wpAny_bind (kL (h1) (hl1) hx fun h2 t2 b2=>wpAny_pure (wpAny_pure ?_))
  dsimp only
  refine wpAny_bind (wpAny_bind (wpAny_holding ?_))
  show wpAny _ _ (Builtin.SmallTypes.nextOf (.ref i2) >>= _) _ _ _
  refine wpAny_bind (wpAny_nextOf_list_item (h2L.extBut b2.extBut n12.symm) (hl2.extBut b2.extBut m21) hy fun h3 t3 b3=>wpAny_pure (wpAny_pure (wpAny_pure ?_)))
  dsimp only
  refine wpAny_bind (wpAny_newTuple (hsz:=by show 2≤sizeLine;decide) (wpAny_pure ⟨_,rfl,?_⟩))
  have sz:h3.objs.size=s.heap.objs.size:=by rw [b3.1,b2.1]
  show Q (.ref h3.objs.size) _
  have hzz:kU h3 z TI TO (rawInt T) true:=b3.extBut _ _ n2.symm (b2.extBut _ _ n1.symm hz)
  have kk:∀ c o,c≠z→c≠i1→c≠i2→s.heap.get? c=some o→h3.get? c=some o:=fun c o c1 c2 c3 e=>b3.extBut _ _ c3 (b2.extBut _ _ c2 (e))
  have t2':h3.IsTupleIter i1 l1 (k1+1):=t2.extBut b3.extBut n12
  have pp:∀ c o,h3.get? c=some o→(h3.push { cls:=.type "tuple",data:=.seq #[x,y] }).get? c=some o:=fun c o e=>Heap.get?_push_of_some _ e
  have np:IsPair (h3.push { cls:=.type "tuple",data:=.seq #[x,y] }) h3.objs.size x y:=Heap.get?_push_size _ rfl
  have zp:(h3.push { cls:=.type "tuple",data:=.seq #[x,y] }).objs.size=s.heap.objs.size+1:=by rw [Heap.size_push,sz]
  rw [sz] at np ⊢
  exact hQ _ (pp _ _ hzz) (t2'.at fun o e=>pp _ o e) (t3.at fun o e=>pp _ o e) np zp fun c o c1 c2 c3 e=>pp _ _ (kk c o c1 c2 c3 e)
 | false=>
  rw [if_pos (show (Value.bool false != Value.bool true)=true from rfl)]
  refine wpAny_bind (wpAny_setField_rec hz (by simp) fun h1' e1 b1=>?_)
  replace b1:Heap.SameBut z s.heap h1':=b1
  replace e1:kU h1' z TI TO (rawInt T) true:=e1
  refine wpAny_pure ?_
  simp only [Bool.false_eq_true,if_false,← Array.forIn_toList,List.forIn_cons,List.forIn_nil]
  refine wpAny_bind (wpAny_bind (wpAny_bind (wpAny_holding ?_)))
  show wpAny _ _ (Builtin.SmallTypes.nextOf (.ref i1) >>= _) _ _ _
  refine wpAny_bind (kL (h1.extBut b1.extBut n1) (hl1.extBut b1.extBut m1) hx fun h2 t2 b2=>wpAny_pure (wpAny_pure ?_))
  dsimp only
  refine wpAny_bind (wpAny_bind (wpAny_holding ?_))
  show wpAny _ _ (Builtin.SmallTypes.nextOf (.ref i2) >>= _) _ _ _
  refine wpAny_bind (wpAny_nextOf_list_item ((h2L.extBut b1.extBut n2).extBut b2.extBut n12.symm) ((hl2.extBut b1.extBut m2).extBut b2.extBut m21) hy fun h3 t3 b3=>wpAny_pure (wpAny_pure (wpAny_pure ?_)))
  dsimp only
  refine wpAny_bind (wpAny_newTuple (hsz:=by show 2≤sizeLine;decide) (wpAny_pure ⟨_,rfl,?_⟩))
  have sz:h3.objs.size=s.heap.objs.size:=by rw [b3.1,b2.1,b1.1]
  show Q (.ref h3.objs.size) _
  have hzz:kU h3 z TI TO (rawInt T) true:=b3.extBut _ _ n2.symm (b2.extBut _ _ n1.symm e1)
  have kk:∀ c o,c≠z→c≠i1→c≠i2→s.heap.get? c=some o→h3.get? c=some o:=fun c o c1 c2 c3 e=>b3.extBut _ _ c3 (b2.extBut _ _ c2 (b1.extBut _ _ c1 e))
  have t2':h3.IsTupleIter i1 l1 (k1+1):=t2.extBut b3.extBut n12
  have pp:∀ c o,h3.get? c=some o→(h3.push { cls:=.type "tuple",data:=.seq #[x,y] }).get? c=some o:=fun c o e=>Heap.get?_push_of_some _ e
  have np:IsPair (h3.push { cls:=.type "tuple",data:=.seq #[x,y] }) h3.objs.size x y:=Heap.get?_push_size _ rfl
  have zp:(h3.push { cls:=.type "tuple",data:=.seq #[x,y] }).objs.size=s.heap.objs.size+1:=by rw [Heap.size_push,sz]
  rw [sz] at np ⊢
  exact hQ _ (pp _ _ hzz) (t2'.at fun o e=>pp _ o e) (t3.at fun o e=>pp _ o e) np zp fun c o c1 c2 c3 e=>pp _ _ (kk c o c1 c2 c3 e)
theorem Jz {z TI TO i1 i2 l1 T:Addr} {oT:Obj} {bb:Bool} {k1:Nat} {xs:Array Value} {Q:Fin→Shared→Prop} (hh:A.handled=none)
  (n1:i1≠z) (m1:l1≠z) (hz:kU s.heap z TI TO (rawInt T) bb) (hT:s.heap.get? T=some oT) (hTI:IsPair s.heap TI (.ref i1) (.ref i2)) (h1:s.heap.IsTupleIter i1 l1 k1) (hl1:s.heap.IsTuple l1 xs) (hx:xs[k1]?=none)
  (hE:∀ h' e,(∀ c o,c≠z→c≠i1→s.heap.get? c=some o→h'.get? c=some o)→(∃ o,h'.get? e=some o∧o.cls=.type "StopIteration")→E (.ref e) { s with heap:=h' }) :
  wpAny (model prog w) A (Builtin.«zip.__next__» ⟨[.ref z],[]⟩) Q E s:=by
 show wpAny _ _ (field (.ref z) 2 >>= _) _ _ _
 refine wpAny_bind (wpAny_field hz rfl (x:=.bool false) rfl ?_)
 show wpAny _ _ (field (.ref z) 3 >>= _) _ _ _
 refine wpAny_bind (wpAny_field hz rfl (x:=.ref TI) rfl ?_)
 refine wpAny_bind (wpAny_seqItems hTI rfl ?_)
 show wpAny _ _ (Builtin.SmallTypes.ownedTupleIsFree (.ref z) >>= _) _ _ _
 refine wpAny_bind ?_
 unfold Builtin.SmallTypes.ownedTupleIsFree
 refine wpAny_bind (wpAny_field hz rfl (x:=rawInt T) rfl ?_)
 show wpAny _ _ (loadIfAlive ((T:Int).toNat) >>= _) _ _ _
 rw [Int.toNat_natCast]
 refine wpAny_bind (W.kdx_alive hT ?_)
 simp only [Option.isNone_some,Bool.false_eq_true,if_false]
 refine wpAny_bind (wpAny_field hz rfl (x:=.bool bb) rfl ?_)
 cases bb with
 | true=>
  rw [if_neg (show ¬ ((Value.bool true != Value.bool true)=true) from Bool.false_ne_true)]
  refine wpAny_pure ?_
  simp only [Bool.false_eq_true,if_false,← Array.forIn_toList,List.forIn_cons,List.forIn_nil]
  refine wpAny_bind (wpAny_bind (wpAny_bind (wpAny_holding ?_)))
  show wpAny _ _ (Builtin.SmallTypes.nextOf (.ref i1) >>= _) _ _ _
  exact wpAny_bind (qK hh (h1) (hl1) hx fun h2 e b2 he=>hE h2 e (fun c o c1 c3 x=>b2 _ _ c3 (x)) he)
 | false=>
  rw [if_pos (show (Value.bool false != Value.bool true)=true from rfl)]
  refine wpAny_bind (wpAny_setField_rec hz (by simp) fun h1' e1 b1=>?_)
  replace b1:Heap.SameBut z s.heap h1':=b1
  refine wpAny_pure ?_
  simp only [Bool.false_eq_true,if_false,← Array.forIn_toList,List.forIn_cons,List.forIn_nil]
  refine wpAny_bind (wpAny_bind (wpAny_bind (wpAny_holding ?_)))
  show wpAny _ _ (Builtin.SmallTypes.nextOf (.ref i1) >>= _) _ _ _
  exact wpAny_bind (qK hh (h1.extBut b1.extBut n1) (hl1.extBut b1.extBut m1) hx fun h2 e b2 he=>hE h2 e (fun c o c1 c3 x=>b2 _ _ c3 (b1.extBut _ _ c1 x)) he)
theorem yk {z TI TO i1 i2 l1:Addr} {k1:Nat} {xs:Array Value} {Q:Fin→Shared→Prop} (hh:A.handled=none)
  (n1:i1≠z) (m1:l1≠z) (hz:IsZip s.heap z TI TO .none) (hTI:IsPair s.heap TI (.ref i1) (.ref i2)) (h1:s.heap.IsTupleIter i1 l1 k1) (hl1:s.heap.IsTuple l1 xs) (hx:xs[k1]?=none)
  (hE:∀ h' e,(∀ c o,c≠z→c≠i1→s.heap.get? c=some o→h'.get? c=some o)→(∃ o,h'.get? e=some o∧o.cls=.type "StopIteration")→E (.ref e) { s with heap:=h' }) :
  wpAny (model prog w) A (Builtin.«zip.__next__» ⟨[.ref z],[]⟩) Q E s:=by
 show wpAny _ _ (field (.ref z) 2 >>= _) _ _ _
 refine wpAny_bind (wpAny_field hz rfl (x:=.bool false) rfl ?_)
 show wpAny _ _ (field (.ref z) 3 >>= _) _ _ _
 refine wpAny_bind (wpAny_field hz rfl (x:=.ref TI) rfl ?_)
 refine wpAny_bind (wpAny_seqItems hTI rfl ?_)
 show wpAny _ _ (Builtin.SmallTypes.ownedTupleIsFree (.ref z) >>= _) _ _ _
 refine wpAny_bind ?_
 unfold Builtin.SmallTypes.ownedTupleIsFree
 refine wpAny_bind (wpAny_field hz rfl (x:=.none) rfl (wpAny_pure ?_))
 simp only [if_true]
 refine wpAny_bind (wpAny_rule ?_)
 refine wpAny_bind (wpAny_field hz rfl (x:=.ref TO) rfl ?_)
 refine wpAny_bind (wpAny_setField_rec hz (by simp) fun g1 z1 b1=>?_)
 replace z1:IsZip g1 z TI TO .ellipsis:=z1
 refine wpAny_bind ?_
 simp only [List.zipIdx_cons,List.zipIdx_nil,List.forIn_cons,List.forIn_nil]
 refine wpAny_bind (wpAny_bind (wpAny_onRaise ?_))
 show wpAny _ _ (Builtin.SmallTypes.nextOf (.ref i1) >>= _) _ _ _
 refine wpAny_bind (qK hh (h1.extBut b1.extBut n1) (hl1.extBut b1.extBut m1) hx fun g2 e b2 he=>?_)
 obtain ⟨oe,hoe,hce⟩:=he
 have z2:IsZip g2 z TI TO .ellipsis:=b2 _ _ n1.symm z1
 have hez:e≠z:=fun x=>by subst x;rw [z2] at hoe;cases hoe;simp at hce
 exact wpAny_setField_rec z2 (by simp) fun g3 _ b3=>hE g3 e (fun c o c1 c3 x=>b3.extBut _ _ c1 (b2 _ _ c3 (b1.extBut _ _ c1 x))) ⟨oe,b3.extBut _ _ hez hoe,hce⟩
end
open Sem (wp)
namespace F
theorem lk_zip_keys:typeLookup (.type "zip") "keys" = pure none:=by rw [typeLookup_type,builtinLookup_eq_fast];kernel_rfl
theorem lk_zip_getattr:typeLookup (.type "zip") "__getattr__" = pure none:=by rw [typeLookup_type,builtinLookup_eq_fast];kernel_rfl
theorem entry_zip_ga:entryFor table "zip.__getattribute__" = some Builtin.«object.__getattribute__»:=entryFor_alias (id':="object.__getattribute__") (by kernel_rfl) (by first | rfl | decide +kernel) (by decide +kernel) (by kernel_rfl)
end F
section
variable {prog:Program} {w:World} {A:Around} {E:Value→Shared→Prop} {h:Heap} {g:Array GenState} {d:Drawn} {t:Nat} {os:OsState} {a:Addr} {its:Array Value} {n:Nat} {sl:Array (Option Value)}
theorem jeQ:(Str.ofString (toString "'"++toString ((Manifest.find? "zip").elim "zip" fun x=>x.tpName)++toString "' object has no attribute '")++Str.ofString "keys"++Str.ofString "'").length≤sizeLine:=by
 rw [sizeLine_eq]
 decide +kernel
theorem Km {tk:Tok} {Q:Fin→Shared→Prop} (hh:A.handled=none) (hx:h.get? a=some { cls:=.type "zip",dict:=none,data:=.fields its,slots:=sl })
   (hq:∀ h' t' e,(∀ b u,h.get? b=some u→h'.get? b=some u)→(∃ oe,h'.get? e=some oe∧oe.cls=.type "AttributeError")→E (.ref e) ⟨h',g,d,t',os⟩) :
  wpAny (model prog w) A (Builtin.«object.__getattribute__» ⟨[.ref a,.str "keys" tk],[]⟩) Q E ⟨h,g,d,t,os⟩:=by
 have hT:(⟨h,g,d,t,os⟩:Shared).TypeIs (.ref a) "zip":=⟨_,hx,rfl⟩
 have f4:=F.lk_zip_keys
 repeat (any_goals (first | assumption | wp_step))
 exact jaf jeQ hh hq
theorem Yv {tk:Tok} {R:Result→Shared→Prop} (hh:A.handled=none) (hx:h.get? a=some { cls:=.type "zip",dict:=none,data:=.fields its,slots:=sl })
   (hq:∀ h' t' e,(∀ b u,h.get? b=some u→h'.get? b=some u)→(∃ oe,h'.get? e=some oe∧oe.cls=.type "AttributeError")→R (.error (.ref e)) ⟨h',g,d,t',os⟩) :
  codeAny (model prog w) A (.call (.builtin "zip.__getattribute__") ⟨[.ref a,.str "keys" tk],[]⟩) R ⟨h,g,d,t,os⟩:=
 codeAny_call_builtin F.slot_zip_getattribute.plain F.entry_zip_ga (F.slot_zip_getattribute.check _ _ _ _ _ _ _ _ (show (⟨h,g,d,t,os⟩:Shared).TypeIs (.ref a) "zip" from ⟨_,hx,rfl⟩) (F.args_zip_getattribute_2 _ _) (Km hh hx hq))
theorem ZY {tk:Tok} {Q:Value→Shared→Prop} (hh:A.handled=none) (hx:h.get? a=some { cls:=.type "zip",dict:=none,data:=.fields its,slots:=sl })
   (hq:∀ h' t' e,(∀ b u,h.get? b=some u→h'.get? b=some u)→(∃ oe,h'.get? e=some oe∧oe.cls=.type "AttributeError")→E (.ref e) ⟨h',g,d,t',os⟩) :
  wpAny (model prog w) A (getAttrBy (.ref a) (.str "keys" tk) false) Q E ⟨h,g,d,t,os⟩:=by
 have hT:(⟨h,g,d,t,os⟩:Shared).TypeIs (.ref a) "zip":=⟨_,hx,rfl⟩
 have f2:=F.slot_zip_getattribute.lookup
 have f3:=F.slot_zip_getattribute.bind (.ref a)
 have f4:=F.lk_zip_getattr
 repeat (any_goals (first | assumption | wp_step))
 refine Yv hh hx fun h' t' e k hoe=>?_
 obtain ⟨oe,e1,e2⟩:=hoe
 have hTe:(⟨h',g,d,t',os⟩:Shared).TypeIs (.ref e) "AttributeError":=⟨_,e1,e2⟩
 show wpAny (model prog w) A (getattributeRaised (Value.ref a) (Value.str (Str.ofString "keys") tk) (Value.type "zip") (.ref e) none false false) Q E _
 unfold getattributeRaised
 refine wpAny_bind (wpAny_isInstance hTe F.sub_attr_attr ?_)
 rw [if_pos rfl]
 refine wpAny_bind ?_
 show wpAny _ _ (typeLookup (.type "zip") "__getattr__") _ _ _
 rw [f4]
 refine wpAny_pure ?_
 show wpAny _ _ (attributeErrorLeaves _ _ _ false false) _ _ _
 unfold attributeErrorLeaves
 dsimp only
 rw [if_pos (show (!false)=true from rfl)]
 refine wpAny_bind (wpAny_throw ?_)
 exact hq h' t' e k ⟨oe,e1,e2⟩
theorem nokeysZ {s:Shared} {Q:Option Value→Shared→Prop} (hh:A.handled=none) (hx:s.heap.get? a=some { cls:=.type "zip",dict:=none,data:=.fields its,slots:=sl })
   (hq:∀ h' t',(∀ b u,s.heap.get? b=some u→h'.get? b=some u)→Q none { s with heap:=h',toks:=t' }) :
  wpAny (model prog w) A (getAttr? (.ref a) "keys") Q E s:=by
 obtain ⟨h,g,d,t,os⟩:=s
 unfold getAttr? getAttrBy?
 refine wpAny_bind (wpAny_mkText (wpAny_bind (wpAny_attempt ?_)))
 refine ZY hh hx fun h' t' e k hoe=>?_
 obtain ⟨oe,e1,e2⟩:=hoe
 have hTe:(⟨h',g,d,t',os⟩:Shared).TypeIs (.ref e) "AttributeError":=⟨_,e1,e2⟩
 dsimp only
 refine wpAny_bind (wpAny_isInstance hTe F.sub_attr_attr ?_)
 rw [if_pos rfl]
 exact wpAny_pure (hq h' t' k)
end
section
variable {prog:Program} {w:World} {A:Around} {E:Value→Shared→Prop} {s:Shared}
theorem Y9 {T:Addr} {x y:Value} {Q:List Value→Shared→Prop} (h:IsPair s.heap T x y) (hq:Q [x,y] s):wpAny (model prog w) A (Builtin.Dict.pairItems (.ref T)) Q E s:=by
 unfold Builtin.Dict.pairItems
 refine wpAny_bind (wpAny_typeOf (T:="tuple") ⟨_,h,rfl⟩ ?_)
 rw [if_pos (by decide)]
 refine wpAny_bind ?_
 unfold seqItems?
 refine wpAny_bind (wpAny_load h ?_)
 exact wpAny_pure (wpAny_pure hq)
end
end PySem
namespace L2
open PySem PySem.Spec PyProof.Rows PySem.W
def zKV (names:List Str) (vs:List V):List (Key×V):=(names.zip vs).map fun q=>(Sum.inr q.1,q.2)
theorem nlt {x y:Nat} (h:x < y∨y < x):x≠y:=by omega
theorem Ks {S a b:Nat} (ha:a < S) (hb:b < S):ZipApart (S+4) (S+2) (S+3) S (S+1) a b:=by
 constructor <;> exact nlt (by omega)
theorem jdV:bootBuiltins "zip" = some (.type "zip"):=by decide +kernel
structure MkFn (P:Program) (w:World) (K:W.Frag) (mg:Str→Option Value) (base:Heap) (k:Nat) (x:Str) (C:Addr) (ps:List Str) (sp:Sp):Prop where
 ex:∃ f fd,Mk K C f∧FnOk P w K mg base CX0 k f fd ps sp∧Binds K fd ps []∧mg x=some (.ref C)
theorem jgD {X:Cx} {k k':Nat} {x:Str} {C:Addr} {ps:List Str} {sp:Sp} {e:Expr} {es:List Expr} {t:TA} {p pos:Pos} (F:MkFn X.prog X.w X.K X.mg X.base k x C ps sp) (hr:Room k' X.A) (ha:PA X (e :: es) t) (hk:k+1≤k':=by decide) (hg:Gl X x:=by rfl)
  (hd:(x == ("__debug__" : Str))=false:=by decide) (hp:(e :: es).all kn=true:=by rfl):PE X (.Call (.Name x p) (e :: es) [] pos) (jcq C sp [] E0 t):=by
 obtain ⟨f,fd,M,G,b,m⟩:=F.ex
 rw [List.all_cons,Bool.and_eq_true] at hp
 exact jev M G (hr.mono hk) hg m b .nil jfh ha hd (qD hp.1 es X.env) (yp pos X.env es hp.2)
theorem J7 {env:Env} (kx vx gens scope pos):eval (.DictComp kx vx gens scope pos) env=comprehension (.DictComp kx vx gens scope pos) scope env (firstIterPos gens pos) newDict (firstAsync gens) (firstIter gens env):=rfl
theorem Kn {prog:Program} {w:World} {A:Around} {s:Shared} {kx vx target iter:Expr} {ifs:List Expr} {scope:Scope} {pos:Pos} {it:Value} {D:Addr} {env:Env} {R:Result→Shared→Prop} (I:Nat→Shared→Prop)
  (turn:∀ n s,I n s→wpAny (model prog w) A (pyNext it) (fun r s1=>match r with
   | none=>R (.ok .next) s1
   | some v=>wpAny (model prog w) A (letOwnedTupleGo target it v) (fun _ s1'=>wpAny (model prog w) A (assign target env v) (fun _ s2=>
     wpAny (model prog w) A (forIn ifs true fun c r=>if r=true then do let ok ← isTrue c env (eval c env);pure (ForInStep.yield ok) else pure (ForInStep.yield r)) (fun ok s3=>
      if ok=true then wpAny (model prog w) A (eval kx env) (fun kv s4=>wpAny (model prog w) A (eval vx env) (fun vv s5=>
       wpAny (model prog w) A (dictSet D kv vv) (fun _ s6=>∃ m,m < n∧I m s6) (fun _ _=>False) s5) (fun _ _=>False) s4) (fun _ _=>False) s3
      else ∃ m,m < n∧I m s3) (fun _ _=>False) s2) (fun _ _=>False) s1') (fun _ _=>False) s1) (fun _ _=>False) s)
  (n:Nat) (h:I n s):codeAny (model prog w) A (.compLoop (.DictComp kx vx [⟨target,iter,ifs,0⟩] scope pos) 0 it (.ref D) env) R s:=by
 have no:∀ (x:Value) (s':Shared),False→notedBy (model prog w) A env (fun e s'=>R (.error e) s') x s':=fun _ _ z=>z.elim
 refine codeAny_loop rfl I (fun n s hI=>?_) n h
 show wpAny _ A ((compTurn (.DictComp kx vx [⟨target,iter,ifs,0⟩] scope pos) 0 it (.ref D) env).onRaise (fun x=>do noteFrame x env;theTreesLotGoes x)) _ _ s
 refine wpAny_noted ?_
 rw [compTurn_dict]
 refine wpAny_bind (wpAny_standAt (wpAny_bind (wpAny_mono (turn n s hI) (fun r s1 h1=>?_) no)))
 cases r with
 | none=>exact wpAny_pure h1
 | some v=>
  refine wpAny_bind (wpAny_mono h1 (fun _ s1' h1'=>?_) no)
  refine wpAny_bind (wpAny_mono h1' (fun _ s2 h2=>wpAny_bind (wpAny_mono h2 (fun ok s3 h3=>?_) no)) no)
  cases ok with
  | false=>exact wpAny_pure ⟨rfl,h3⟩
  | true=>
   exact wpAny_bind (wpAny_bind (wpAny_mono h3 (fun kv s4 h4=>wpAny_bind (wpAny_holding (wpAny_mono h4 (fun vv s5 h5=>wpAny_bind (wpAny_standAt (wpAny_holding (wpAny_mono h5 (fun _ s6 h6=>wpAny_pure ⟨rfl,h6⟩) no)))) no))) no))
def ja7 (J:It) (p:Addr) (g:TG) (tt:TT) (tk tv:TE) (Q:VK) (σ:St) (H:Hp):Prop:=∃ W:Nat→Nat→St→Hp→Prop,(∃ m,W 0 m σ H)∧
 ∀ i m σ' H',W i m σ' H'→(J.stop i H'∧Q (.ref p) H')∨(J.go i H'∧∃ N:St→Hp→Prop,(∀ σ3 H3,N σ3 H3→∃ m',m' < m∧W (i+1) m' σ3 H3)∧∀ x H2,J.yld i H' x H2→g x σ' H2 fun σ3 H3=>tt σ3 H3 fun c H4=>
  if c=true then tk σ3 H4 fun ky H5=>tv σ3 H5 fun y H6=>∃ kvs k,ky=kV k∧H6 p=some (.dK kvs)∧kvs.length < sizeLine∧N σ3 (upd H6 p (.dK (j7 kvs k y))) else N σ3 H4)
def ZP (own:List Str) (fr:List Nat) (wi:TI) (g:TG) (tt:TT) (tk tv:TE):TE:=fun σ H Q=>wi σ H fun J H1=>∀ p,H1 p=none→ja7 J p g tt tk tv Q (jbX own fr σ) (upd H1 p (.dK []))
theorem jbT {X:Cx} {scope:Scope} {own:List Str} {fr:List Nat} {kx vx tg iter:Expr} {ifs:List Expr} {pos:Pos} {wi:TI} {g:TG} {tt:TT} {tk tv:TE} {use:Option (Value→Sem Unit)} (hc:X.calm=true) (O:CompOk X scope fr) (hi:PI X tg iter wi)
  (hb:∀ s H ex,PG (blk X scope own fr s H ex) tg g∧PTs (blk X scope own fr s H ex) ifs tt∧PE (blk X scope own fr s H ex) kx tk∧PE (blk X scope own fr s H ex) vx tv)
  (hs:∀ x,foldedSetIterable iter X.env x=pure x) {pins:List (Addr×Obj)} {s:Shared} {σ:St} {H:Hp} {Q:VK} {R:Value→Shared→Prop} (I:Inv X pins σ H s) (h:ZP own fr wi g tt tk tv σ H Q) (hx:∀ e s',X.xe e s'↔False)
  (fin:∀ (p C:Addr) (H':Hp) (s':Shared) (m:Str→Option Value),s'.heap.Ns C m→H' C=none→C≠X.env.locals→(∀ x c,X.env.cells.lookup x=some c→c≠C)→Inv X pins σ H' s'→(∀ h',Heap.SameBut C s'.heap h'→Inv X pins σ H' { s' with heap:=h' })→Q (.ref p) H'→
   compPost (model X.prog X.w) X.A X.xe use R (.ref p) C (.ok .next) s') :
  wpAny (model X.prog X.w) X.A (comprehension (.DictComp kx vx [⟨tg,iter,ifs,0⟩] scope pos) scope X.env (firstIterPos [⟨tg,iter,ifs,0⟩] pos) newDict false (eval iter X.env) use) R X.xe s:=by
 have hsome:∀ x∈scope.names,x.2=.free→(X.env.cells.lookup x.1).isSome=true:=fun x hx' e=>by
  obtain ⟨c,hc⟩:=I.ok.has x.1 (O.frees x hx' e)
  rw [hc];rfl
 have no:∀ (E:Value→Shared→Prop) (x:Value) (s':Shared),X.xe x s'→E x s':=fun E x s' z=>((hx x s').mp z).elim
 refine wpAny_comprehension_free (cl:=zG X.env.cells scope.names []) rfl hs (yy hsome) O.kind O.loc ?_
 refine thn (hi pins s σ H _ I h) fun v s1 h1=>thn h1 fun itv s2 h2=>?_
 obtain ⟨it,fp,tn,J,H2,e,I2,T,st2,f2,q2⟩:=h2
 subst e
 unfold newDict
 refine wpAny_newObj_type ?_
 have nw:H2 s2.heap.objs.size=none:=I2.fresh
 obtain ⟨W,⟨m0,w0⟩,turn⟩:=q2 _ nw
 generalize hp:s2.heap.objs.size=p at *
 have I3:Inv X pins σ (upd H2 p (.dK [])) { s2 with heap:=s2.heap.push { cls:=.type "dict",data:=.dict #[] } }:=by
  have:=I2.laid (a:=s2.heap.objs.size) (o:=.dK []) (t':=s2.toks) (fun _ _ q=>Heap.get?_push_of_some { cls:=.type "dict",data:=.dict #[] } q) (Nat.le_refl _) (Zw s2.heap I2.big)
  rw [hp] at this
  exact this
 have lt2:∀ b∈fp,b < s2.heap.objs.size:=fun b hb=>by
  obtain ⟨o,ho,_⟩:=T.obj _ _ st2 b hb
  exact Heap.lt_size ho
 have fpn:∀ b∈fp,(upd H2 p (.dK [])) b=none:=fun b hb=>by
  rw [jr (by rw [← hp];exact Nat.ne_of_lt (lt2 b hb))]
  exact (f2 b hb).1
 generalize hs3:({ s2 with heap:=s2.heap.push { cls:=.type "dict",data:=.dict #[] } }:Shared)=s3 at *
 have sz3:s3.heap.objs.size=p+1:=by
  rw [← hs3]
  show (s2.heap.push _).objs.size=_
  rw [Heap.size_push,hp]
 have st3:tn 0 s3.heap:=T.keep 0 _ _ st2 fun b hb o e=>by
  rw [← hs3]
  exact Heap.get?_push_of_some _ e
 refine wpAny_newFunctionEnv O.nocell (by intro y hy;simp at hy) (fun h4 hns4 hsb4=>?_) O.kind
 have k4:∀ b o,s3.heap.get? b=some o→h4.get? b=some o:=fun b o e=>hsb4.extBut b o (Nat.ne_of_lt (Heap.lt_size e)) (Heap.get?_push_of_some _ e)
 have hns4':h4.Ns s3.heap.objs.size fun _=>none:=by
  have z:(fun x:Str=>([]:List (Str×Value)).reverse.lookup x)=fun _=>none:=by funext x;rfl
  rw [z] at hns4
  exact hns4
 have fo:∀ b∈fp,yS X pins (upd H2 p (.dK [])) b∧b < s3.heap.objs.size:=fun b hb=>⟨⟨fpn b hb,(f2 b hb).2⟩,by rw [sz3,← hp];exact Nat.lt_succ_of_lt (lt2 b hb)⟩
 have I4:=YC (own:=own) (fr:=fr) (t1:=s3.toks+([]:List (Str×Value)).length) I3 O fo hns4' k4
 have st4:tn 0 h4:=T.keep 0 _ _ st3 fun b hb o e=>k4 b o e
 obtain ⟨hg,ht,hk',hv'⟩:=hb s3 (upd H2 p (.dK [])) fp
 have stat:∀ {H':Hp} {pn:List (Addr×Obj)} {s':Shared} {σ':St},Inv (blk X scope own fr s3 (upd H2 p (.dK [])) fp) [] σ' H' s'→(∀ b∈fp,H' b=none)→∀ b∈fp,yS (blk X scope own fr s3 (upd H2 p (.dK [])) fp) [] H' b:=fun {H' pn s' σ'} J hn b hb'=>
  ⟨hn b hb',(J.ok.exf b hb').1,J.ok.exfs b hb',.inl hb',(J.ok.exf b hb').2,fun p hp=>absurd hp (by simp [blk])⟩
 have nocells:∀ x c,X.env.cells.lookup x=some c→c≠s3.heap.objs.size:=fun x c e=>by
  obtain ⟨v,q⟩:=I3.cell x c e
  exact Nat.ne_of_lt q.lt
 have loop:∀ s5:Shared,s5={ s3 with heap:=h4,toks:=s3.toks+([]:List (Str×Value)).length }→
   codeAny (model X.prog X.w) X.A (.compLoop (.DictComp kx vx [⟨tg,iter,ifs,0⟩] scope pos) 0 (.ref it) (.ref p) (blk X scope own fr s3 (upd H2 p (.dK [])) fp).env) (compPost (model X.prog X.w) X.A X.xe use R (.ref p) s3.heap.objs.size) s5:=by
  rintro s5 rfl
  refine Kn (fun n s'=>∃ i σ' H',Inv (blk X scope own fr s3 (upd H2 p (.dK [])) fp) [] σ' H' s'∧tn i s'.heap∧(∀ b∈fp,H' b=none)∧W i n σ' H') ?_ m0 ⟨0,_,_,I4,st4,fpn,w0⟩
  rintro n s6 ⟨i,σ6,H6,I6,st6,fr6,w6⟩
  rcases turn i n σ6 H6 w6 with ⟨stop,qn⟩ | ⟨go,N,hN,step⟩
  ·refine thn (T.done (blk X scope own fr s3 (upd H2 p (.dK [])) fp) rfl rfl rfl hc i [] s6 σ6 H6 _ I6 (stat (pn:=[]) I6 fr6) st6 stop) fun r s7 ⟨hr,I7⟩=>?_
   subst hr
   obtain ⟨m,hm,_⟩:=I7.loc
   exact fin p _ H6 s7 m hm I7.free (Nat.ne_of_gt I3.lt) nocells (zg I3 fo I7 (Heap.SameBut.refl ..)) (fun h' hs'=>zg I3 fo I7 hs') qn
  ·refine thn (T.item (blk X scope own fr s3 (upd H2 p (.dK [])) fp) rfl rfl rfl hc i [] s6 σ6 H6 _ I6 (stat (pn:=[]) I6 fr6) st6 go) fun r s7 ⟨u,hr,h7⟩=>?_
   subst hr
   refine thn h7 fun _ s8 ⟨x,H8,I8,r8,y8,st8,fr8⟩=>?_
   have I8':=I8.pinned (stat (pn:=[]) I8 fr8) (T.obj _ _ st8)
   refine thn (hg _ s8 σ6 H8 x u _ I8' r8 (step x H8 y8)) fun _ s9 ⟨σ9,H9,I9,q9⟩=>?_
   refine thn (ht _ s9 σ9 H9 _ I9 q9) fun ok s10 ⟨H10,I10,q10⟩=>?_
   have again:∀ {H11:Hp} {s11:Shared},Inv (blk X scope own fr s3 (upd H2 p (.dK [])) fp) ([]++zu fp s8.heap) σ9 H11 s11→(∃ m',m' < n∧W (i+1) m' σ9 H11)→
     ∃ m,m < n∧∃ i σ' H',Inv (blk X scope own fr s3 (upd H2 p (.dK [])) fp) [] σ' H' s11∧tn i s11.heap∧(∀ b∈fp,H' b=none)∧W i m σ' H':=fun {H11 s11} I11 ⟨m',hm,w11⟩=>by
    refine ⟨m',hm,i+1,σ9,H11,I11.unpinned,T.keep _ _ _ st8 fun b hb' o e=>(I11.pin (b,o) (List.mem_append_right _ (List.mem_append_right _ (kN hb' e)))).1,fun b hb'=>?_,w11⟩
    obtain ⟨o,e,d⟩:=T.obj _ _ st8 b hb'
    exact (I11.pin (b,o) (List.mem_append_right _ (List.mem_append_right _ (kN hb' e)))).2.1
   cases ok with
   | false=>
    rw [if_neg Bool.false_ne_true] at q10 ⊢
    exact again I10 (hN _ _ q10)
   | true=>
    rw [if_pos rfl] at q10 ⊢
    refine thn (hk' _ s10 σ9 H10 _ I10 q10) fun kv s11 ⟨ky,H11,I11,r11,q11⟩=>?_
    refine thn (hv' _ s11 σ9 H11 _ I11 q11) fun vv s12 ⟨y,H12,I12,r12,kvs,k,ek,hkv,hlen,q12⟩=>?_
    subst ek
    obtain ⟨z,hd,vs,rel,dd⟩:=jdP I12.hok hkv
    have hl:(j7 kvs k y).length≤sizeLine:=by have:=qZ kvs k y;omega
    refine wpAny_dictSet_pairs (JX r11) dd (fun h' dd' hs'=>?_) (by rw [← rel.length];exact z)
    have hex':∃ q,h'.get? p=some q:=let ⟨q,_,_,hq,_⟩:=dd';⟨q,hq⟩
    exact again (Ju (t':=s12.toks+1) I12 (by rw [hkv];exact True.intro) hs' hex' (YI hl hd (rel.put k r12) dd')) (hN _ _ q12)
 refine codeAny_compStart_dict (loop _ rfl) (T.self X.A 0 _ _ _ st4 (loop _ rfl))
theorem jcX {X:Cx} {scope:Scope} {kx vx tg iter:Expr} {ifs:List Expr} {pos:Pos} {wi:TI} {g:TG} {tt:TT} {tk tv:TE} (own:List Str) (fr:List Nat) (hc:X.calm=true) (O:CompOk X scope fr) (hi:PI X.nox tg iter wi)
  (hb:∀ s H ex,PG (blk X.nox scope own fr s H ex) tg g∧PTs (blk X.nox scope own fr s H ex) ifs tt∧PE (blk X.nox scope own fr s H ex) kx tk∧PE (blk X.nox scope own fr s H ex) vx tv)
  (hs:∀ x,foldedSetIterable iter X.env x=pure x:=by intro _;rfl):PE X.nox (.DictComp kx vx [⟨tg,iter,ifs,0⟩] scope pos) (ZP own fr wi g tt tk tv):=by
 intro pins s σ H Q I h
 rw [J7]
 refine jbT (X:=X.nox) (use:=none) (Q:=Q) hc ⟨O.kind,O.nocell,O.loc,O.frees,O.fr⟩ hi hb hs I h (fun _ _=>Iff.rfl) fun p C H' s' m hm hC _ _ I' back q=>?_
 exact ⟨m,hm,fun h' hs'=>⟨.ref p,H',back h' hs',rfl,q⟩⟩
section
variable {p:Addr} {g:TG} {tt:TT} {tk tv:TE} {σ:St} {H:Hp} {Q:VK}
theorem jbS {K:W.Frag} {a:Addr} {xs:List V} (Pv:Nat→St→Hp→Prop) (h0:Pv 0 σ H) (hl:∀ i σ' H',i≤xs.length→Pv i σ' H'→SqT K H' a xs)
  (hs:∀ i x σ' H',xs[i]?=some x→Pv i σ' H'→g x σ' H' fun σ3 H3=>tt σ3 H3 fun c H4=>if c=true then tk σ3 H4 fun ky H5=>tv σ3 H5 fun y H6=>∃ kvs k,ky=kV k∧H6 p=some (.dK kvs)∧kvs.length < sizeLine∧Pv (i+1) σ3 (upd H6 p (.dK (j7 kvs k y))) else Pv (i+1) σ3 H4)
  (hd:∀ σ' H',Pv xs.length σ' H'→Q (.ref p) H'):ja7 (Itt K a) p g tt tk tv Q σ H:=by
 refine ⟨fun i m σ H=>m=xs.length - i∧i≤xs.length∧Pv i σ H,⟨xs.length,by simp,Nat.zero_le _,h0⟩,?_⟩
 rintro i m σ1 H1 ⟨rfl,hi,pv⟩
 have q:=hl i σ1 H1 hi pv
 by_cases hlt:i < xs.length
 ·refine .inr ⟨⟨xs,xs[i],q,by simp [hlt]⟩,Pv (i+1),fun σ3 H3 q=>⟨xs.length - (i+1),by omega,rfl,hlt,q⟩,fun x H2 y=>?_⟩
  obtain ⟨e1,e2⟩:=y
  subst e1
  exact hs i x σ1 _ (e2 xs q) pv
 ·have e:i=xs.length:=by omega
  subst e
  exact .inl ⟨⟨xs,q,Nat.le_refl _⟩,hd σ1 H1 pv⟩
end
end L2
namespace HT
open PySem PySem.Spec PyProof.Rows L2
open PySem.SeqAt
open PySem.AutoSeq1 (wpAny_loadPart')
open PySem.MeetsSeq PySem.MeetsSeq2 PySem.MeetsSeq3
end HT
namespace L2
open PySem PySem.Spec PyProof.Rows
variable {X:Cx}
variable {X:Cx} {pos:Pos}
def je6 (i j l:Nat) (ta:TA):TS:=fun D σ H=>ta σ H fun vs H1=>∃ v w u,vs=[v,w,u]∧D.nx (((σ.set i (some v)).set j (some w)).set l (some u)) H1
theorem jej {i j l:Nat} {x y z:Str} {a b c:Expr} {ta:TA} {px py pz pt:Pos} {kt k2 pt2} (hc:X.calm=true) (hN:X.N.Nodup) (hi:X.N[i]?=some x) (hj:X.N[j]?=some y) (hl:X.N[l]?=some z) (hij:i≠j) (hil:i≠l) (hjl:j≠l)
  (hx:Loc X.env.scope x) (hy:Loc X.env.scope y) (hz:Loc X.env.scope z) (ha:PA X [a,b,c] ta)
  (hw:swappedStores [.Tuple [.Name x px,.Name y py,.Name z pz] kt pt] (.Tuple [a,b,c] k2 pt2) X.env=pure (some [x,y,z]))
  (fx:X.fn x=true∨X.env.scope.names.lookup x=some .local) (fy:X.fn y=true∨X.env.scope.names.lookup y=some .local) (fz:X.fn z=true∨X.env.scope.names.lookup z=some .local)
  (hs:swapsWithSole [.Tuple [.Name x px,.Name y py,.Name z pz] kt pt] (.Tuple [a,b,c] k2 pt2) pos.line X.env=pure false:=by rfl) :
  PS X (.Assign [.Tuple [.Name x px,.Name y py,.Name z pz] kt pt] (.Tuple [a,b,c] k2 pt2) pos) (je6 i j l ta):=by
 intro pins s σ H D I h
 rw [exec_Assign_arm]
 refine wpAny_bind (wpAny_standAt ?_)
 rw [hs]
 refine wpAny_bind (wpAny_pure ?_)
 rw [if_neg (by decide)]
 refine wpAny_bind (Tuple_ (thn (ha _ pins s σ H _ I h) fun us s1 ⟨vs,H1,I1,r1,q1⟩=>?_))
 obtain ⟨v,w,u,e1,q1⟩:=q1
 subst e1
 obtain ⟨u1,u2,u3,rfl,rv,rw',ru⟩:∃ u1 u2 u3,us=[u1,u2,u3]∧RelV v u1∧RelV w u2∧RelV u u3:=by
  cases r1 with
  | cons p q=>
   cases q with
   | cons p' q'=>
    cases q' with
    | cons p2 q2=>
     cases q2
     exact ⟨_,_,_,rfl,p,p',p2⟩
 refine wpAny_newObj_type ?_ (by show 3≤sizeLine;decide)
 have I2:Inv X pins σ H1 { s1 with heap:=s1.heap.push { cls:=.type "tuple",data:=.seq [u1,u2,u3].toArray } }:=I1.kept (t':=s1.toks) fun b o e=>Heap.get?_push_of_some _ e
 rw [hw]
 refine wpAny_bind (wpAny_pure ?_)
 show wpAny (model X.prog X.w) X.A (do rule "assign.swapped-stores";let items ← unpackItems (.ref s1.heap.objs.size) 3 none;assignInOrder [fun v=>bindName X.env z v,fun v=>bindName X.env y v,fun v=>bindName X.env x v] items.reverse;pure Flow.next) _ _ _
 refine wpAny_bind (wpAny_rule (wpAny_bind (unpackItems_tuple (items:=#[u1,u2,u3]) (I.ok.hd hc) (IsTup.new s1.heap _) fun h' hx'=>?_)))
 have I3:=I2.kept (h':=h') (t':=s1.toks) fun b o e=>hx' b o (Nat.ne_of_lt (Heap.lt_size e)) e
 show wpAny _ _ (assignInOrder [fun v=>bindName X.env z v,fun v=>bindName X.env y v,fun v=>bindName X.env x v] [u3,u2,u1] >>= fun _=>pure Flow.next) _ _ _
 refine wpAny_bind (assignInOrder_cons (wpAny_bindName (zK I3 hN hl hz ru (fun s2 I4=>?_) fz)))
 refine assignInOrder_cons (wpAny_bindName (zK I4 hN hj hy rw' (fun s3 I5=>?_) fy))
 refine assignInOrder_cons (wpAny_bindName (zK I5 hN hi hx rv (fun s4 I6=>assignInOrder_nil (wpAny_pure ?_)) fx))
 have e:((σ.set l (some u)).set j (some w)).set i (some v)=((σ.set i (some v)).set j (some w)).set l (some u):=by
  rw [List.set_comm _ _ (Ne.symm hjl),List.set_comm _ _ (Ne.symm hil),List.set_comm _ _ (Ne.symm hij)]
 rw [e] at I6
 exact ⟨_,H1,I6,q1⟩
theorem yH (kvs:List (Key×V)) (k:Key) (v:V):(j7 kvs k v).length≤kvs.length+1:=by
 unfold j7
 split
 ·rw [List.length_map];omega
 ·rw [List.length_append];simp
structure QT (X:Cx) (e:Expr) (t:TT):Prop where
 h:PT X e t
structure QW (X:Cx) (e:Expr) (t:TT):Prop where
 h:PW X e t
structure QG (X:Cx) (e:Expr) (t:TG):Prop where
 h:PG X e t
structure QGs (X:Cx) (e:List Expr) (t:TGs):Prop where
 h:PGs X e t
structure QI (X:Cx) (tg e:Expr) (t:TI):Prop where
 h:PI X tg e t
structure QO (X:Cx) (e:Option Expr) (t:TO):Prop where
 h:PO X e t
structure QTs (X:Cx) (e:List Expr) (t:TT):Prop where
 h:PTs X e t
structure QPs (X:Cx) (pos:Pos) (ks:List (Option Expr)) (vs:List Expr) (t:List (TE×TE)):Prop where
 h:PPs X pos ks vs t
theorem QW.pt {X:Cx} {e:Expr} {t:TT} (h:QW X e t):QT X e t:=⟨h.h.pt⟩
theorem jd2 {X:Cx} {e:Expr} {t:TE} (h:QE X e t) (he:∀ whole,isTrue e X.env whole=(do let v ← whole;standAt e.pos;holding [v] (truthy v)):=by intro _;rfl):QT X e (tB t):=⟨jfB h.h he⟩
theorem zpv {X:Cx} (i:Nat) {x:Str} {pos:Pos} (h1:(Cx.N X)[i]?=some x:=by rfl) (h2:Vis (Env.scope (Cx.env X)) x:=by first | exact Or.inl rfl | exact Or.inr (Or.inl rfl) | exact Or.inr (Or.inr rfl)) (h3:(x == Str.ofString "__debug__")=false:=by decide) (h4:(x == Str.ofString "__classdict__")=false:=by decide):QE X (Expr.Name x pos) (jft i):=
 ⟨@pv _ i _ _ h1 h2 h3 h4⟩
theorem je {X:Cx} {i:Int} {j:Nat} {pos:Pos}:QE X (Expr.Constant (Const.int i) j pos) (tC (V.int i)):=
 ⟨@jcU _ _ _ _⟩
theorem jo {X:Cx} {x:Str} {j:Nat} {pos:Pos}:QE X (Expr.Constant (Const.str x) j pos) (tC (V.str x)):=
 ⟨@jcR _ _ _ _⟩
theorem jb7 {X:Cx} {x:Str} {v:V} {u:Value} {pos:Pos} (h1:Gl X x) (h2:Cx.mg X x=none) (h3:bootBuiltins x=some u) (h4:RelV v u) (h5:x≠Str.ofString "__name__":=by decide) (h6:(x == Str.ofString "__debug__")=false:=by decide):QE X (Expr.Name x pos) (tC v):=
 ⟨@jeC _ _ _ _ _ h1 h2 h3 h4 h5 h6⟩
theorem jm {X:Cx} {a b:Expr} {ta tb:TE} {pos:Pos} {op:Operator} {r:R2} (h1:OpR X (binaryOp op) r) (h2:QE X a ta) (h3:QE X b tb):QE X (Expr.BinOp a op b pos) (tOp r ta tb):=
 ⟨@jgC _ _ _ _ _ _ _ _ h1 h2.h h3.h⟩
theorem jb6 {X:Cx} {a b:Expr} {ta tb:TE} {pos:Pos} {op:CmpOp} {r:R2} (h1:OpR X (compareOp op) r) (h2:QE X a ta) (h3:QE X b tb) (h4:behindInMarks op b=false):QE X (Expr.Compare a [op] [b] pos) (tOp r ta tb):=
 ⟨@jeA _ _ _ _ _ _ _ _ h1 h2.h h3.h h4⟩
theorem jV {X:Cx} {e:Expr} {te:TE} {lo hi:Option Expr} {tl th:TO} {pos p2:Pos} {r:V→Option Int→Option Int→Hp→VK→Prop} (h1:SlR X r) (h2:QE X e te) (h3:QO X lo tl) (h4:QO X hi th):QE X (Expr.Subscript e (Expr.Slice lo hi none p2) pos) (tSl r te tl th):=
 ⟨@jcS _ _ _ _ _ _ _ _ _ _ h1 h2.h h3.h h4.h⟩
theorem Jy {X:Cx} {o i:Expr} {pos:Pos} {td ty:TE} (h1:Around.units (Cx.A X)+1 < cLine) (h2:QE X o td) (h3:QE X i ty) (h4:jgd i):QE X (Expr.Subscript o i pos) (jfb td ty):=
 ⟨@jey _ _ _ _ _ _ h1 h2.h h3.h h4⟩
theorem jj {X:Cx} {a b:Expr} {ta tb:TE} {pos:Pos} {r:R2} (h1:IxR X r) (h2:QE X a ta) (h3:QE X b tb) (h4:ja6 b):QE X (Expr.Subscript a b pos) (tOp r ta tb):=
 ⟨@jgE _ _ _ _ _ _ _ h1 h2.h h3.h h4⟩
theorem jI {X:Cx} {es:List Expr} {t:TA} {pos:Pos} (h1:QA X es t):QE X (Expr.List es pos) (jgl t):=
 ⟨@jfK _ _ _ _ h1.h⟩
theorem jy {X:Cx} {es:List Expr} {t:TA} {pos:Pos} {x1:Nat} (h1:QA X es t):QE X (Expr.Tuple es x1 pos) (jgh t):=
 ⟨@jcQ _ _ _ _ _ h1.h⟩
theorem jb5 {X:Cx} {pos:Pos} {keys:List (Option Expr)} {values:List Expr} {trs:List (TE×TE)} (h1:QPs X pos keys values trs) (h2:(List.all keys fun x=>Option.isSome x)=true) (h3:List.length keys=List.length values) (h4:keys≠[]) (h5:List.length keys≤15):QE X (Expr.Dict keys values pos) (jfa trs):=
 ⟨@jex _ _ _ _ _ h1.h h2 h3 h4 h5⟩
theorem jb0 {X:Cx} {pos:Pos}:QPs X pos [] [] []:=
 ⟨@jen _ _⟩
theorem jba {X:Cx} {pos:Pos} {k v:Expr} {ks:List (Option Expr)} {vs:List Expr} {tk tv:TE} {trs:List (TE×TE)} (h1:QE X k tk) (h2:QE X v tv) (h3:QPs X pos ks vs trs):QPs X pos (some k :: ks) (v :: vs) ((tk,tv) :: trs):=
 ⟨@jcL _ _ _ _ _ _ _ _ _ h1.h h2.h h3.h⟩
theorem ql {X:Cx} {scope:Scope} {elt tg iter:Expr} {ifs:List Expr} {pos:Pos} {wi:TI} {g:TG} {tt:TT} {te:TE} (own:List Str) (fr:List Nat) (h1:Cx.calm X=true) (h2:CompOk X scope fr) (h3:QI (Cx.nox X) tg iter wi) (h4:∀ (s:PySem.Shared) (H:Hp) (ex:List PySem.Addr),QG (blk (Cx.nox X) scope own fr s H ex) tg g∧QTs (blk (Cx.nox X) scope own fr s H ex) ifs tt∧QE (blk (Cx.nox X) scope own fr s H ex) elt te) (h5:∀ (x:Value),foldedSetIterable iter (Cx.env X) x=pure x:=by intro _;rfl):QE (Cx.nox X) (Expr.ListComp elt [{ target:=tg,iter:=iter,ifs:=ifs,is_async:=0 }] scope pos) (Kx own fr wi g tt te):=
 ⟨@jez _ _ _ _ _ _ _ _ _ _ _ own fr h1 h2 h3.h (fun s H ex=>⟨(h4 s H ex).1.h,(h4 s H ex).2.1.h,(h4 s H ex).2.2.h⟩) h5⟩
theorem jbd {X:Cx} {scope:Scope} {kx vx tg iter:Expr} {ifs:List Expr} {pos:Pos} {wi:TI} {g:TG} {tt:TT} {tk tv:TE} (own:List Str) (fr:List Nat) (h1:Cx.calm X=true) (h2:CompOk X scope fr) (h3:QI (Cx.nox X) tg iter wi) (h4:∀ (s:PySem.Shared) (H:Hp) (ex:List PySem.Addr),QG (blk (Cx.nox X) scope own fr s H ex) tg g∧QTs (blk (Cx.nox X) scope own fr s H ex) ifs tt∧QE (blk (Cx.nox X) scope own fr s H ex) kx tk∧QE (blk (Cx.nox X) scope own fr s H ex) vx tv) (h5:∀ (x:Value),foldedSetIterable iter (Cx.env X) x=pure x:=by intro _;rfl):QE (Cx.nox X) (Expr.DictComp kx vx [{ target:=tg,iter:=iter,ifs:=ifs,is_async:=0 }] scope pos) (ZP own fr wi g tt tk tv):=
 ⟨@jcX _ _ _ _ _ _ _ _ _ _ _ _ _ own fr h1 h2 h3.h (fun s H ex=>⟨(h4 s H ex).1.h,(h4 s H ex).2.1.h,(h4 s H ex).2.2.1.h,(h4 s H ex).2.2.2.h⟩) h5⟩
theorem zX {X:Cx} {e:Expr} {f:Str} {pos:Pos} {ta:TE} (h1:QE X e ta) (h2:attributeBase e f (Cx.env X) (eval e (Cx.env X))=eval e (Cx.env X)):QE X (Expr.Attribute e f pos) (jgp (Cx.K X) ta f):=
 ⟨@jfL _ _ _ _ _ h1.h h2⟩
theorem jfq {X:Cx} {k k':Nat} {x:Str} {C:Addr} {ps:List Str} {sp:Sp} {e:Expr} {es:List Expr} {t:TA} {p pos:Pos} (h1:MkFn (Cx.prog X) (Cx.w X) (Cx.K X) (Cx.mg X) (Cx.base X) k x C ps sp) (h2:Room k' (Cx.A X)) (h3:QA X (e :: es) t) (h4:k+1≤k':=by decide) (h5:Gl X x:=by rfl) (h6:(x == Str.ofString "__debug__")=false:=by decide) (h7:List.all (e :: es) kn=true:=by rfl):QE X (Expr.Call (Expr.Name x p) (e :: es) [] pos) (jcq C sp [] E0 t):=
 ⟨@jgD _ _ _ _ _ _ _ _ _ _ _ _ h1 h2 h3.h h4 h5 h6 h7⟩
theorem ju {X:Cx} {k k':Nat} {x:Str} {ps:List Str} {sp:Sp} {e:Expr} {es:List Expr} {t:TA} {p pos:Pos} (h1:Fn (Cx.prog X) (Cx.w X) (Cx.K X) (Cx.mg X) (Cx.base X) k x ps sp) (h2:Room k' (Cx.A X)) (h3:QA X (e :: es) t) (h4:k≤k':=by decide) (h5:Gl X x:=by rfl) (h6:(x == Str.ofString "__debug__")=false:=by decide) (h7:List.all (e :: es) kn=true:=by rfl):QE X (Expr.Call (Expr.Name x p) (e :: es) [] pos) (jct sp [] E0 t):=
 ⟨@jgF _ _ _ _ _ _ _ _ _ _ _ h1 h2 h3.h h4 h5 h6 h7⟩
theorem kj {X:Cx} {x:Str} {p pos:Pos} {e:Expr} {es:List Expr} {t:TA} {id:String} {r:List V→Hp→VK→Prop} (h1:qI X (Value.builtin id) r) (h2:Gl X x) (h3:Cx.mg X x=none) (h4:bootBuiltins x=some (Value.builtin id)) (h5:QA X (e :: es) t) (h6:List.all (e :: es) kn=true:=by rfl) (h7:x≠Str.ofString "__name__":=by decide) (h8:(x == Str.ofString "__debug__")=false:=by decide):QE X (Expr.Call (Expr.Name x p) (e :: es) [] pos) (tCB r t):=
 ⟨@jgH _ _ _ _ _ _ _ _ _ h1 h2 h3 h4 h5.h h6 h7 h8⟩
theorem kJ {X:Cx} {x:Str} {p pos:Pos} {e:Expr} {es:List Expr} {t:TA} {T:String} {r:List V→Hp→VK→Prop} (h1:qI X (Value.type T) r) (h2:Gl X x) (h3:Cx.mg X x=none) (h4:bootBuiltins x=some (Value.type T)) (h5:QA X (e :: es) t) (h6:List.all (e :: es) kn=true:=by rfl) (h7:x≠Str.ofString "__name__":=by decide) (h8:(x == Str.ofString "__debug__")=false:=by decide):QE X (Expr.Call (Expr.Name x p) (e :: es) [] pos) (tCB r t):=
 ⟨@jgG _ _ _ _ _ _ _ _ _ h1 h2 h3 h4 h5.h h6 h7 h8⟩
theorem Kr {X:Cx} {o e f:Expr} {apos cpos:Pos} {td ty tx:TE} (h1:Around.units (Cx.A X)+1 < cLine) (h2:QE X o td) (h3:QE X e ty) (h4:QE X f tx) (h5:M2 X o (Str.ofString "get") apos e f cpos):QE X (Expr.Call (Expr.Attribute o (Str.ofString "get") apos) [e,f] [] cpos) (jcr td ty tx):=
 ⟨@jcW _ _ _ _ _ _ _ _ _ h1 h2.h h3.h h4.h h5⟩
theorem kb {X:Cx} {o e:Expr} {es:List Expr} {to:TE} {t:TA} {name:Str} {apos cpos:Pos} {T id:String} {r:V→List V→Hp→VK→Prop} (h1:PlainAttrs T) (h2:Slot T name id) (h3:typeOf (Value.builtin id)=pure (Value.type "method_descriptor")) (h4:MtR X id r) (h5:QE X o to) (h6:QA X (e :: es) t) (h7:attributeBase o name (Cx.env X) (eval o (Cx.env X))=eval o (Cx.env X):=by rfl) (h8:(((List.all (backTo cpos (starEach (e :: es) (Cx.env X))) fun x=>!Prod.fst x) && List.all (backToKw cpos (keywordEach [] (Cx.env X))) fun x=>Option.isSome (Prod.fst x)) && decide ((List.length (e :: es)+List.length ([]:List PySem.Keyword)+if List.isEmpty ([]:List PySem.Keyword)=true then 0 else 1) < 30))=true:=by rfl) (h9:(Pos.endLine apos == Pos.line cpos)=true:=by rfl) (h10:starEach (e :: es) (Cx.env X)=(false,eval e (Cx.env X)) :: starEach es (Cx.env X):=by rfl) (h11:(List.any (backTo cpos (starEach es (Cx.env X))) fun x=>Prod.fst x)=false:=by rfl):QE X (Expr.Call (Expr.Attribute o name apos) (e :: es) [] cpos) (tBM (Cx.K X) T r to t):=
 ⟨@jgI _ _ _ _ _ _ _ _ _ _ _ _ h1 h2 h3 h4 h5.h h6.h h7 h8 h9 h10 h11⟩
theorem jd3 {X:Cx} {o:Expr} {to:TE} {name:Str} {apos cpos:Pos} {T id:String} {r:V→List V→Hp→VK→Prop} (h1:PlainAttrs T) (h2:Slot T name id) (h3:typeOf (Value.builtin id)=pure (Value.type "method_descriptor")) (h4:MtR X id r) (h5:QE X o to) (h6:attributeBase o name (Cx.env X) (eval o (Cx.env X))=eval o (Cx.env X):=by rfl) (h7:(Pos.endLine apos == Pos.line cpos)=true:=by rfl):QE X (Expr.Call (Expr.Attribute o name apos) [] [] cpos) (jgr (Cx.K X) T r to):=
 ⟨@jfM _ _ _ _ _ _ _ _ _ h1 h2 h3 h4 h5.h h6 h7⟩
theorem jz {X:Cx} {a b:Expr} {ta tb:TE} {pos:Pos} {op:CmpOp} {r:R2} (h1:OpR X (compareOp op) r) (h2:QE X a ta) (h3:QE X b tb) (h4:behindInMarks op b=false):QT X (Expr.Compare a [op] [b] pos) (je4 (tOp r ta tb)):=
 ⟨@jeg _ _ _ _ _ _ _ _ h1 h2.h h3.h h4⟩
theorem K6 {X:Cx} {a b:Expr} {pos:Pos} {tA tB':TT} {qc:List Expr} (h1:QT X a tA) (h2:QW X (Expr.BoolOp BoolOp.And (b :: qc) pos) tB'):QW X (Expr.BoolOp BoolOp.And (a :: b :: qc) pos) (jgs tA tB'):=
 ⟨@jfA _ _ _ _ _ _ _ h1.h h2.h⟩
theorem Jx {X:Cx} {a:Expr} {pos:Pos} {tA:TT} (h1:QT X a tA):QW X (Expr.BoolOp BoolOp.And [a] pos) tA:=
 ⟨@jed _ _ _ _ h1.h⟩
theorem ZF {X:Cx} {a b:Expr} {pos:Pos} {tA tB':TT} {qc:List Expr} (h1:QT X a tA) (h2:QW X (Expr.BoolOp BoolOp.Or (b :: qc) pos) tB'):QW X (Expr.BoolOp BoolOp.Or (a :: b :: qc) pos) (tOr tA tB'):=
 ⟨@jgA _ _ _ _ _ _ _ h1.h h2.h⟩
theorem K5 {X:Cx} {a:Expr} {pos:Pos} {tA:TT} (h1:QT X a tA):QW X (Expr.BoolOp BoolOp.Or [a] pos) tA:=
 ⟨@jfz _ _ _ _ h1.h⟩
theorem kq {X:Cx}:QO X none jap:=
 ⟨@jep _⟩
theorem jO {X:Cx} {e:Expr} {te:TE} (h1:QE X e te):QO X (some e) (je5 te):=
 ⟨@jeo _ _ _ h1.h⟩
theorem qQ {X:Cx} {tg a:Expr} {ta:TA} {p pos:Pos} (h1:Gl X (Str.ofString "range")) (h2:Cx.mg X (Str.ofString "range")=none) (h3:QA X [a] ta) (h4:starEach [a] (Cx.env X)=[(false,eval a (Cx.env X))]:=by rfl):QI X tg (Expr.Call (Expr.Name (Str.ofString "range") p) [a] [] pos) (jfl ta):=
 ⟨@jbs _ _ _ _ _ _ h1 h2 h3.h h4⟩
theorem kW {X:Cx} {tg l:Expr} {tl:TE} (h1:QE X l tl):QI X tg l (jfm (Cx.K X) tl):=
 ⟨@jeq _ _ _ _ h1.h⟩
theorem kO {X:Cx} {tg l:Expr} {tl:TE} (h1:QE X l tl):QI X tg l (jgV (Cx.K X) tl):=
 ⟨@jfI _ _ _ _ h1.h⟩
theorem jb1 {X:Cx} {elts:List Expr} {x1:Nat} {tp:Pos} {a:Expr} {ta:TA} {p pos:Pos} (h1:Gl X (Str.ofString "enumerate")) (h2:Cx.mg X (Str.ofString "enumerate")=none) (h3:QA X [a] ta) (h4:starEach [a] (Cx.env X)=[(false,eval a (Cx.env X))]:=by rfl):QI X (Expr.Tuple elts x1 tp) (Expr.Call (Expr.Name (Str.ofString "enumerate") p) [a] [] pos) (jfn (Cx.K X) ta):=
 ⟨@jer _ _ _ _ _ _ _ _ h1 h2 h3.h h4⟩
theorem za {X:Cx} {elts:List Expr} {x1:Nat} {tp:Pos} {a:Expr} {ta:TA} {p pos:Pos} (h1:Gl X (Str.ofString "enumerate")) (h2:Cx.mg X (Str.ofString "enumerate")=none) (h3:QA X [a] ta) (h4:starEach [a] (Cx.env X)=[(false,eval a (Cx.env X))]:=by rfl):QI X (Expr.Tuple elts x1 tp) (Expr.Call (Expr.Name (Str.ofString "enumerate") p) [a] [] pos) (jdB (Cx.K X) ta):=
 ⟨@jcN _ _ _ _ _ _ _ _ h1 h2 h3.h h4⟩
theorem jx {X:Cx} {pos:Pos} {i:Nat} {x:Str} {e:Expr} {te:TE} {pos':Pos} (h1:List.Nodup (Cx.N X)) (h2:(Cx.N X)[i]?=some x) (h3:L2.Loc (Env.scope (Cx.env X)) x) (h4:QE X e te) (h5:swapsWith e (some (Expr.Name x pos')) (Pos.line pos) (Cx.env X)=pure false:=by rfl) (h6:Cx.fn X x=true∨List.lookup x (Scope.names (Env.scope (Cx.env X)))=some NameKind.local:=by first | exact .inl rfl | exact .inr rfl | assumption):QS X (Stmt.Assign [Expr.Name x pos'] e pos) (jbm te (kX i)):=
 ⟨@jfC _ _ _ _ _ _ _ h1 h2 h3 h4.h h5 h6⟩
theorem zH {X:Cx} {scope:Scope} {elt tg iter:Expr} {ifs:List Expr} {pos:Pos} {wi:TI} {g:TG} {tt:TT} {te:TE} {i:Nat} {y:Str} {py spos:Pos} (h1:List.Nodup (Cx.N X)) (h2:(Cx.N X)[i]?=some y) (h3:L2.Loc (Env.scope (Cx.env X)) y) (own:List Str) (fr:List Nat) (h4:Cx.calm X=true) (h5:CompOk X scope fr) (h6:QI (Cx.nox X) tg iter wi) (h7:∀ (s:PySem.Shared) (H:Hp) (ex:List PySem.Addr),QG (blk (Cx.nox X) scope own fr s H ex) tg g∧QTs (blk (Cx.nox X) scope own fr s H ex) ifs tt∧QE (blk (Cx.nox X) scope own fr s H ex) elt te) (h8:∀ (x:Value),foldedSetIterable iter (Cx.env X) x=pure x:=by intro _;rfl) (h9:swapsWith (Expr.ListComp elt [{ target:=tg,iter:=iter,ifs:=ifs,is_async:=0 }] scope pos) (some (Expr.Name y py)) (Pos.line spos) (Cx.env X)=pure true:=by rfl) (h10:Cx.fn X y=true∨List.lookup y (Scope.names (Env.scope (Cx.env X)))=some NameKind.local:=by first | exact .inl rfl | exact .inr rfl | assumption):QS (Cx.nox X) (Stmt.Assign [Expr.Name y py] (Expr.ListComp elt [{ target:=tg,iter:=iter,ifs:=ifs,is_async:=0 }] scope pos) spos) (jbm (Kx own fr wi g tt te) (kX i)):=
 ⟨@ZR _ _ _ _ _ _ _ _ _ _ _ _ _ _ _ h1 h2 h3 own fr h4 h5 h6.h (fun s H ex=>⟨(h7 s H ex).1.h,(h7 s H ex).2.1.h,(h7 s H ex).2.2.h⟩) h8 h9 h10⟩
theorem zI {X:Cx} {o i value:Expr} {pos pos':Pos} {td ty tv:TE} (h1:Around.units (Cx.A X)+1 < cLine) (h2:QE X o td) (h3:QE X i ty) (h4:QE X value tv) (h5:swapsWith value (some (Expr.Subscript o i pos')) (Pos.line pos) (Cx.env X)=pure false):QS X (Stmt.Assign [Expr.Subscript o i pos'] value pos) (jff td ty tv):=
 ⟨@jem _ _ _ _ _ _ _ _ _ h1 h2.h h3.h h4.h h5⟩
theorem K7 {X:Cx} {o value:Expr} {f:Str} {pos pos':Pos} {ta tv:TE} (h1:QE X o ta) (h2:QE X value tv) (h3:swapsWith value (some (Expr.Attribute o f pos')) (Pos.line pos) (Cx.env X)=pure false):QS X (Stmt.Assign [Expr.Attribute o f pos'] value pos) (jgw (Cx.K X) ta tv f):=
 ⟨@jfF _ _ _ _ _ _ _ _ h1.h h2.h h3⟩
theorem zh {X:Cx} {pos:Pos} {tg e:Expr} {te:TE} {g:TG} (h1:QE X e te) (h2:QG X tg g) (h3:swapsWithSole [tg] e (Pos.line pos) (Cx.env X)=pure false:=by rfl) (h4:swappedStores [tg] e (Cx.env X)=pure none:=by rfl) (h5:List.map (fun x=>Prod.snd x) (assignEach [tg] (Cx.env X))=[assign tg (Cx.env X)]:=by rfl):QS X (Stmt.Assign [tg] e pos) (jbm te g):=
 ⟨@jfG _ _ _ _ _ _ h1.h h2.h h3 h4 h5⟩
theorem jw {X:Cx} {e:Expr} {te:TE} {pos:Pos} (h1:QE X e te):QS X (Stmt.Return (some e) pos) (jgj te):=
 ⟨@jfD _ _ _ _ h1.h⟩
theorem jL {X:Cx} {t u:TS} {pos:Pos} {c:Expr} {a b:List Stmt} {tc:TT} (h1:QT X c tc) (h2:QSs X a t) (h3:QSs X b u):QS X (Stmt.If c a b pos) (jgm tc t u):=
 ⟨@jgB _ _ _ _ _ _ _ _ h1.h h2.h h3.h⟩
theorem jZ {X:Cx} {tg iter:Expr} {body:List Stmt} {wi:TI} {g:TG} {tb:TS} {pos:Pos} (h1:PassesOwn (model (Cx.prog X) (Cx.w X)) (Cx.A X) (Cx.env X) (Cx.xe X)) (h2:Cx.calm X=true) (h3:QI X tg iter wi) (h4:QG X tg g) (h5:QSs X body tb) (h6:∀ (x:Value),foldedSetIterable iter (Cx.env X) x=pure x:=by intro _;rfl):QS X (Stmt.For tg iter body [] pos) (jgo wi g tb):=
 ⟨@jfE _ _ _ _ _ _ _ _ h1 h2 h3.h h4.h h5.h h6⟩
theorem ja8 {X:Cx} {pos:Pos} {c:Expr} {body:List Stmt} {tc:TT} {tb:TS} (h1:PassesOwn (model (Cx.prog X) (Cx.w X)) (Cx.A X) (Cx.env X) (Cx.xe X)) (h2:QT X c tc) (h3:QSs X body tb):QS X (Stmt.While c body [] pos) (ZN tc tb):=
 ⟨@jcJ _ _ _ _ _ _ h1 h2.h h3.h⟩
theorem jK {X:Cx} {e:Expr} {te:TE} {pos:Pos} (h1:QE X e te) (h2:swapsWith e none (Pos.line pos) (Cx.env X)=pure false:=by rfl):QS X (Stmt.Expr e pos) (je9 te):=
 ⟨@jel _ _ _ _ h1.h h2⟩
theorem jt {X:Cx} {pos:Pos} {i:Nat} {x:Str} (h1:List.Nodup (Cx.N X)) (h2:(Cx.N X)[i]?=some x) (h3:L2.Loc (Env.scope (Cx.env X)) x) (h4:Cx.fn X x=true∨List.lookup x (Scope.names (Env.scope (Cx.env X)))=some NameKind.local:=by first | exact .inl rfl | exact .inr rfl | assumption):QG X (Expr.Name x pos) (kX i):=
 ⟨@jet _ _ _ _ h1 h2 h3 h4⟩
theorem ko {X:Cx} {pos:Pos} {es:List Expr} {k:Nat} {t:TGs} {n:Nat} (h1:Cx.calm X=true) (h2:QGs X es t) (h3:List.length (assignEach es (Cx.env X))=n:=by rfl) (h4:List.findIdx? (fun x=>Prod.fst x) (assignEach es (Cx.env X))=none:=by rfl):QG X (Expr.Tuple es k pos) (jgW (Cx.K X) n t):=
 ⟨@jfJ _ _ _ _ _ _ h1 h2.h h3 h4⟩
theorem j9 {X:Cx}:QGs X [] jgX:=
 ⟨@jes _⟩
theorem jA {X:Cx} {e:Expr} {es:List Expr} {t:TG} {u:TGs} (h1:QG X e t) (h2:QGs X es u) (h3:List.map (fun x=>Prod.snd x) (assignEach (e :: es) (Cx.env X))=assign e (Cx.env X) :: List.map (fun x=>Prod.snd x) (assignEach es (Cx.env X)):=by rfl):QGs X (e :: es) (jfo t u):=
 ⟨@jcO _ _ _ _ _ h1.h h2.h h3⟩
theorem jD {X:Cx}:QSs X [] je7:=
 ⟨@jei _⟩
theorem ji {X:Cx} {st:Stmt} {t:TS} (h1:QS X st t):QSs X [st] t:=
 ⟨@jeh _ _ _ h1.h⟩
theorem jg {X:Cx} {st:Stmt} {qc:List Stmt} {t u:TS} (h1:QS X st t) (h2:QSs X qc u):QSs X (st :: qc) (jgi t u):=
 ⟨@jcI _ _ _ _ _ h1.h h2.h⟩
theorem qk {X:Cx}:QTs X [] JD:=
 ⟨@jef _⟩
theorem yz {X:Cx} {c:Expr} {t:TT} (h1:QT X c t):QTs X [c] t:=
 ⟨@jee _ _ _ h1.h⟩
theorem jd {X:Cx}:QA X [] jgk:=
 ⟨@jc4 _⟩
theorem ja {X:Cx} {e:Expr} {es:List Expr} {te:TE} {t:TA} (h1:QE X e te) (h2:QA X es t) (h3:kn e=true:=by rfl):QA X (e :: es) (jcs te t):=
 ⟨@jgL _ _ _ _ _ h1.h h2.h h3⟩
theorem jbZ {X:Cx} {pos:Pos} {i j l:Nat} {x y z:Str} {a b c:Expr} {ta:TA} {px py pz pt:Pos} {kt k2:Nat} {pt2:Pos} (h1:Cx.calm X=true) (h2:List.Nodup (Cx.N X)) (h3:(Cx.N X)[i]?=some x) (h4:(Cx.N X)[j]?=some y) (h5:(Cx.N X)[l]?=some z) (h6:i≠j) (h7:i≠l) (h8:j≠l) (h9:L2.Loc (Env.scope (Cx.env X)) x) (h10:L2.Loc (Env.scope (Cx.env X)) y) (h11:L2.Loc (Env.scope (Cx.env X)) z) (h12:QA X [a,b,c] ta) (h13:swappedStores [Expr.Tuple [Expr.Name x px,Expr.Name y py,Expr.Name z pz] kt pt] (Expr.Tuple [a,b,c] k2 pt2) (Cx.env X)=pure (some [x,y,z])) (h14:Cx.fn X x=true∨List.lookup x (Scope.names (Env.scope (Cx.env X)))=some NameKind.local) (h15:Cx.fn X y=true∨List.lookup y (Scope.names (Env.scope (Cx.env X)))=some NameKind.local) (h16:Cx.fn X z=true∨List.lookup z (Scope.names (Env.scope (Cx.env X)))=some NameKind.local) (h17:swapsWithSole [Expr.Tuple [Expr.Name x px,Expr.Name y py,Expr.Name z pz] kt pt] (Expr.Tuple [a,b,c] k2 pt2) (Pos.line pos) (Cx.env X)=pure false:=by rfl):QS X (Stmt.Assign [Expr.Tuple [Expr.Name x px,Expr.Name y py,Expr.Name z pz] kt pt] (Expr.Tuple [a,b,c] k2 pt2) pos) (je6 i j l ta):=
 ⟨@jej _ _ _ _ _ _ _ _ _ _ _ _ _ _ _ _ _ _ _ h1 h2 h3 h4 h5 h6 h7 h8 h9 h10 h11 h12.h h13 h14 h15 h16 h17⟩
theorem jb3 {X:Cx} {x:Str} {v:V} {u:Value} {pos:Pos} (h1:Gl X x) (h2:Cx.mg X x=some u) (h3:RelV v u) (h4:(x == Str.ofString "__debug__")=false:=by decide):QE X (Expr.Name x pos) (tC v):=
 ⟨@jew _ _ _ _ _ h1 h2 h3 h4⟩
theorem ja9 {X:Cx} {st:Stmt}:QS X st jcp:=⟨jcK⟩
theorem qC {X:Cx} {st:Stmt} {t:TS} (h:QS X st t):QS X st (je8 t):=⟨jek h.h⟩
theorem Fun.okZ {P:Program} {w:World} {K:W.Frag} {mg:Str→Option Value} {base:Heap} {x qual:Str} {st:Stmt} {f:Addr} {fd:FuncData} {N ps:List Str} {k:Nat} {sp:Sp} (F:Fun K x qual st f fd) (S:FnScope N ps (js st)) (len:∀ vs H Q E,sp vs H Q E→vs.length=ps.length)
  (hbody:∀ (cdv:Value) (A:Around) (outer:List Env) (s:Shared) (H:Hp) (vs:List V) (Q:VK) (E:XK),Room k (A.deeper (envOfC qual (js st) s.heap.objs.size f cdv))→sp vs H Q E→
   ∃ t,QSs (Zz CX0 P w K mg base N qual (js st) f cdv A outer s H E).nox (qL st) t∧t { nx:=fun _ H'=>Q .non H',rt:=Q } (ym N vs) H):FnOk P w K mg base CX0 (k+1) f fd ps sp:=
 F.ok S len fun cdv A outer s H vs Q E hr h=>let ⟨t,a,b⟩:=hbody cdv A outer s H vs Q E hr h;⟨t,a.h,b⟩
theorem zpd {X:Cx} {e:Expr} {R:RD} (h:PD X e R):QE X e (tHD R):=⟨h.h⟩
open PySem PySem.Spec PyProof.Rows PySem.W
def SetAtS (prog:Program) (w:World) (h:Heap) (a:Addr) (led:Bool) (σ:List Str):Prop:=∃ (es:Array (Int×Value)) (ep:Nat) (t:SetTable),
 h.get? a=some { cls:=.type "set",dict:=none,data:=.set es ep t }∧ElemsOf (PySem.strKind prog w) es.toList∧(∃ l:List Str,StrsAre (es.toList.map (·.2)) l∧l.Perm σ)∧es.size < scanBound∧t.fits es.size=true∧TabOk led t
theorem SetAtS.kept {prog:Program} {w:World} {h h':Heap} {a:Addr} {led:Bool} {σ:List Str} (x:SetAtS prog w h a led σ) (k:∀ o,h.get? a=some o→h'.get? a=some o):SetAtS prog w h' a led σ:=by
 obtain ⟨es,ep,t,e,r⟩:=x
 exact ⟨es,ep,t,k _ e,r⟩
theorem JF {vs:List Value} {l:List Str} (h:StrsAre vs l) {v:Str}:v∈l↔∃ t,Value.str v t∈vs:=by
 induction h with
 | nil=>simp
 | cons n t h ih=>
  constructor
  ·intro hv
   rcases List.mem_cons.mp hv with rfl | hv
   ·exact ⟨t,List.mem_cons_self⟩
   ·obtain ⟨t',ht⟩:=ih.mp hv
    exact ⟨t',List.mem_cons_of_mem _ ht⟩
  ·rintro ⟨t',ht⟩
   rcases List.mem_cons.mp ht with e | ht
   ·cases e
    exact List.mem_cons_self
   ·exact List.mem_cons_of_mem _ (ih.mpr ⟨t',ht⟩)
theorem Ky:∀ {vs:List Value} {l:List Str} {v:Str} {t:Tok},StrsAre vs l→StrsAre (vs++[.str v t]) (l++[v])
 | _,_,v,t,.nil=>.cons v t .nil
 | _,_,v,t,.cons n t' h=>.cons n t' (Ky h)
theorem zZ {vs vs':List Value} {l:List Str} (h:StrsAre vs l) (p:vs'.Perm vs):∃ l',StrsAre vs' l'∧l'.Perm l:=by
 refine ⟨vs'.map strOf,strsAre_map vs' fun v hv=>h.all v (p.mem_iff.mp hv),?_⟩
 rw [← h.strs]
 exact p.map _
section
variable {prog:Program} {w:World} {A:Around} {E:Value→Shared→Prop} {s:Shared}
theorem KD {es:Array (Int×Value)} {l:List Str} (hI:StrsAre (es.toList.map (·.2)) l) {v:Str}:(∃ j,List.findIdx? (fun e=>(PySem.strKind prog w).is v e.2) es.toList=some j)↔v∈l:=by
 rw [JF hI]
 constructor
 ·rintro ⟨j,hj⟩
  obtain ⟨hlt,h1,_⟩:=List.findIdx?_eq_some_iff_getElem.mp hj
  obtain ⟨x,t,e⟩:=hI.all es.toList[j].2 (List.mem_map.mpr ⟨_,List.getElem_mem hlt,rfl⟩)
  have:v=x:=by
   rw [e] at h1
   exact (PySem.strKind prog w).inj _ _ _ h1 (strKind_is _ _ _ _)
  subst this
  exact ⟨t,List.mem_map.mpr ⟨_,List.getElem_mem hlt,e⟩⟩
 ·rintro ⟨t,ht⟩
  obtain ⟨e,he,e2⟩:=List.mem_map.mp ht
  cases hf:List.findIdx? (fun e=>(PySem.strKind prog w).is v e.2) es.toList with
  | some j=>exact ⟨j,rfl⟩
  | none=>
   have:=List.findIdx?_eq_none_iff.mp hf e he
   rw [e2,strKind_is] at this
   cases this
theorem JO {a:Addr} {led:Bool} {σ:List Str} {es es':Array (Int×Value)} {ep:Nat} {t t':SetTable} {h:Heap} (ho:h.get? a=some { cls:=.type "set",dict:=none,data:=.set es ep t })
  (hel:ElemsOf (PySem.strKind prog w) es'.toList) (hl:∃ l:List Str,StrsAre (es'.toList.map (·.2)) l∧l.Perm σ) (hb:es'.size < scanBound) (hf:t'.fits es'.size=true) (ht:TabOk led t') :
  (h.update a (Obj.putSet es' t')).get? a=some { cls:=.type "set",dict:=none,data:=.set es' (ep+1) t' }∧SetAtS prog w (h.update a (Obj.putSet es' t')) a led σ:=by
 have hg:(h.update a (Obj.putSet es' t')).get? a=some { cls:=.type "set",dict:=none,data:=.set es' (ep+1) t' }:=by
  have:=Heap.get?_update_self (Obj.putSet es' t') ho (by rw [putSet_of es' t' rfl];rfl)
  rw [putSet_of es' t' rfl] at this
  exact this
 exact ⟨hg,es',ep+1,t',hg,hel,hl,hb,hf,ht⟩
theorem yE {a:Addr} {led:Bool} {σ:List Str} {v:Str} {tk:Tok} {Q:Bool→Shared→Prop} (hS:SetAtS prog w s.heap a led σ) (hroom:σ.length+1 < scanBound)
  (h:∀ b h',Heap.SameBut a s.heap h'→SetAtS prog w h' a led (if v∈σ then σ else σ++[v])→Q b { s with heap:=h' }):wpAny (model prog w) A (setAddHashed a (.str v tk) ((PySem.strKind prog w).hash v)) Q E s:=by
 obtain ⟨es,ep,t,ho,hel,⟨l,hI,hp⟩,hb,hf,ht⟩:=hS
 have hsz:es.size=σ.length:=by
  have h1:=hI.length
  have h2:=hp.length_eq
  rw [List.length_map,Array.length_toList] at h1
  omega
 unfold setAddHashed setAddHashedIn
 refine wpAny_holding (wpAny_bind (wpAny_setState_of ho rfl hf ?_))
 dsimp only
 rw [byScan_of (knd:=PySem.strKind prog w) rfl hb hel]
 simp only [↓reduceIte]
 unfold setAddByScan
 refine wpAny_bind (wpAny_bind (wpAny_rule (wpAny_bind (wpAny_setScan_of (knd:=PySem.strKind prog w) (strKind_is _ _ _ _) ho rfl hf hel ?_))))
 cases hr:List.findIdx? (fun e=>(PySem.strKind prog w).is v e.2) es.toList with
 | some j=>
  have hv:v∈σ:=hp.mem_iff.mp ((KD hI).mp ⟨j,hr⟩)
  dsimp only
  refine wpAny_pure (wpAny_pure ?_)
  have:=h false s.heap (Heap.SameBut.refl a s.heap) (by rw [if_pos hv];exact ⟨es,ep,t,ho,hel,⟨l,hI,hp⟩,hb,hf,ht⟩)
  exact this
 | none=>
  have hv:¬ v∈σ:=fun z=>by
   obtain ⟨j,hj⟩:=(KD (prog:=prog) (w:=w) hI).mpr (hp.mem_iff.mpr z)
   rw [hr] at hj
   cases hj
  rw [if_neg hv] at h
  dsimp only
  have gw:∀ (b:Bool) {s₁:Shared} {Q':Unit→Shared→Prop},Q' () s₁→wpAny (model prog w) A (match b with | true=>rule "set.scan.the-table-gave-way" | false=>pure ()) Q' E s₁:=fun b s₁ Q' hq=>by
   cases b
   ·exact wpAny_pure hq
   ·exact wpAny_rule hq
  have p1:=layNew_perm t es ((PySem.strKind prog w).hash v) (.str v tk)
  have f1:=layNew_fits t es ((PySem.strKind prog w).hash v) (.str v tk)
  have k1:=jbJ ht es ((PySem.strKind prog w).hash v) (.str v tk)
  generalize layNew t es ((PySem.strKind prog w).hash v) (.str v tk)=L at p1 f1 k1 ⊢
  obtain ⟨es1,t1,wd,gv⟩:=L
  dsimp only at p1 f1 k1 ⊢
  rw [Array.toList_push] at p1
  have hel1:ElemsOf (PySem.strKind prog w) es1.toList:=(hel.push (strKind_is _ _ _ _) rfl).perm p1
  have hI1:∃ l:List Str,StrsAre (es1.toList.map (·.2)) l∧l.Perm (σ++[v]):=by
   have pm:=p1.map (·.2)
   rw [List.map_append] at pm
   obtain ⟨l',i1,i2⟩:=zZ (Ky (t:=tk) hI) pm
   exact ⟨l',i1,i2.trans (hp.append_right _)⟩
  have hs1:es1.size=es.size+1:=by
   have:=p1.length_eq
   rw [List.length_append,Array.length_toList,Array.length_toList] at this
   simpa using this
  have hb1:es1.size < scanBound:=by omega
  refine wpAny_bind (gw _ ?_)
  have fin:∀ t2:SetTable,t2.fits es1.size=true→TabOk led t2→wpAny (model prog w) A (do
    storeSet a es1 t2
    if (!wd && t2.tooFull)=true then do
      (match (relayAll t2 es1 (SetTable.grown es1.size)).2.2 with | true=>rule "set.scan.the-table-gave-way" | false=>pure ():Sem Unit)
      storeSet a (relayAll t2 es1 (SetTable.grown es1.size)).1 (relayAll t2 es1 (SetTable.grown es1.size)).2.1
      pure (some true)
     else pure (some true)) (fun a_1 s'=>wpAny (model prog w) A (match a_1 with | some added=>pure added | none=>setAddHashedIn a (.str v tk) ((PySem.strKind prog w).hash v) 99999) Q E s') E s:=by
   intro t2 f2 k2
   refine wpAny_bind (wpAny_storeSet_of ho rfl ?_ (fits_of_scanBound hb1))
   obtain ⟨ho1,hS1⟩:=JO (prog:=prog) (w:=w) (σ:=σ++[v]) ho hel1 hI1 hb1 f2 k2
   have sb1:=Heap.SameBut.update s.heap a (Obj.putSet es1 t2)
   split
   ·have p2:=relayAll_perm t2 es1 (SetTable.grown es1.size)
    have f3:=relayAll_fits t2 es1 (SetTable.grown es1.size)
    have k3:=jcE k2 es1 (SetTable.grown es1.size)
    generalize relayAll t2 es1 (SetTable.grown es1.size)=L at p2 f3 k3 ⊢
    obtain ⟨es2,t3,gv2⟩:=L
    dsimp only at p2 f3 k3 ⊢
    have hs2:es2.size=es1.size:=by rw [← Array.length_toList,p2.length_eq,Array.length_toList]
    have hI2:∃ l:List Str,StrsAre (es2.toList.map (·.2)) l∧l.Perm (σ++[v]):=by
     obtain ⟨l1,i1,i2⟩:=hI1
     obtain ⟨l',j1,j2⟩:=zZ i1 (p2.map (·.2))
     exact ⟨l',j1,j2.trans i2⟩
    refine wpAny_bind (gw _ (wpAny_bind (wpAny_storeSet_of ho1 rfl ?_ (fits_of_scanBound (by omega)))))
    obtain ⟨_,hS2⟩:=JO (prog:=prog) (w:=w) (σ:=σ++[v]) ho1 (hel1.perm p2) hI2 (by omega) f3 k3
    exact wpAny_pure (wpAny_pure (h true _ (sb1.trans (Heap.SameBut.update _ a _)) hS2))
   ·exact wpAny_pure (wpAny_pure (h true _ sb1 hS1))
  split
  ·refine wpAny_bind ?_
   rw [hashByValue_scannable 8 rfl]
   refine wpAny_pure ?_
   refine fin _ ?_ ?_
   ·split
    ·exact f1
    ·exact SetTable.fits_plain_off f1
   ·split
    ·exact k1
    ·exact jbr k1
  ·refine wpAny_bind (wpAny_pure ?_)
   simp only [↓reduceIte]
   exact fin _ f1 k1
end
def dedupS (ns:List Str):List Str:=ns.foldl (fun σ v=>if v∈σ then σ else σ++[v]) []
theorem zS (ns:List Str) (v:Str):dedupS (ns++[v])=if v∈dedupS ns then dedupS ns else dedupS ns++[v]:=by unfold dedupS;rw [List.foldl_append];rfl
theorem qz (ns:List Str):(dedupS ns).Nodup∧(dedupS ns).length≤ns.length∧∀ x,x∈dedupS ns↔x∈ns:=by
 have key:∀ (l:List Str),(dedupS l.reverse).Nodup∧(dedupS l.reverse).length≤l.reverse.length∧∀ x,x∈dedupS l.reverse↔x∈l.reverse:=by
  intro l
  induction l with
  | nil=>exact ⟨List.nodup_nil,Nat.le_refl _,fun x=>Iff.rfl⟩
  | cons v l ih=>
   rw [List.reverse_cons,zS]
   obtain ⟨h1,h2,h3⟩:=ih
   split
   ·next h=>
    refine ⟨h1,by rw [List.length_append];omega,fun x=>?_⟩
    rw [List.mem_append,h3]
    constructor
    ·exact .inl
    ·rintro (z | z)
     ·exact z
     ·rw [List.mem_singleton.mp z]
      exact (h3 v).mp h
   ·next h=>
    refine ⟨?_,by rw [List.length_append,List.length_append];simp;simpa using h2,fun x=>by rw [List.mem_append,List.mem_append,h3]⟩
    rw [List.nodup_append]
    refine ⟨h1,by simp,fun x hx y hy e=>?_⟩
    rw [List.mem_singleton] at hy
    subst hy e
    exact h hx
 have:=key ns.reverse
 rw [List.reverse_reverse] at this
 exact this
section
variable {prog:Program} {w:World} {A:Around} {E:Value→Shared→Prop} {R:Result→Shared→Prop}
theorem set_loopS {S it l:Addr} {led:Bool} {its:List Value} {ns:List Str} (hh:A.handled=none) (hI:StrsAre its ns) (hSl:S≠l) (hSi:S≠it) (hli:l≠it) (hz:ns.length+1 < scanBound) :
  ∀ (k i:Nat) (s:Shared),i+k=ns.length→s.heap.IsListIter it l i→s.heap.IsList l its.toArray→SetAtS prog w s.heap S led (dedupS (ns.take i))→
   (∀ h' tk,(∀ b o,b≠S→b≠it→s.heap.get? b=some o→h'.get? b=some o)→SetAtS prog w h' S led (dedupS ns)→R (.ok (.ret .none)) { s with heap:=h',toks:=tk })→
   codeAny (model prog w) A (.builtin "set.update.loop" ⟨[.ref S,.ref it],[]⟩) R s:=by
 intro k
 induction k with
 | zero=>
  intro i s hk hit ht hS hR
  have hl:=hI.length
  refine codeAny_builtin F.entry_set_update_loop ?_
  rw [Around.under_plainId F.plain_set_update_loop _]
  show wpAny _ A.in1 (pyNext (.ref it) >>= _) _ _ s
  refine wpAny_bind (wpAny_pyNext_list_end (A:=A.in1) hh hit ht (by simp;omega) fun h1 he1=>?_)
  show wpAny _ A.in1 (ret Value.none) _ _ _
  refine wpAny_pure ?_
  rw [show ns.take i=ns from List.take_of_length_le (by omega)] at hS
  exact hR h1 s.toks (fun b o _ hb e=>he1 b o hb e) (hS.kept fun o e=>he1 S o hSi e)
 | succ k ih=>
  intro i s hk hit ht hS hR
  have hl:=hI.length
  have hlt:i < ns.length:=by omega
  have hgi:its.toArray[i]?=some its[i]:=by simp [hl,hlt]
  obtain ⟨t,et⟩:∃ t,its[i]=.str ns[i] t:=by
   obtain ⟨t,ht⟩:=hI.get i ns[i] (by simp [hlt])
   exact ⟨t,by rw [List.getElem?_eq_getElem (by omega)] at ht;exact Option.some.inj ht⟩
  refine codeAny_builtin F.entry_set_update_loop ?_
  rw [Around.under_plainId F.plain_set_update_loop _]
  show wpAny _ A.in1 (pyNext (.ref it) >>= _) _ _ s
  refine wpAny_bind (wpAny_pyNext_list_item hit ht hgi fun h1 hit1 hs1=>?_)
  have ht1:h1.IsList l its.toArray:=ht.extBut hs1.extBut hli
  have hS1:SetAtS prog w h1 S led (dedupS (ns.take i)):=hS.kept fun o e=>(hs1.2 S hSi).trans e
  rw [et]
  show wpAny _ A.in1 (holding [Value.str ns[i] t] (setAdd S (.str ns[i] t)) >>= _) _ _ _
  refine wpAny_bind (wpAny_holding ?_)
  unfold setAdd
  refine wpAny_holding ?_
  refine wpAny_bind ((PySem.strKind prog w).pyHash (k:=ns[i]) (strKind_is _ _ _ _) ?_)
  have hroom:(dedupS (ns.take i)).length+1 < scanBound:=by
   have:=(qz (ns.take i)).2.1
   rw [List.length_take] at this
   omega
  refine yE (s:={ s with heap:=h1,toks:=s.toks+1 }) hS1 hroom fun b h2 hs2 hS2=>?_
  have e2:dedupS (ns.take (i+1))=if ns[i]∈dedupS (ns.take i) then dedupS (ns.take i) else dedupS (ns.take i)++[ns[i]]:=by
   rw [List.take_succ,List.getElem?_eq_getElem hlt]
   exact zS _ _
  rw [← e2] at hS2
  have hb2:∀ b o,b≠S→h1.get? b=some o→h2.get? b=some o:=fun b o hb e=>(hs2.2 b hb).trans e
  refine wpAny_pure ⟨plainId_quiet F.plain_set_update_loop _,ih (i+1) _ (by omega) ?_ ?_ hS2 fun h' tk hk' hS'=>hR h' tk (fun b o b1 b2 e=>hk' b o b1 b2 (hb2 b o b1 ((hs1.2 b b2).trans e))) hS'⟩
  ·obtain ⟨oi,z1,z2⟩:=hit1
   exact ⟨oi,hb2 it oi hSi.symm z1,z2⟩
  ·obtain ⟨oi,z1,z2⟩:=ht1
   exact ⟨oi,hb2 l oi hSl.symm z1,z2⟩
end
end L2
namespace PySem
section
variable {prog:Program} {w:World} {A:Around} {E:Value→Shared→Prop} {s:Shared}
set_option maxHeartbeats 3200000 in
theorem set_of_listS {l:Addr} {its:List Value} {ns:List Str} {nl:Nat} {sl:Array (Option Value)} {dd:Option Addr} {Q:Value→Shared→Prop} (hh:A.handled=none) (hol:s.heap.get? l=some { cls:=.type "list",dict:=dd,data:=.seq its.toArray nl,slots:=sl }) (hi:PyProof.Rows.StrsAre its ns) (hb:ns.length+1 < scanBound)
  (h:∀ (h':Heap) (tk:Nat),L2.SetAtS prog w h' s.heap.objs.size (L2.ledOf w) (L2.dedupS ns)→(∀ b o,s.heap.get? b=some o→h'.get? b=some o)→Q (.ref s.heap.objs.size) { s with heap:=h',toks:=tk }) :
  wpAny (model prog w) A (call (.type "set") [.ref l]) Q E s:=by
 obtain ⟨c,tl,hmro⟩:=F.called_set.mro
 have hmade:=F.called_set.made
 have hsub:=F.called_set.sub
 refine wpAny_call (codeAny_of_tree ?_)
 show wpAny _ _ (callAny (.type "set") _) _ _ _
 refine wpAny_pure ⟨Code.quiet_builtin _ (by decide +kernel),codeAny_builtin F.entry_type_call ?_⟩
 rw [Around.under_plain (weight_type_call_type "set" [.ref l] []) rfl]
 have h1:=F.called_set.notType
 have h2:=F.called_set.canCreate
 have hct:=F.typeCall_set_1 (.ref l)
 repeat (any_goals (first | assumption | wp_step))
 refine codeAny_mono (Ji (.ref l) (E:=E) (Q₁:=fun obj s₁=>obj=.ref s.heap.objs.size∧s₁={ s with heap:=s.heap.push { cls:=.type "set",dict:=none,data:=.set #[] 0 (.fresh 0 0 (L2.ledOf w)) } }) ⟨rfl,rfl⟩) fun r s₁ hr=>?_
 cases r with
 | error e=>exact hr
 | ok fl=>
  cases fl with
  | ret obj=>
   obtain ⟨rfl,rfl⟩:=hr
   have hS:(s.heap.push { cls:=.type "set",dict:=none,data:=.set #[] 0 (.fresh 0 0 (L2.ledOf w)) }).get? s.heap.objs.size=some { cls:=.type "set",dict:=none,data:=.set #[] 0 (.fresh 0 0 (L2.ledOf w)) }:=Heap.get?_push_size _ rfl
   have hT:Shared.TypeIs { s with heap:=s.heap.push { cls:=.type "set",dict:=none,data:=.set #[] 0 (.fresh 0 0 (L2.ledOf w)) } } (.ref s.heap.objs.size) "set":=⟨_,hS,rfl⟩
   have hli:=F.called_set.init.lookup
   have hbi:=F.called_set.init.bind (.ref s.heap.objs.size)
   repeat (any_goals (first | assumption | wp_step))
   refine codeAny_mono (codeAny_call_builtin (R:=wants (fun r s₂=>r=.none∧∃ h' tk,s₂={ s with heap:=h',toks:=tk }∧L2.SetAtS prog w h' s.heap.objs.size (L2.ledOf w) (L2.dedupS ns)∧
     (∀ b o,s.heap.get? b=some o→h'.get? b=some o)) E) F.called_set.init.plain F.entry_set_init (check_set_init_1 hT ?_)) fun r₂ s₂ hr₂=>?_
   ·have hol':(s.heap.push { cls:=.type "set",dict:=none,data:=.set #[] 0 (.fresh 0 0 (L2.ledOf w)) }).get? l=some { cls:=.type "list",dict:=dd,data:=.seq its.toArray nl,slots:=sl }:=Heap.get?_push_of_some _ hol
    have hsls:=F.sub_list_set
    have hslf:=F.sub_list_frozenset
    have hne:(Value.type "list" == Value.type "dict")=false:=by decide
    have hl1:(s.heap.push { cls:=.type "set",dict:=none,data:=.set #[] 0 (.fresh 0 0 (L2.ledOf w)) }).IsList l its.toArray:=⟨_,hol',rfl,nl,rfl⟩
    unfold Builtin.«set.__init__» noKeywords Builtin.Frozenset.updateFrom
    generalize hPI:pyIter=PI
    wp_walk
    subst hPI
    refine wpAny_pyIter_list hl1 ?_
    refine wpAny_bind (wpAny_runValue ?_)
    have hlS:l < s.heap.objs.size:=Heap.lt_size hol
    have hh3:A.in1.in1.handled=none:=by simp [hh]
    have lt1:s.heap.objs.size < (s.heap.push { cls:=.type "set",dict:=none,data:=.set #[] 0 (.fresh 0 0 (L2.ledOf w)) }).objs.size:=Heap.lt_size hS
    refine L2.set_loopS (its:=its) (ns:=ns) (led:=L2.ledOf w) hh3 hi (Nat.ne_of_gt hlS) (Nat.ne_of_lt lt1) (Nat.ne_of_lt (Nat.lt_trans hlS lt1)) hb ns.length 0 _ (by omega) ?_ ?_ ?_ ?_
    ·exact ⟨_,Heap.get?_push_size _ rfl,rfl,rfl⟩
    ·exact hl1.push _
    ·refine ⟨#[],0,.fresh 0 0 (L2.ledOf w),?_,fun e he=>by simp at he,⟨[],.nil,.nil⟩,by decide,rfl,⟨rfl,rfl,List.Pairwise.nil⟩⟩
     exact Heap.get?_push_of_some _ hS
    ·intro h' tk hk hS'
     show wpAny _ _ _ _ _ _
     refine wpAny_pure ?_
     show wpAny _ _ (ret Value.none) _ _ _
     refine wpAny_pure ⟨rfl,h',tk,rfl,hS',fun b o e=>?_⟩
     have hb0:=Heap.lt_size e
     exact hk b o (Nat.ne_of_lt hb0) (Nat.ne_of_lt (Nat.lt_trans hb0 lt1)) (Heap.get?_push_of_some _ (Heap.get?_push_of_some _ e))
   ·cases r₂ with
    | error e=>exact hr₂
    | ok fl₂=>
     cases fl₂ with
     | ret r=>
      obtain ⟨rfl,h',tk,rfl,hS',hk'⟩:=hr₂
      repeat (any_goals (first | assumption | wp_step))
      exact h _ _ hS' hk'
     | _=>exact hr₂.elim
  | _=>exact hr.elim
end
end PySem
namespace L2
open PySem PySem.Spec PySem.Calls PyProof.Rows PySem.W
abbrev Jm (X:Cx) (v:Addr) (σ:List Str):HO:=.ext fun h=>SetAtS X.prog X.w h v (ledOf X.w) σ
theorem JE:∀ {xs:List Str} {us:List Value},Vals (xs.map V.str) us→StrsAre us xs
 | [],us,h=>by cases h;exact .nil
 | x :: r,us,h=>by
  cases h with
  | cons h1 h2=>
   obtain ⟨t,rfl⟩:=h1
   exact .cons x t (JE h2)
theorem Ko {X:Cx} (hc:X.calm=true):qI X (.type "set") (fun xs H Q=>∃ (p:Addr) (ns:List Str),xs=[.ref p]∧SqL X.K H p (ns.map V.str)∧ns.length≤1000∧∀ v,H v=none→Q (.ref v) (upd H v (Jm X v (dedupS ns)))):=by
 intro pins s σ H xs us Q I r h
 obtain ⟨p,ns,rfl,hq,hz,q⟩:=h
 obtain ⟨u,rfl,rx⟩:=Jf r
 cases rx
 obtain ⟨its,rv,⟨⟨c1,d1,t1,l1⟩,n1,o1,z1,z2,z3⟩,hz1⟩:=I.list hq
 simp only at z1 z2 z3
 subst z1 z2 z3
 refine PySem.set_of_listS (I.ok.hd hc) o1 (JE rv) (by unfold scanBound;omega) fun h' tk hS hk=>?_
 have hS':=hS
 obtain ⟨es,ep,t,e,_⟩:=hS'
 refine ⟨.ref s.heap.objs.size,_,I.laid (t':=tk) hk (Nat.le_refl _) (show ObjOk X.prog X.w _ _ _ (Jm X s.heap.objs.size (dedupS ns)) from ⟨hS,⟨_,e⟩,fun h1 h2 x k=>x.kept k⟩),rfl,q _ (I.hok.fresh (Nat.le_refl _))⟩
theorem Je {X:Cx} (hc:X.calm=true):qI X (.builtin "sorted") (fun xs H Q=>∃ (p:Addr) (τ:List Str),xs=[.ref p]∧H p=some (Jm X p τ)∧τ.length < 64∧∀ (l:Addr) (ns:List Str),H l=none→ns.Perm τ→sortedS ns=true→Q (.ref l) (upd H l (.lst (ns.map V.str)))):=by
 intro pins s σ H xs us Q I r h
 obtain ⟨p,τ,rfl,hp,h64,q⟩:=h
 obtain ⟨u,rfl,rx⟩:=Jf r
 cases rx
 obtain ⟨⟨es,ep,t,ho,hel,⟨l0,hI0,hp0⟩,hb,hf,ht⟩,_⟩:=I.hok p _ hp
 have hz:es.size=τ.length:=by
  have h1:=hI0.length
  rw [List.length_map,Array.length_toList] at h1
  rw [h1,hp0.length_eq]
 refine Calls.call_function_entry kind_sorted plain_sorted entry_sorted (args_sorted1 _) ?_
 unfold Builtin.«sorted»
 refine wpAny_bind (m:=checkCount "sorted" 1 1 _) (wpAny_pure (wpAny_bind ?_))
 refine ZB (A:=X.A.in1) (show X.A.in1.handled=none from I.ok.hd hc) ho hf ht (by omega) fun h' d' vals hv hk=>?_
 obtain ⟨ns0,hI,hp1⟩:=zZ hI0 hv
 have hl:vals.length=τ.length:=by rw [hI.length,hp1.length_eq,hp0.length_eq]
 refine wpAny_bind (wpAny_newList ?_ (by rw [hl];exact Nat.le_trans (by omega) jdw))
 have hoL:(h'.push (seqObj "list" vals.toArray 0)).get? h'.objs.size=some (seqObj "list" vals.toArray 0):=Heap.get?_push_size _ rfl
 refine wpAny_bind (wpAny_holding (wpAny_call_entry slot_list_sort ⟨_,hoL,rfl⟩ entry_list_sort (list_sort_treeK strKind_oneLt hoL hI.keysOf (fun v₁ v₂ qc e=>keyKind_strs (by rw [← e];exact hI)) (by omega) fun st' a1 a2=>⟨_,rfl,?_⟩) (args_list_sort _)))
 refine wpAny_pure ⟨_,rfl,?_⟩
 obtain ⟨ss,b1,b2,b3⟩:=sorted_out_str hI a1 a2
 have I1:Inv X pins σ H { s with heap:=h',drawn:=d' }:=I.drawn hk
 obtain ⟨e,he⟩:=sortedHeap_at (out:=(arrOf st').map (·.2)) hoL
 refine ⟨.ref h'.objs.size,_,I1.laid (t':=s.toks) (a:=h'.objs.size) (fun b o hb=>?_) (Nat.le_refl _) (show ObjOk X.prog X.w _ _ _ (.lst (ss.map V.str)) from ⟨?_,_,e,Ku b1,?_⟩),rfl,q _ _ (I1.hok.fresh (Nat.le_refl _)) (b2.trans (hp1.trans hp0)) b3⟩
 ·have hlt:=Heap.lt_size hb
  rw [sortedHeap_old (Nat.ne_of_lt hlt) (by rw [size_push'];exact Nat.lt_succ_of_lt hlt)]
  exact Heap.get?_push_of_some _ hb
 ·rw [List.length_map,b2.length_eq,← hI.length,hl]
  exact Nat.le_trans (by omega) jdw
 ·rw [Array.toArray_toList]
  exact he
section
variable {prog:Program} {w:World} {A:Around} {E:Value→Shared→Prop} {R:Result→Shared→Prop}
theorem set_loopST {S it l:Addr} {led:Bool} {its:List Value} {ns:List Str} (hh:A.handled=none) (hI:StrsAre its ns) (hSl:S≠l) (hSi:S≠it) (hli:l≠it) (hz:ns.length+1 < scanBound) :
  ∀ (k i:Nat) (s:Shared),i+k=ns.length→s.heap.IsTupleIter it l i→s.heap.IsTuple l its.toArray→SetAtS prog w s.heap S led (dedupS (ns.take i))→
   (∀ h' tk,(∀ b o,b≠S→b≠it→s.heap.get? b=some o→h'.get? b=some o)→SetAtS prog w h' S led (dedupS ns)→R (.ok (.ret .none)) { s with heap:=h',toks:=tk })→
   codeAny (model prog w) A (.builtin "set.update.loop" ⟨[.ref S,.ref it],[]⟩) R s:=by
 intro k
 induction k with
 | zero=>
  intro i s hk hit ht hS hR
  have hl:=hI.length
  refine codeAny_builtin F.entry_set_update_loop ?_
  rw [Around.under_plainId F.plain_set_update_loop _]
  show wpAny _ A.in1 (pyNext (.ref it) >>= _) _ _ s
  refine wpAny_bind (wpAny_pyNext_tuple_end (A:=A.in1) hh hit ht (by simp;omega) fun h1 he1=>?_)
  show wpAny _ A.in1 (ret Value.none) _ _ _
  refine wpAny_pure ?_
  rw [show ns.take i=ns from List.take_of_length_le (by omega)] at hS
  exact hR h1 s.toks (fun b o _ hb e=>he1 b o hb e) (hS.kept fun o e=>he1 S o hSi e)
 | succ k ih=>
  intro i s hk hit ht hS hR
  have hl:=hI.length
  have hlt:i < ns.length:=by omega
  have hgi:its.toArray[i]?=some its[i]:=by simp [hl,hlt]
  obtain ⟨t,et⟩:∃ t,its[i]=.str ns[i] t:=by
   obtain ⟨t,ht⟩:=hI.get i ns[i] (by simp [hlt])
   exact ⟨t,by rw [List.getElem?_eq_getElem (by omega)] at ht;exact Option.some.inj ht⟩
  refine codeAny_builtin F.entry_set_update_loop ?_
  rw [Around.under_plainId F.plain_set_update_loop _]
  show wpAny _ A.in1 (pyNext (.ref it) >>= _) _ _ s
  refine wpAny_bind (wpAny_pyNext_tuple_item hit ht hgi fun h1 hit1 hs1=>?_)
  have ht1:h1.IsTuple l its.toArray:=ht.extBut hs1.extBut hli
  have hS1:SetAtS prog w h1 S led (dedupS (ns.take i)):=hS.kept fun o e=>(hs1.2 S hSi).trans e
  rw [et]
  show wpAny _ A.in1 (holding [Value.str ns[i] t] (setAdd S (.str ns[i] t)) >>= _) _ _ _
  refine wpAny_bind (wpAny_holding ?_)
  unfold setAdd
  refine wpAny_holding ?_
  refine wpAny_bind ((PySem.strKind prog w).pyHash (k:=ns[i]) (strKind_is _ _ _ _) ?_)
  have hroom:(dedupS (ns.take i)).length+1 < scanBound:=by
   have:=(qz (ns.take i)).2.1
   rw [List.length_take] at this
   omega
  refine yE (s:={ s with heap:=h1,toks:=s.toks+1 }) hS1 hroom fun b h2 hs2 hS2=>?_
  have e2:dedupS (ns.take (i+1))=if ns[i]∈dedupS (ns.take i) then dedupS (ns.take i) else dedupS (ns.take i)++[ns[i]]:=by
   rw [List.take_succ,List.getElem?_eq_getElem hlt]
   exact zS _ _
  rw [← e2] at hS2
  have hb2:∀ b o,b≠S→h1.get? b=some o→h2.get? b=some o:=fun b o hb e=>(hs2.2 b hb).trans e
  refine wpAny_pure ⟨plainId_quiet F.plain_set_update_loop _,ih (i+1) _ (by omega) ?_ ?_ hS2 fun h' tk hk' hS'=>hR h' tk (fun b o b1 b2 e=>hk' b o b1 b2 (hb2 b o b1 ((hs1.2 b b2).trans e))) hS'⟩
  ·obtain ⟨oi,z1,z2⟩:=hit1
   exact ⟨oi,hb2 it oi hSi.symm z1,z2⟩
  ·obtain ⟨oi,z1,z2⟩:=ht1
   exact ⟨oi,hb2 l oi hSl.symm z1,z2⟩
end
end L2
namespace PySem
section
variable {prog:Program} {w:World} {A:Around} {E:Value→Shared→Prop} {s:Shared}
set_option maxHeartbeats 3200000 in
theorem set_of_tupleS {l:Addr} {its:List Value} {ns:List Str} {nl:Nat} {sl:Array (Option Value)} {dd:Option Addr} {Q:Value→Shared→Prop} (hh:A.handled=none) (hol:s.heap.get? l=some { cls:=.type "tuple",dict:=dd,data:=.seq its.toArray nl,slots:=sl }) (hi:PyProof.Rows.StrsAre its ns) (hb:ns.length+1 < scanBound)
  (h:∀ (h':Heap) (tk:Nat),L2.SetAtS prog w h' s.heap.objs.size (L2.ledOf w) (L2.dedupS ns)→(∀ b o,s.heap.get? b=some o→h'.get? b=some o)→Q (.ref s.heap.objs.size) { s with heap:=h',toks:=tk }) :
  wpAny (model prog w) A (call (.type "set") [.ref l]) Q E s:=by
 obtain ⟨c,tl,hmro⟩:=F.called_set.mro
 have hmade:=F.called_set.made
 have hsub:=F.called_set.sub
 refine wpAny_call (codeAny_of_tree ?_)
 show wpAny _ _ (callAny (.type "set") _) _ _ _
 refine wpAny_pure ⟨Code.quiet_builtin _ (by decide +kernel),codeAny_builtin F.entry_type_call ?_⟩
 rw [Around.under_plain (weight_type_call_type "set" [.ref l] []) rfl]
 have h1:=F.called_set.notType
 have h2:=F.called_set.canCreate
 have hct:=F.typeCall_set_1 (.ref l)
 repeat (any_goals (first | assumption | wp_step))
 refine codeAny_mono (Ji (.ref l) (E:=E) (Q₁:=fun obj s₁=>obj=.ref s.heap.objs.size∧s₁={ s with heap:=s.heap.push { cls:=.type "set",dict:=none,data:=.set #[] 0 (.fresh 0 0 (L2.ledOf w)) } }) ⟨rfl,rfl⟩) fun r s₁ hr=>?_
 cases r with
 | error e=>exact hr
 | ok fl=>
  cases fl with
  | ret obj=>
   obtain ⟨rfl,rfl⟩:=hr
   have hS:(s.heap.push { cls:=.type "set",dict:=none,data:=.set #[] 0 (.fresh 0 0 (L2.ledOf w)) }).get? s.heap.objs.size=some { cls:=.type "set",dict:=none,data:=.set #[] 0 (.fresh 0 0 (L2.ledOf w)) }:=Heap.get?_push_size _ rfl
   have hT:Shared.TypeIs { s with heap:=s.heap.push { cls:=.type "set",dict:=none,data:=.set #[] 0 (.fresh 0 0 (L2.ledOf w)) } } (.ref s.heap.objs.size) "set":=⟨_,hS,rfl⟩
   have hli:=F.called_set.init.lookup
   have hbi:=F.called_set.init.bind (.ref s.heap.objs.size)
   repeat (any_goals (first | assumption | wp_step))
   refine codeAny_mono (codeAny_call_builtin (R:=wants (fun r s₂=>r=.none∧∃ h' tk,s₂={ s with heap:=h',toks:=tk }∧L2.SetAtS prog w h' s.heap.objs.size (L2.ledOf w) (L2.dedupS ns)∧
     (∀ b o,s.heap.get? b=some o→h'.get? b=some o)) E) F.called_set.init.plain F.entry_set_init (check_set_init_1 hT ?_)) fun r₂ s₂ hr₂=>?_
   ·have hol':(s.heap.push { cls:=.type "set",dict:=none,data:=.set #[] 0 (.fresh 0 0 (L2.ledOf w)) }).get? l=some { cls:=.type "tuple",dict:=dd,data:=.seq its.toArray nl,slots:=sl }:=Heap.get?_push_of_some _ hol
    have hsls:=F.sub_tuple_set
    have hslf:=F.sub_tuple_frozenset
    have hne:(Value.type "tuple" == Value.type "dict")=false:=by decide
    have hl1:(s.heap.push { cls:=.type "set",dict:=none,data:=.set #[] 0 (.fresh 0 0 (L2.ledOf w)) }).IsTuple l its.toArray:=⟨_,hol',rfl,nl,rfl⟩
    unfold Builtin.«set.__init__» noKeywords Builtin.Frozenset.updateFrom
    generalize hPI:pyIter=PI
    wp_walk
    subst hPI
    refine wpAny_pyIter_tuple hl1 ?_
    refine wpAny_bind (wpAny_runValue ?_)
    have hlS:l < s.heap.objs.size:=Heap.lt_size hol
    have hh3:A.in1.in1.handled=none:=by simp [hh]
    have lt1:s.heap.objs.size < (s.heap.push { cls:=.type "set",dict:=none,data:=.set #[] 0 (.fresh 0 0 (L2.ledOf w)) }).objs.size:=Heap.lt_size hS
    refine L2.set_loopST (its:=its) (ns:=ns) (led:=L2.ledOf w) hh3 hi (Nat.ne_of_gt hlS) (Nat.ne_of_lt lt1) (Nat.ne_of_lt (Nat.lt_trans hlS lt1)) hb ns.length 0 _ (by omega) ?_ ?_ ?_ ?_
    ·exact ⟨_,Heap.get?_push_size _ rfl,rfl,rfl⟩
    ·exact hl1.push _
    ·refine ⟨#[],0,.fresh 0 0 (L2.ledOf w),?_,fun e he=>by simp at he,⟨[],.nil,.nil⟩,by decide,rfl,⟨rfl,rfl,List.Pairwise.nil⟩⟩
     exact Heap.get?_push_of_some _ hS
    ·intro h' tk hk hS'
     show wpAny _ _ _ _ _ _
     refine wpAny_pure ?_
     show wpAny _ _ (ret Value.none) _ _ _
     refine wpAny_pure ⟨rfl,h',tk,rfl,hS',fun b o e=>?_⟩
     have hb0:=Heap.lt_size e
     exact hk b o (Nat.ne_of_lt hb0) (Nat.ne_of_lt (Nat.lt_trans hb0 lt1)) (Heap.get?_push_of_some _ (Heap.get?_push_of_some _ e))
   ·cases r₂ with
    | error e=>exact hr₂
    | ok fl₂=>
     cases fl₂ with
     | ret r=>
      obtain ⟨rfl,h',tk,rfl,hS',hk'⟩:=hr₂
      repeat (any_goals (first | assumption | wp_step))
      exact h _ _ hS' hk'
     | _=>exact hr₂.elim
  | _=>exact hr.elim
end
end PySem
namespace L2
open PySem PySem.Spec PySem.Calls PyProof.Rows PySem.W
theorem Kf {X:Cx} (hc:X.calm=true):qI X (.type "set") (fun xs H Q=>∃ (p:Addr) (ns:List Str),xs=[.ref p]∧SqT X.K H p (ns.map V.str)∧ns.length≤1000∧∀ v,H v=none→Q (.ref v) (upd H v (Jm X v (dedupS ns)))):=by
 intro pins s σ H xs us Q I r h
 obtain ⟨p,ns,rfl,hq,hz,q⟩:=h
 obtain ⟨u,rfl,rx⟩:=Jf r
 cases rx
 obtain ⟨its,rv,tp,hz1⟩:=I.tuple hq
 obtain ⟨⟨c1,d1,t1,l1⟩,o1,z1,n1,z2⟩:=tp
 simp only at z1 z2
 subst z1 z2
 refine PySem.set_of_tupleS (I.ok.hd hc) o1 (JE rv) (by unfold scanBound;omega) fun h' tk hS hk=>?_
 have hS':=hS
 obtain ⟨es,ep,t,e,_⟩:=hS'
 refine ⟨.ref s.heap.objs.size,_,I.laid (t':=tk) hk (Nat.le_refl _) (show ObjOk X.prog X.w _ _ _ (Jm X s.heap.objs.size (dedupS ns)) from ⟨hS,⟨_,e⟩,fun h1 h2 x k=>x.kept k⟩),rfl,q _ (I.hok.fresh (Nat.le_refl _))⟩
def jgu (mask i:Nat):Nat:=(i * 5+1) % (mask+1)
def jaR (mask:Nat):Nat→Nat→Nat→Bool
 | 0,_,_=>false
 | f+1,i,j=>i == j || jaR mask f (jgu mask i) j
def qh (m:Nat):Prop:=m=7∨m=15∨m=31∨m=63
theorem jbH {mask:Nat} (h:qh mask):∀ i,i < mask+1→∀ j,j < mask+1→jaR mask (mask+1) i j=true:=by
 rcases h with rfl | rfl | rfl | rfl
 ·decide +kernel
 ·decide +kernel
 ·decide +kernel
 ·decide +kernel
theorem KW {mask:Nat} {owner:Array (Option Nat)} {j:Nat} (hj:(owner.getD j (some 0)).isNone=true):∀ (f i:Nat),jaR mask f i j=true→∃ k,SetTable.layClean.free mask owner f i 0=some k∧(owner.getD k (some 0)).isNone=true
 | 0,i,h=>by cases h
 | f+1,i,h=>by
  unfold SetTable.layClean.free
  cases hf:(List.range (SetTable.runEnd mask i+1 - i)).find? fun k=>(owner.getD (i+k) (some 0)).isNone with
  | some k=>exact ⟨i+k,rfl,by have:=List.find?_some hf;exact this⟩
  | none=>
   unfold jaR at h
   rw [Bool.or_eq_true] at h
   rcases h with h | h
   ·have e:i=j:=by simpa using h
    subst e
    have:=List.find?_eq_none.mp hf 0 (List.mem_range.mpr (by unfold SetTable.runEnd;split <;> omega))
    rw [Nat.add_zero,hj] at this
    exact absurd rfl this
   ·show ∃ k,SetTable.layClean.free mask owner f ((i * 5+1+0 / 32) % (mask+1)) (0 / 32)=some k∧_
    exact KW hj f _ h
theorem KY {mask:Nat} (hm:qh mask) {owner:Array (Option Nat)} {j:Nat} (hj:(owner.getD j (some 0)).isNone=true) (hjm:j < mask+1):∀ (n i p:Nat),i < mask+1→p < 32 ^ n→∃ k,SetTable.layClean.free mask owner (mask+1+n) i p=some k∧(owner.getD k (some 0)).isNone=true
 | 0,i,p,hi,hp=>by
  have:p=0:=by simpa using hp
  subst this
  exact KW hj _ i (jbH hm i hi j hjm)
 | n+1,i,p,hi,hp=>by
  show ∃ k,SetTable.layClean.free mask owner (mask+1+n+1) i p=some k∧_
  unfold SetTable.layClean.free
  cases hf:(List.range (SetTable.runEnd mask i+1 - i)).find? fun k=>(owner.getD (i+k) (some 0)).isNone with
  | some k=>exact ⟨i+k,rfl,by have:=List.find?_some hf;exact this⟩
  | none=>
   show ∃ k,SetTable.layClean.free mask owner (mask+1+n) ((i * 5+1+p / 32) % (mask+1)) (p / 32)=some k∧_
   exact KY hm hj hjm n _ _ (Nat.mod_lt _ (Nat.succ_pos _)) (by rw [Nat.pow_succ] at hp;omega)
def zN (owner:Array (Option Nat)) (l:List Nat):List Nat:=l.filterMap fun j=>owner.getD j none
theorem Za {owner:Array (Option Nat)} {j k:Nat} (hj:j < owner.size) (hn:owner.getD j (some 0)=none):∀ l:List Nat,l.Nodup→(j ∉ l→zN (owner.setIfInBounds j (some k)) l=zN owner l)∧(j∈l→(zN (owner.setIfInBounds j (some k)) l).Perm (k :: zN owner l))
 | [],_=>⟨fun _=>rfl,fun h=>by cases h⟩
 | a :: l,nd=>by
  obtain ⟨n1,n2⟩:=List.nodup_cons.mp nd
  obtain ⟨i1,i2⟩:=Za hj hn l n2
  have other:a≠j→(owner.setIfInBounds j (some k)).getD a none=owner.getD a none:=fun hne=>by
   rw [Array.getD_eq_getD_getElem?,Array.getD_eq_getD_getElem?,Array.getElem?_setIfInBounds_ne (Ne.symm hne)]
  have at_j:(owner.setIfInBounds j (some k)).getD j none=some k:=by
   rw [Array.getD_eq_getD_getElem?,Array.getElem?_setIfInBounds_self_of_lt hj]
   rfl
  have old_j:owner.getD j none=none:=by
   rw [Array.getD_eq_getD_getElem?] at hn ⊢
   rw [Array.getElem?_eq_getElem hj] at hn ⊢
   exact hn
  refine ⟨fun h=>?_,fun h=>?_⟩
  ·have hne:a≠j:=fun z=>h (by rw [z];exact List.mem_cons_self)
   unfold zN at i1 ⊢
   rw [List.filterMap_cons,List.filterMap_cons,other hne,i1 (fun z=>h (List.mem_cons_of_mem _ z))]
  ·by_cases e:a=j
   ·subst e
    unfold zN at i1 ⊢
    rw [List.filterMap_cons,List.filterMap_cons,at_j,old_j,i1 n1]
   ·have hm:j∈l:=(List.mem_cons.mp h).resolve_left (fun z=>e z.symm)
    have:=i2 hm
    unfold zN at this ⊢
    rw [List.filterMap_cons,List.filterMap_cons,other e]
    cases owner.getD a none with
    | none=>exact this
    | some x=>exact (this.cons x).trans (List.Perm.swap k x _)
theorem jbu {owner:Array (Option Nat)} {m:Nat} (hs:owner.size=m) (h:(zN owner (List.range m)).length < m):∃ j,j < m∧(owner.getD j (some 0)).isNone=true:=by
 apply Classical.byContradiction
 intro hno
 have all:∀ j,j < m→∃ k,owner.getD j none=some k:=fun j hj=>by
  have h1:¬ (owner.getD j (some 0)).isNone=true:=fun z=>hno ⟨j,hj,z⟩
  rw [Array.getD_eq_getD_getElem?,Array.getElem?_eq_getElem (by omega)] at h1 ⊢
  cases hx:owner[j]'(by omega) with
  | none=>rw [hx] at h1;exact absurd rfl h1
  | some k=>exact ⟨k,by rw [Option.getD_some]⟩
 have key:∀ l:List Nat,(∀ j∈l,j < m)→(zN owner l).length=l.length:=by
  intro l
  induction l with
  | nil=>intro _;rfl
  | cons a l ih=>
   intro hl
   obtain ⟨k,hk⟩:=all a (hl a List.mem_cons_self)
   have:=ih fun j hj=>hl j (List.mem_cons_of_mem _ hj)
   unfold zN at this ⊢
   rw [List.filterMap_cons,hk]
   show (k :: List.filterMap _ l).length=_
   rw [List.length_cons,this,List.length_cons]
 rw [key _ (fun j hj=>List.mem_range.mp hj),List.length_range] at h
 omega
theorem Zj {mask:Nat} (hm:qh mask):∀ (hs:List Int) (owner:Array (Option Nat)) (k:Nat),owner.size=mask+1→(zN owner (List.range (mask+1))).Perm (List.range k)→k+hs.length≤mask+1→
  ∃ owner',(hs.foldl (fun (acc:Option (Array (Option Nat)×Nat)) h=>acc.bind fun (owner,k)=>(SetTable.layClean.free mask owner (SetTable.turns mask) (SetTable.bits h % (mask+1)) (SetTable.bits h)).bind fun j=>some (owner.setIfInBounds j (some k),k+1)) (some (owner,k)))=some (owner',k+hs.length)∧owner'.size=mask+1∧(zN owner' (List.range (mask+1))).Perm (List.range (k+hs.length))
 | [],owner,k,h1,h2,_=>⟨owner,rfl,h1,h2⟩
 | h :: hs,owner,k,h1,h2,h3=>by
  rw [List.length_cons] at h3
  obtain ⟨j,hj,hjn⟩:=jbu h1 (by rw [h2.length_eq,List.length_range];omega)
  have hb:SetTable.bits h < 32 ^ 14:=by
   unfold SetTable.bits
   have a:=Int.emod_lt_of_pos h (b:=(2 ^ 64:Int)) (by decide)
   have b:=Int.emod_nonneg h (b:=(2 ^ 64:Int)) (by decide)
   have:(32:Nat) ^ 14=1180591620717411303424:=by decide
   omega
  obtain ⟨x,hx,hxn⟩:=KY hm hjn hj 14 (SetTable.bits h % (mask+1)) (SetTable.bits h) (Nat.mod_lt _ (Nat.succ_pos _)) hb
  have hxl:x < owner.size:=by
   rcases Nat.lt_or_ge x owner.size with z | z
   ·exact z
   ·rw [Array.getD_eq_getD_getElem?,Array.getElem?_eq_none z] at hxn
    cases hxn
  have hxnone:owner.getD x (some 0)=none:=by
   cases e:owner.getD x (some 0) with
   | none=>rfl
   | some y=>rw [e] at hxn;cases hxn
  have hp:=(Za (k:=k) hxl hxnone (List.range (mask+1)) List.nodup_range).2 (List.mem_range.mpr (by omega))
  have h2':(zN (owner.setIfInBounds x (some k)) (List.range (mask+1))).Perm (List.range (k+1)):=by
   refine hp.trans ((h2.cons k).trans ?_)
   rw [List.range_succ]
   exact (List.perm_append_singleton _ _).symm
  obtain ⟨o',e1,e2,e3⟩:=Zj hm hs (owner.setIfInBounds x (some k)) (k+1) (by rw [Array.size_setIfInBounds];exact h1) h2' (by omega)
  refine ⟨o',?_,e2,?_⟩
  ·rw [List.foldl_cons]
   have:(some (owner,k)).bind (fun (p:Array (Option Nat)×Nat)=>(SetTable.layClean.free mask p.1 (SetTable.turns mask) (SetTable.bits h % (mask+1)) (SetTable.bits h)).bind fun j=>some (p.1.setIfInBounds j (some p.2),p.2+1))=some (owner.setIfInBounds x (some k),k+1):=by
    show (SetTable.layClean.free mask owner (mask+15) _ _).bind _=_
    rw [show mask+15=mask+1+14 from rfl,hx]
    rfl
   rw [List.length_cons,show k+(hs.length+1)=k+1+hs.length by omega]
   refine Eq.trans ?_ e1
   exact congrArg (fun z=>hs.foldl _ z) this
  ·rw [List.length_cons,show k+(hs.length+1)=k+1+hs.length by omega]
   exact e3
theorem Zb (n:Nat):∀ l:List Nat,zN (Array.replicate n none) l=[]
 | []=>rfl
 | a :: l=>by
  have:=Zb n l
  unfold zN at this ⊢
  rw [List.filterMap_cons]
  have e:(Array.replicate n (none:Option Nat)).getD a none=none:=by
   rw [Array.getD_eq_getD_getElem?,Array.getElem?_replicate]
   split <;> rfl
  rw [e]
  exact this
theorem JW (owner:Array (Option Nat)):∀ l:List Nat,(l.filterMap fun j=>(owner.getD j none).map (fun k=>(j,k))).map (·.2)=zN owner l
 | []=>rfl
 | a :: l=>by
  have:=JW owner l
  unfold zN at this ⊢
  rw [List.filterMap_cons,List.filterMap_cons]
  cases owner.getD a none with
  | none=>exact this
  | some k=>show k :: List.map _ _=_;rw [this]
theorem KN {mask finger moves:Nat} {led plain:Bool} (hm:qh mask) (hs:Array Int) (h:hs.size≤mask+1):∃ t o,SetTable.laid mask finger moves led plain hs=some (t,o)∧o.toList.Perm (List.range hs.size)∧t.place.size=hs.size∧t.mask=mask∧TabOk led t:=by
 obtain ⟨owner,e1,e2,e3⟩:=Zj hm hs.toList (Array.replicate (mask+1) none) 0 Array.size_replicate (by rw [Zb];exact List.Perm.refl _) (by rw [Array.length_toList];omega)
 have hc:SetTable.layClean mask hs=some owner:=by
  unfold SetTable.layClean
  rw [← Array.foldl_toList]
  have:(hs.toList.foldl (fun (acc:Option (Array (Option Nat)×Nat)) h=>acc.bind fun (owner,k)=>(SetTable.layClean.free mask owner (SetTable.turns mask) (SetTable.bits h % (mask+1)) (SetTable.bits h)).bind fun j=>some (owner.setIfInBounds j (some k),k+1)) (some (Array.replicate (mask+1) none,0))).map (·.1)=some owner:=by rw [e1];rfl
  exact this
 have hl:SetTable.laid mask finger moves led plain hs=some ({ mask,place:=(((List.range (mask+1)).filterMap fun j=>(owner.getD j none).map (fun k=>(j,k))).map (·.1)).toArray,dummies:=#[],finger,led,moves,plain },(((List.range (mask+1)).filterMap fun j=>(owner.getD j none).map (fun k=>(j,k))).map (·.2)).toArray):=by
  unfold SetTable.laid
  rw [hc]
  rfl
 refine ⟨_,_,hl,?_,?_,rfl,jaT hl⟩
 ·rw [JW]
  rw [Array.length_toList,Nat.zero_add] at e3
  exact e3
 ·have h1:=e3.length_eq
  rw [← JW,List.length_map,List.length_range,Array.length_toList,Nat.zero_add] at h1
  show (List.map _ _).toArray.size=_
  rw [List.size_toArray,List.length_map]
  exact h1
theorem ZT {α:Type} (es:Array α):(List.range es.size).filterMap (es[·]?)=es.toList:=by
 apply List.ext_getElem?
 intro i
 have key:∀ n,n≤es.size→(List.range n).filterMap (es[·]?)=es.toList.take n:=by
  intro n
  induction n with
  | zero=>intro _;rfl
  | succ n ih=>
   intro hn
   rw [List.range_succ,List.filterMap_append,ih (by omega),List.take_succ]
   simp [Array.getElem?_eq_getElem (show n < es.size by omega)]
 rw [key _ (Nat.le_refl _),List.take_of_length_le (by rw [Array.length_toList];exact Nat.le_refl _)]
theorem yF {α:Type} {es:Array α} {o:Array Nat} (h:o.toList.Perm (List.range es.size)):(o.filterMap (es[·]?)).toList.Perm es.toList∧(o.filterMap (es[·]?)).size=es.size:=by
 have e:(o.filterMap (es[·]?)).toList=o.toList.filterMap (es[·]?):=Array.toList_filterMap
 have p:(o.filterMap (es[·]?)).toList.Perm es.toList:=by
  rw [e,← ZT es]
  exact h.filterMap _
 exact ⟨p,by have:=p.length_eq;rw [Array.length_toList,Array.length_toList] at this;exact this⟩
theorem Y5:∀ n,n < 63→qh (SetTable.sizeAbove n - 1)∧n < SetTable.sizeAbove n∧SetTable.sizeAbove n≤64:=by
 intro n hn
 unfold qh
 have:∀ n,n < 63→((SetTable.sizeAbove n=8∨SetTable.sizeAbove n=16∨SetTable.sizeAbove n=32∨SetTable.sizeAbove n=64)∧n < SetTable.sizeAbove n):=by decide +kernel
 obtain ⟨h,h2⟩:=this n hn
 omega
structure SmS (prog:Program) (w:World) (h:Heap) (a:Addr) (led:Bool) (σ:List Str) (es:Array (Int×Value)) (ep:Nat) (t:SetTable):Prop where
 o:h.get? a=some (j6 es ep t)
 el:ElemsOf (PySem.strKind prog w) es.toList
 pm:∃ l:List Str,StrsAre (es.toList.map (·.2)) l∧l.Perm σ
 fit:t.fits es.size=true
 tab:TabOk led t
 sm:qh t.mask
theorem SmS.len {prog:Program} {w:World} {h:Heap} {a:Addr} {led:Bool} {σ:List Str} {es:Array (Int×Value)} {ep:Nat} {t:SetTable} (x:SmS prog w h a led σ es ep t):es.size=σ.length:=by
 obtain ⟨l,h1,h2⟩:=x.pm
 have:=h1.length
 rw [List.length_map,Array.length_toList] at this
 rw [this,h2.length_eq]
theorem SmS.set {prog:Program} {w:World} {h:Heap} {a:Addr} {led:Bool} {σ:List Str} {es:Array (Int×Value)} {ep:Nat} {t:SetTable} (x:SmS prog w h a led σ es ep t) (hb:σ.length < scanBound):SetAtS prog w h a led σ:=⟨es,ep,t,x.o,x.el,x.pm,by rw [x.len];exact hb,x.fit,x.tab⟩
theorem Zq {t:SetTable} {n:Nat} (h1:t.place.size=n) (h2:t.dummies=#[]) (h3:n≤t.mask):t.fits n=true:=by
 unfold SetTable.fits SetTable.fill
 simp [h1,h2,h3]
theorem jaM {es es':Array (Int×Value)} {σ:List Str} (p:es'.toList.Perm es.toList) (h:∃ l:List Str,StrsAre (es.toList.map (·.2)) l∧l.Perm σ):∃ l:List Str,StrsAre (es'.toList.map (·.2)) l∧l.Perm σ:=by
 obtain ⟨l,h1,h2⟩:=h
 obtain ⟨l',j1,j2⟩:=zZ h1 (p.map (·.2))
 exact ⟨l',j1,j2.trans h2⟩
section
variable {prog:Program} {w:World} {A:Around} {E:Value→Shared→Prop} {s:Shared}
theorem Yp {a:Addr} {es es':Array (Int×Value)} {ep:Nat} {t t':SetTable} {h:Heap} (ho:h.get? a=some (j6 es ep t)):(h.update a (Obj.putSet es' t')).get? a=some (j6 es' (ep+1) t'):=by
 have:=Heap.get?_update_self (Obj.putSet es' t') ho (by rw [putSet_of es' t' rfl];rfl)
 rw [putSet_of es' t' rfl] at this
 exact this
theorem jcD {a:Addr} {led:Bool} {σ:List Str} {es:Array (Int×Value)} {ep more:Nat} {t:SetTable} {Q:Unit→Shared→Prop} (x:SmS prog w s.heap a led σ es ep t) (hz:σ.length+more≤15)
  (h:∀ h' es' ep' t',Heap.SameBut a s.heap h'→SmS prog w h' a led σ es' ep' t'→σ.length+more≤t'.mask→t'.fill=σ.length→Q () { s with heap:=h' }):wpAny (model prog w) A (setRoomFor a more) Q E s:=by
 have hlen:=x.len
 have hfill:t.fill=es.size:=by
  have:=x.fit
  unfold SetTable.fits at this
  rw [Bool.and_eq_true] at this
  have h1:t.place.size=es.size:=by simpa using this.1
  unfold SetTable.fill
  rw [x.tab.none_,h1]
  rfl
 unfold setRoomFor
 refine wpAny_bind (wpAny_setState_of x.o rfl x.fit ?_)
 dsimp only
 cases hr:t.roomFor more with
 | none=>
  dsimp only
  refine wpAny_pure (h s.heap es ep t (Heap.SameBut.refl a s.heap) x ?_ (by rw [hfill,hlen]))
  unfold SetTable.roomFor at hr
  split at hr
  ·cases hr
  ·rename_i hn
   rw [hfill,hlen] at hn
   omega
 | some wanted=>
  dsimp only
  have hw:wanted=(es.size+more) * 2:=by
   unfold SetTable.roomFor at hr
   split at hr
   ·have:t.place.size=es.size:=by
     have:=x.fit
     unfold SetTable.fits at this
     rw [Bool.and_eq_true] at this
     simpa using this.1
    rw [this] at hr
    exact (Option.some.inj hr).symm
   ·cases hr
  obtain ⟨m1,m2,m3⟩:=Y5 wanted (by omega)
  obtain ⟨t',o,e1,e2,e3,e4,e5⟩:=KN (finger:=t.finger) (moves:=t.movedTo (SetTable.sizeAbove wanted - 1)) (led:=t.led) (plain:=t.plain) m1 (es.map (·.1)) (by rw [Array.size_map];omega)
  rw [Array.size_map] at e2 e3
  rw [x.tab.led_] at e5
  obtain ⟨p1,p2⟩:=yF e2
  unfold setRelay
  refine wpAny_bind (wpAny_setState_of x.o rfl x.fit ?_)
  dsimp only
  rw [if_neg (by rw [sizeLine_eq];omega)]
  show wpAny _ _ ((match t.relaid (es.map (·.1)) wanted with | some (t,order)=>(if ((order.filterMap (es[·]?)).size != es.size)=true then unsupported "internal:set-table-lost-an-element" >>= fun _=>pure (order.filterMap (es[·]?),t) else pure (order.filterMap (es[·]?),t)) | _=>unsupported "internal:set-table-without-room") >>= _) _ _ _
  rw [show t.relaid (es.map (·.1)) wanted=some (t',o) from e1]
  dsimp only
  rw [if_neg (by rw [p2];simp)]
  refine wpAny_bind (wpAny_pure ?_)
  dsimp only
  refine wpAny_storeSet_of x.o rfl ?_ (by rw [p2,hlen,sizeLine_eq];omega)
  refine h _ _ _ _ (Heap.SameBut.update s.heap a _) ⟨Yp x.o,x.el.perm p1,jaM p1 x.pm,Zq (by rw [e3,p2]) e5.none_ (by rw [p2,e4];omega),e5,by rw [e4];exact m1⟩ (by rw [e4];omega) ?_
  unfold SetTable.fill
  rw [e3,e5.none_,hlen]
  rfl
end
section
variable {prog:Program} {w:World} {A:Around} {E:Value→Shared→Prop} {s:Shared}
theorem ZE {Q:Bool→Shared→Prop} (h:Q (w.params.followText "set-order") s):wpAny (model prog w) A setsByText Q E s:=by
 unfold setsByText
 exact wpAny_bind (wpAny_askSetting (wpAny_pure h))
theorem jcf {a:Addr} {es:Array (Int×Value)} {ep:Nat} {t:SetTable} {Q:Array (Int×Value)→Shared→Prop} (ho:s.heap.get? a=some (j6 es ep t)) (hf:t.fits es.size=true) (ht:TabOk (ledOf w) t) (hd:w.params.followText "set-order" = true∨zB es t=false)
  (h:∀ arr:Array (Int×Value),arr.toList.Perm es.toList→Q arr s):wpAny (model prog w) A (setWalk a) Q E s:=by
 unfold setWalk
 refine wpAny_bind (wpAny_setState_of ho rfl hf ?_)
 dsimp only
 refine wpAny_bind (ZE ?_)
 cases hb:w.params.followText "set-order" with
 | true=>
  simp only [if_true]
  exact wpAny_bind (wpAny_askSetting (wpAny_pure (h _ (KJ _ _))))
 | false=>
  rcases hd with hd | hd
  ·rw [hb] at hd;cases hd
  rw [if_neg Bool.false_ne_true]
  show wpAny _ _ (if zB es t=true then _ else _) _ _ _
  rw [hd,if_neg Bool.false_ne_true]
  have hl:t.led=true:=by rw [ht.led_];unfold ledOf;rw [hb];rfl
  show wpAny _ _ ((if (!t.led && decide (es.size > 1))=true then unsupported "set:maker-not-led" else pure ()) >>= fun _=>pure es) _ _ _
  rw [hl,if_neg (by simp)]
  exact wpAny_bind (wpAny_pure (wpAny_pure (h es (List.Perm.refl _))))
theorem Y7:∀ (sets:List Addr) {Q:Bool→Shared→Prop},(∀ a∈sets,∃ es ep t,s.heap.get? a=some (j6 es ep t)∧t.fits es.size=true∧∀ e∈es.toList,∃ x k,e.2=.str x k)→Q true s→wpAny (model prog w) A (setsQuiet sets) Q E s:=by
 intro sets Q hs h
 unfold setsQuiet
 refine wpAny_bind ?_
 refine wpAny_forIn_list _ (fun qc r s'=>r.1=none∧s'=s∧∀ a∈qc,a∈sets) _ ?_ ?_ sets _ ⟨rfl,rfl,fun a h=>h⟩
 ·rintro a qc r s' ⟨hr,rfl,hall⟩
  obtain ⟨es,ep,t,ho,hf,hel⟩:=hs a (hall a List.mem_cons_self)
  unfold setEntries
  refine wpAny_bind (wpAny_bind (wpAny_setState_of ho rfl hf (wpAny_pure ?_)))
  dsimp only
  refine wpAny_bind ?_
  rw [← Array.forIn_toList]
  refine wpAny_forIn_list _ (fun rest' r' s''=>r'.1=none∧s''=s'∧∀ e∈rest',e∈es.toList) _ ?_ ?_ es.toList _ ⟨rfl,rfl,fun e h=>h⟩
  ·rintro e rest' r' s'' ⟨hr',rfl,hall'⟩
   obtain ⟨x,k,ex⟩:=hel e (hall' e List.mem_cons_self)
   obtain ⟨e1,e2⟩:=e
   dsimp only at ex
   subst ex
   refine wpAny_pure ?_
   exact ⟨rfl,rfl,fun e h=>hall' e (List.mem_cons_of_mem _ h)⟩
  ·rintro ⟨r1,r2⟩ s'' ⟨hr',rfl,_⟩
   dsimp only at hr'
   subst hr'
   exact wpAny_pure ⟨rfl,rfl,fun a h=>hall a (List.mem_cons_of_mem _ h)⟩
 ·rintro ⟨r1,r2⟩ s' ⟨hr,rfl,_⟩
  dsimp only at hr
  subst hr
  exact wpAny_pure h
theorem yw {es:Array (Int×Value)} {l:List Str} (h:StrsAre (es.toList.map (·.2)) l):∀ e∈es.toList,∃ x k,e.2=.str x k:=fun e he=>h.all e.2 (List.mem_map.mpr ⟨e,he,rfl⟩)
end
section
variable {prog:Program} {w:World} {A:Around} {E:Value→Shared→Prop} {s:Shared}
theorem YW {S o:Addr} {σs σo:List Str} {es eo:Array (Int×Value)} {ep eq:Nat} {t to:SetTable} {Q:Array (Int×Value)→Shared→Prop} (hne:S≠o) (x:SmS prog w s.heap S (ledOf w) σs es ep t) (ho:s.heap.get? o=some (j6 eo eq to)) (hfo:to.fits eo.size=true) (hto:TabOk (ledOf w) to) (hso:StrsAre (eo.toList.map (·.2)) σo) (hz:σs.length < 1000)
  (h:∀ arr h' ep' t',arr.toList.Perm eo.toList→Heap.SameBut S s.heap h'→SmS prog w h' S (ledOf w) σs es ep' t'→Q arr { s with heap:=h' }):wpAny (model prog w) A (setWalkUnseen o [S] (some S)) Q E s:=by
 unfold setWalkUnseen
 refine wpAny_bind (wpAny_setState_of ho rfl hfo ?_)
 dsimp only
 refine wpAny_bind (ZE ?_)
 by_cases hc:(w.params.followText "set-order" || (to.led && to.plain) || decide (eo.size≤1))=true
 ·rw [if_pos hc]
  refine jcf ho hfo hto ?_ fun arr ha=>h arr s.heap ep t ha (Heap.SameBut.refl S s.heap) x
  rw [Bool.or_eq_true,Bool.or_eq_true] at hc
  rcases hc with (hc | hc) | hc
  ·exact .inl hc
  ·right
   rw [Bool.and_eq_true] at hc
   unfold zB
   rw [hc.2]
   rfl
  ·right
   have:=of_decide_eq_true hc
   unfold zB
   rw [decide_eq_false (by omega),Bool.and_false]
 ·rw [if_neg hc]
  refine wpAny_bind (Y7 [o,S] (fun a ha=>?_) ?_)
  ·rcases List.mem_cons.mp ha with rfl | ha
   ·exact ⟨eo,eq,to,ho,hfo,yw hso⟩
   ·rw [List.mem_singleton.mp ha]
    obtain ⟨l,hl,_⟩:=x.pm
    exact ⟨es,ep,t,x.o,x.fit,yw hl⟩
  rw [if_neg (by decide)]
  refine wpAny_bind (wpAny_rule ?_)
  try dsimp only
  refine wpAny_bind (wpAny_setState_of x.o rfl x.fit ?_)
  dsimp only
  split
  ·refine wpAny_bind (wpAny_storeSet_of x.o rfl ?_ (by rw [x.len,sizeLine_eq];omega))
   refine wpAny_pure (h eo _ (ep+1) { t with led:=t.led && to.led,plain:=t.plain && to.plain } (List.Perm.refl _) (Heap.SameBut.update s.heap S _) ⟨Yp x.o,x.el,x.pm,x.fit,⟨?_,x.tab.none_,x.tab.up⟩,x.sm⟩)
   show (t.led && to.led)=_
   rw [x.tab.led_,hto.led_]
   cases ledOf w <;> rfl
  ·exact wpAny_pure (h eo s.heap ep t (List.Perm.refl _) (Heap.SameBut.refl S s.heap) x)
theorem JV {S o:Addr} {σs σo:List Str} {es:Array (Int×Value)} {ep:Nat} {t:SetTable} {each:Sem Unit} {Q:Unit→Shared→Prop} (hne:S≠o) (x:SmS prog w s.heap S (ledOf w) σs es ep t) (ho:SetAtS prog w s.heap o (ledOf w) σo) (nds:σs.Nodup) (ndo:σo.Nodup) (hz:σs.length+σo.length≤15)
  (heach:∀ (s':Shared) {Q':Unit→Shared→Prop},(∀ ob,s.heap.get? o=some ob→s'.heap.get? o=some ob)→Q' () s'→wpAny (model prog w) A each Q' E s')
  (h:∀ h' σ',Heap.SameBut S s.heap h'→SetAtS prog w h' S (ledOf w) σ'→σ'.Nodup→(∀ y,y∈σ'↔y∈σs∨y∈σo)→((σs=[]∨σo=[])→∃ es' ep' t',SmS prog w h' S (ledOf w) σ' es' ep' t')→Q () { s with heap:=h' }):wpAny (model prog w) A (setMerge S o each) Q E s:=by
 obtain ⟨eo,eq,to,ho1,helo,⟨lo,hlo,hpo⟩,hbo,hfo,hto⟩:=ho
 have hlen:eo.size=σo.length:=by
  have h1:=hlo.length
  rw [List.length_map,Array.length_toList] at h1
  rw [h1,hpo.length_eq]
 unfold setMerge
 rw [if_neg (by simpa using hne)]
 refine wpAny_bind (wpAny_setState_of ho1 rfl hfo ?_)
 dsimp only
 by_cases he:eo.isEmpty=true
 ·rw [if_pos he]
  have h0:σo=[]:=by
   have:eo.size=0:=by simpa using he
   exact List.length_eq_zero_iff.mp (by omega)
  subst h0
  exact wpAny_pure (h s.heap σs (Heap.SameBut.refl S s.heap) (x.set (by unfold scanBound;omega)) nds (fun y=>by simp) fun _=>⟨es,ep,t,x⟩)
 rw [if_neg he]
 refine wpAny_bind (jcD (more:=eo.size) x (by omega) fun h1 es1 ep1 t1 sb1 x1 hm1 hf1=>?_)
 have ho2:h1.get? o=some (j6 eo eq to):=(sb1.2 o (Ne.symm hne)).trans ho1
 refine wpAny_bind (wpAny_setState_of (s:={ s with heap:=h1 }) x1.o rfl x1.fit ?_)
 dsimp only
 have led2:(t1.led && to.led)=ledOf w:=by rw [x1.tab.led_,hto.led_];cases ledOf w <;> rfl
 unfold SetTable.road
 by_cases hfill:(t1.fill != 0)=true
 ·rw [if_pos hfill]
  dsimp only
  refine wpAny_bind (YW (s:={ s with heap:=h1 }) hne x1 ho2 hfo hto hlo (by omega) fun arr h2 ep2 t2 ha sb2 x2=>?_)
  have ho3:h2.get? o=some (j6 eo eq to):=(sb2.2 o (Ne.symm hne)).trans ho2
  have x2S:=x2.set (by unfold scanBound;omega)
  have hmem:∀ e∈arr.toList,∃ v k,v∈σo∧e.2=.str v k∧e.1=(PySem.strKind prog w).hash v:=fun e he'=>by
   have hin:=ha.mem_iff.mp he'
   obtain ⟨v,k,ev⟩:=yw hlo e hin
   obtain ⟨⟨kk,hk1,hk2⟩,_⟩:=helo e hin
   rw [ev] at hk1
   have:v=kk:=(PySem.strKind prog w).inj _ _ _ (strKind_is prog w v k) hk1
   subst this
   refine ⟨v,k,hpo.mem_iff.mp ((JF hlo).mpr ⟨k,?_⟩),ev,hk2⟩
   rw [← ev]
   exact List.mem_map.mpr ⟨e,hin,rfl⟩
  have h9:arr.toList.length=σo.length:=by rw [ha.length_eq,Array.length_toList,hlen]
  refine wpAny_bind ?_
  rw [← Array.forIn_toList]
  refine wpAny_forIn_list _ (fun qc _ s'=>∃ h' σ',s'={ s with heap:=h' }∧Heap.SameBut S h2 h'∧SetAtS prog w h' S (ledOf w) σ'∧σ'.Nodup∧(∀ y∈σs,y∈σ')∧(∀ y∈σ',y∈σs∨y∈σo)∧(∃ done,arr.toList=done++qc∧(∀ e∈done,∀ v k,e.2=.str v k→v∈σ'))∧σ'.length+qc.length≤30) _ ?_ ?_ arr.toList _ ⟨h2,σs,rfl,Heap.SameBut.refl S h2,x2S,nds,fun y hy=>hy,fun y hy=>.inl hy,⟨[],rfl,fun e he'=>by cases he'⟩,by omega⟩
  ·rintro ⟨hh,v0⟩ qc _ s' ⟨h',σ',rfl,sb',hS',nd',a1,a2,⟨done,ed,a3⟩,al⟩
   obtain ⟨v,k,hv,ev,eh⟩:=hmem (hh,v0) (by rw [ed];exact List.mem_append_right _ List.mem_cons_self)
   dsimp only at ev eh
   subst ev eh
   dsimp only
   rw [List.length_cons] at al
   refine wpAny_bind (wpAny_holding (yE (s:={ s with heap:=h' }) hS' (by unfold scanBound;omega) fun b h3 sb3 hS3=>?_))
   have ho4:h3.get? o=some (j6 eo eq to):=(sb3.2 o (Ne.symm hne)).trans ((sb'.2 o (Ne.symm hne)).trans ho3)
   refine wpAny_bind (heach { s with heap:=h3 } (fun ob e=>by rw [ho1] at e;cases e;exact ho4) ?_)
   refine wpAny_bind (wpAny_setState_of (s:={ s with heap:=h3 }) ho4 rfl hfo ?_)
   dsimp only
   rw [if_neg (by simp)]
   refine wpAny_pure ?_
   refine ⟨h3,_,rfl,sb'.trans sb3,hS3,?_,fun y hy=>?_,fun y hy=>?_,⟨done++[((PySem.strKind prog w).hash v,.str v k)],by rw [ed,List.append_assoc];rfl,fun e he' v' k' ev'=>?_⟩,?_⟩
   ·split
    ·exact nd'
    ·rename_i hn
     exact List.nodup_append.mpr ⟨nd',by simp,fun a ha' b hb'=>by rw [List.mem_singleton.mp hb'];intro z;exact hn (by rw [← z];exact ha')⟩
   ·split
    ·exact a1 y hy
    ·exact List.mem_append_left _ (a1 y hy)
   ·split at hy
    ·exact a2 y hy
    ·rcases List.mem_append.mp hy with g | g
     ·exact a2 y g
     ·rw [List.mem_singleton.mp g];exact .inr hv
   ·rcases List.mem_append.mp he' with g | g
    ·have:=a3 e g v' k' ev'
     split
     ·exact this
     ·exact List.mem_append_left _ this
    ·rw [List.mem_singleton.mp g] at ev'
     cases ev'
     split
     ·assumption
     ·exact List.mem_append_right _ (List.mem_singleton.mpr rfl)
   ·split
    ·omega
    ·rw [List.length_append];simp only [List.length_cons,List.length_nil];omega
  ·rintro _ s' ⟨h',σ',rfl,sb',hS',nd',a1,a2,⟨done,ed,a3⟩,_⟩
   rw [List.append_nil] at ed
   refine wpAny_pure (h h' σ' (sb1.trans (sb2.trans sb')) hS' nd' (fun y=>⟨a2 y,fun g=>?_⟩) fun g=>?_)
   ·rcases g with g | g
    ·exact a1 y g
    ·obtain ⟨k,hk⟩:=(JF hlo).mp (hpo.mem_iff.mpr g)
     obtain ⟨e,he',ee⟩:=List.mem_map.mp hk
     exact a3 e (by rw [← ed];exact ha.mem_iff.mpr he') y k ee
   ·rcases g with g | g
    ·rw [g] at hf1
     rw [hf1] at hfill
     cases hfill
    ·rw [g] at hlen
     exact absurd (by simpa using hlen) he
 ·rw [if_neg hfill]
  have hs0:σs=[]:=by
   have:t1.fill=0:=by simpa using hfill
   exact List.length_eq_zero_iff.mp (by omega)
  subst hs0
  have fin:∀ h' es' ep' t',Heap.SameBut S s.heap h'→SmS prog w h' S (ledOf w) σo es' ep' t'→Q () { s with heap:=h' }:=fun h' es' ep' t' sb x'=>h h' σo sb (x'.set (by unfold scanBound;omega)) ndo (fun y=>by simp) fun _=>⟨es',ep',t',x'⟩
  rw [List.length_nil,Nat.zero_add] at hm1
  by_cases hmask:(t1.mask == to.mask && to.dummies.isEmpty)=true
  ·rw [if_pos hmask]
   dsimp only
   have hme:t1.mask=to.mask:=by
    rw [Bool.and_eq_true] at hmask
    simpa using hmask.1
   refine wpAny_storeSet_of (s:={ s with heap:=h1 }) x1.o rfl ?_ (by rw [hlen,sizeLine_eq];omega)
   exact fin _ eo _ { to with finger:=t1.finger,led:=t1.led && to.led,moves:=t1.moves,plain:=t1.plain && to.plain } (sb1.trans (Heap.SameBut.update h1 S _)) ⟨Yp x1.o,helo,⟨lo,hlo,hpo⟩,hfo,⟨led2,hto.none_,hto.up⟩,by show qh to.mask;rw [← hme];exact x1.sm⟩
  ·rw [if_neg hmask]
   dsimp only
   obtain ⟨t',od,e1,e2,e3,e4,e5⟩:=KN (finger:=t1.finger) (moves:=t1.moves) (led:=t1.led && to.led) (plain:=t1.plain && to.plain) x1.sm (eo.map (·.1)) (by rw [Array.size_map];omega)
   rw [Array.size_map] at e2 e3
   rw [led2] at e5
   obtain ⟨p1,p2⟩:=yF e2
   show wpAny _ _ ((match SetTable.laid t1.mask t1.finger t1.moves (t1.led && to.led) (t1.plain && to.plain) (eo.map (·.1)) with | some (t,order)=>(if ((order.filterMap (eo[·]?)).size != eo.size)=true then unsupported "internal:set-table-lost-an-element" >>= fun _=>pure (order.filterMap (eo[·]?),t) else pure (order.filterMap (eo[·]?),t)) | _=>unsupported "internal:set-table-without-room") >>= _) _ _ _
   rw [e1]
   dsimp only
   rw [if_neg (by rw [p2];simp)]
   refine wpAny_bind (wpAny_pure ?_)
   dsimp only
   refine wpAny_storeSet_of (s:={ s with heap:=h1 }) x1.o rfl ?_ (by rw [p2,hlen,sizeLine_eq];omega)
   exact fin _ _ _ _ (sb1.trans (Heap.SameBut.update h1 S _)) ⟨Yp x1.o,helo.perm p1,jaM p1 ⟨lo,hlo,hpo⟩,Zq (by rw [e3,p2]) e5.none_ (by rw [p2,e4];omega),e5,by rw [e4];exact x1.sm⟩
end
end L2
namespace PySem.F
theorem entry_set_or:entryFor table "set.__or__" = some Builtin.«frozenset.__or__»:=
 entryFor_alias (id':="frozenset.__or__") (by kernel_rfl) (by first | rfl | decide +kernel | (unfold String.splitOn;simp +decide [String.splitOnAux])) (by decide +kernel) (by kernel_rfl)
end PySem.F
namespace L2
open PySem PySem.Spec PyProof.Rows PySem.W
theorem KK {α:Type} [DecidableEq α]:∀ {l l':List α},l.Nodup→(∀ y∈l,y∈l')→l.length≤l'.length
 | [],_,_,_=>Nat.zero_le _
 | a :: l,l',nd,h=>by
  obtain ⟨n1,n2⟩:=List.nodup_cons.mp nd
  have ha:=h a List.mem_cons_self
  have:=KK (l':=l'.erase a) n2 fun y hy=>(List.mem_erase_of_ne (fun z=>n1 (by rw [← z];exact hy))).mpr (h y (List.mem_cons_of_mem _ hy))
  have e:=List.length_erase_of_mem ha
  have hp:0 < l'.length:=List.length_pos_of_mem ha
  rw [List.length_cons]
  omega
section
variable {prog:Program} {w:World} {A:Around} {E:Value→Shared→Prop} {s:Shared}
theorem YS {a:Addr} {Q:Bool→Shared→Prop} (h:s.TypeIs (.ref a) "set") (q:Q true s):wpAny (model prog w) A (Builtin.Frozenset.isAnySet (.ref a)) Q E s:=by
 unfold Builtin.Frozenset.isAnySet
 refine wpAny_bind (wpAny_isInstance (T:="set") (b:=true) h PySem.F.sub_set_set ?_)
 exact wpAny_pure q
theorem jdW {a:Addr} {Q:Value→Shared→Prop} (h:s.TypeIs (.ref a) "set") (q:Q (.type "set") s):wpAny (model prog w) A (Builtin.Frozenset.baseOf a) Q E s:=by
 unfold Builtin.Frozenset.baseOf
 refine wpAny_bind (wpAny_isInstance (T:="set") (b:=true) h PySem.F.sub_set_set ?_)
 exact wpAny_pure q
theorem jaQ {Q:Value→Shared→Prop} (q:Q (.ref s.heap.objs.size) { s with heap:=s.heap.push (j6 #[] 0 (.fresh 0 0 (ledOf w))) }):wpAny (model prog w) A (newSet (.type "set")) Q E s:=by
 unfold newSet setsByText
 refine wpAny_bind (wpAny_bind (wpAny_askSetting (wpAny_pure ?_)))
 dsimp only
 simp only [newObj]
 exact wpAny_bind (wpAny_alloc (wpAny_pure q))
theorem Zn {h:Heap} {a:Addr} (e:h.get? a=some (j6 #[] 0 (.fresh 0 0 (ledOf w)))):SmS prog w h a (ledOf w) [] #[] 0 (.fresh 0 0 (ledOf w)):=
 ⟨e,fun e he=>by simp at he,⟨[],.nil,.nil⟩,rfl,⟨rfl,rfl,List.Pairwise.nil⟩,.inl rfl⟩
theorem YT {a:Addr} {Q:Addr→Shared→Prop} (q:Q a s):wpAny (model prog w) A (Builtin.Frozenset.addrOf (.ref a)) Q E s:=wpAny_pure q
theorem KC {a:Addr} {es:Array (Int×Value)} {ep:Nat} {t:SetTable} {Q:Nat→Shared→Prop} (ho:s.heap.get? a=some (j6 es ep t)) (hf:t.fits es.size=true) (q:Q ep s):wpAny (model prog w) A (setEpoch a) Q E s:=by
 unfold setEpoch
 exact wpAny_bind (wpAny_setState_of ho rfl hf (wpAny_pure q))
theorem SetAtS.type {h:Heap} {a:Addr} {led:Bool} {σ:List Str} (x:SetAtS prog w h a led σ):∃ es ep t,h.get? a=some (j6 es ep t)∧t.fits es.size=true:=by
 obtain ⟨es,ep,t,e,_,_,_,hf,_⟩:=x
 exact ⟨es,ep,t,e,hf⟩
theorem jfv {a b:Addr} {σ1 σ2:List Str} {Q:Value→Shared→Prop} (ha:SetAtS prog w s.heap a (ledOf w) σ1) (hb:SetAtS prog w s.heap b (ledOf w) σ2) (n1:σ1.Nodup) (n2:σ2.Nodup) (hz:σ1.length+σ2.length≤15)
  (h:∀ h' σ',(∀ c o,s.heap.get? c=some o→h'.get? c=some o)→SetAtS prog w h' s.heap.objs.size (ledOf w) σ'→σ'.Nodup→(∀ y,y∈σ'↔y∈σ1∨y∈σ2)→Q (.ref s.heap.objs.size) { s with heap:=h' }):wpAny (model prog w) A (call (.builtin "set.__or__") [.ref a,.ref b]) (fun v s'=>v≠.notImplemented∧Q v s') E s:=by
 obtain ⟨ea,pa,ta,oa,fa⟩:=ha.type
 obtain ⟨eb,pb,tb,ob,fb⟩:=hb.type
 have Ta:s.TypeIs (.ref a) "set":=⟨_,oa,rfl⟩
 have Tb:s.TypeIs (.ref b) "set":=⟨_,ob,rfl⟩
 refine wpAny_call_entry PySem.F.slot_set_or Ta PySem.F.entry_set_or ?_ (PySem.F.args_set_or_2 _ _)
 show wpAny _ _ (Builtin.Frozenset.slot1 "__or__" ⟨[.ref a,.ref b],[]⟩ >>= _) _ _ _
 refine wpAny_bind (wpAny_of_eq (a:=(Value.ref a,Value.ref b)) rfl ?_)
 simp only [Bool.false_eq_true,if_false]
 refine wpAny_bind ?_
 unfold andM
 refine wpAny_bind (YS Ta ?_)
 show wpAny _ _ (Builtin.Frozenset.isAnySet (.ref b)) _ _ _
 refine YS Tb ?_
 rw [if_neg (by decide)]
 show wpAny _ _ ((Builtin.Frozenset.copyOf a >>= _) >>= _) _ _ _
 refine wpAny_bind (wpAny_bind ?_)
 unfold Builtin.Frozenset.copyOf
 refine wpAny_bind (jdW Ta ?_)
 refine wpAny_bind (jaQ ?_)
 have eS:(s.heap.push (j6 #[] 0 (.fresh 0 0 (ledOf w)))).get? s.heap.objs.size=some (j6 #[] 0 (.fresh 0 0 (ledOf w))):=Heap.get?_push_size _ rfl
 have old1:∀ c o,s.heap.get? c=some o→(s.heap.push (j6 #[] 0 (.fresh 0 0 (ledOf w)))).get? c=some o:=fun c o e=>Heap.get?_push_of_some _ e
 have laS:s.heap.objs.size≠a:=fun z=>absurd (Heap.lt_size oa) (by rw [z];exact Nat.lt_irrefl _)
 have lbS:s.heap.objs.size≠b:=fun z=>absurd (Heap.lt_size ob) (by rw [z];exact Nat.lt_irrefl _)
 generalize s.heap.push (j6 #[] 0 (.fresh 0 0 (ledOf w)))=h1 at *
 refine wpAny_bind (YT ?_)
 refine wpAny_bind (JV (s:={ s with heap:=h1 }) (each:=pure ()) laS (Zn eS) (ha.kept fun o e=>old1 a o e) List.nodup_nil n1 (by rw [List.length_nil];omega) (fun s' Q' _ q=>wpAny_pure q) fun h2 σ' sb2 _ nd2 m2 sm2=>?_)
 obtain ⟨es2,ep2,t2,x2⟩:=sm2 (.inl rfl)
 refine wpAny_pure ?_
 have m2':∀ y,y∈σ'↔y∈σ1:=fun y=>by rw [m2];simp
 have l2:σ'.length≤σ1.length:=KK nd2 fun y hy=>(m2' y).mp hy
 have old2:∀ c o,s.heap.get? c=some o→h2.get? c=some o:=fun c o e=>(sb2.2 c (Nat.ne_of_lt (Heap.lt_size e))).trans (old1 c o e)
 by_cases hab:((Value.ref b != Value.ref a)=true)
 ·show wpAny _ _ (if (Value.ref b != Value.ref a)=true then _ else _) _ _ _
  rw [if_pos hab]
  refine wpAny_bind (YT ?_)
  refine wpAny_bind (wpAny_holding ?_)
  unfold Builtin.Frozenset.updateFrom
  refine wpAny_bind (YS (s:={ s with heap:=h2 }) ⟨_,old2 _ _ ob,rfl⟩ ?_)
  rw [if_pos rfl]
  refine wpAny_bind (YT ?_)
  unfold Builtin.Frozenset.merge
  refine wpAny_bind (KC (s:={ s with heap:=h2 }) (old2 _ _ ob) fb ?_)
  refine JV (s:={ s with heap:=h2 }) lbS x2 (hb.kept fun o e=>old2 b o e) nd2 n2 (by omega) (fun s' Q' hk q=>?_) fun h3 σ3 sb3 hS3 nd3 m3 _=>?_
  ·unfold Builtin.Frozenset.unchanged
   refine wpAny_bind (KC (hk _ (old2 _ _ ob)) fb ?_)
   rw [if_neg (by simp)]
   exact wpAny_pure q
  ·refine wpAny_pure (wpAny_pure ⟨_,rfl,(fun z=>by cases z),h h3 σ3 (fun c o e=>(sb3.2 c (Nat.ne_of_lt (Heap.lt_size e))).trans (old2 c o e)) hS3 nd3 fun y=>by rw [m3,m2']⟩)
 ·show wpAny _ _ (if (Value.ref b != Value.ref a)=true then _ else _) _ _ _
  rw [if_neg hab]
  have e:b=a:=by simpa using hab
  subst e
  have:σ2.Perm σ1:=by
   obtain ⟨_,_,_,z1,_,⟨l1,k1,p1⟩,_⟩:=ha
   obtain ⟨_,_,_,z2,_,⟨l2',k2,p2⟩,_⟩:=hb
   rw [z1] at z2
   cases z2
   have e1:=k1.strs
   have e2:=k2.strs
   rw [e1] at e2
   subst e2
   exact p2.symm.trans p1
  refine wpAny_pure (wpAny_pure ⟨_,rfl,(fun z=>by cases z),h h2 σ' old2 (x2.set (by unfold scanBound;omega)) nd2 fun y=>by rw [m2',this.mem_iff];simp⟩)
end
theorem jfR {X:Cx}:OpR X (binaryOp .BitOr) (fun x y H Q=>∃ (a b:Addr) (σ1 σ2:List Str),x=.ref a∧y=.ref b∧H a=some (Jm X a σ1)∧H b=some (Jm X b σ2)∧σ1.Nodup∧σ2.Nodup∧σ1.length+σ2.length≤15∧∀ v σ',H v=none→σ'.Nodup→(∀ z,z∈σ'↔z∈σ1∨z∈σ2)→Q (.ref v) (upd H v (Jm X v σ'))):=by
 intro pins s σ H x y v u Q I rx ry h
 obtain ⟨a,b,σ1,σ2,rfl,rfl,ha,hb,n1,n2,hz,q⟩:=h
 cases rx
 cases ry
 have sa:SetAtS X.prog X.w s.heap a (ledOf X.w) σ1:=(I.hok a _ ha).1
 have sb:SetAtS X.prog X.w s.heap b (ledOf X.w) σ2:=(I.hok b _ hb).1
 obtain ⟨ea,pa,ta,oa,_⟩:=sa.type
 obtain ⟨eb,pb,tb,ob,_⟩:=sb.type
 refine wpAny_binaryOp_same (T:="set") ⟨_,oa,rfl⟩ ⟨_,ob,rfl⟩ PySem.F.fills_set_or PySem.F.slot_set_or (jfv sa sb n1 n2 hz fun h' σ' hk hS nd m=>?_)
 have hS':=hS
 obtain ⟨es,ep,t,e,_⟩:=hS'
 exact ⟨.ref s.heap.objs.size,_,I.laid (t':=s.toks) hk (Nat.le_refl _) (show ObjOk X.prog X.w _ _ _ (Jm X s.heap.objs.size σ') from ⟨hS,⟨_,e⟩,fun h1 h2 x k=>x.kept k⟩),rfl,q _ _ (I.hok.fresh (Nat.le_refl _)) nd m⟩
theorem Zl {K:W.Frag} {cd:Value} {q:Str} (h:W.codeIn K cd q=true):W.kdsCode K cd=true:=by
 unfold W.codeIn at h
 unfold W.kdsCode
 split at h
 ·split at h
  ·rename_i e
   dsimp only
   rw [e]
  ·cases h
 ·cases h
theorem jeu {X:Cx} {z:Str} {j:Nat} {p1 pos:Pos} (hc:W.kdsCode X.K X.env.code=true):PE X (.Set [.Constant (.str z) j p1] 0 pos) (fun _ H Q=>∀ v,H v=none→Q (.ref v) (upd H v (Jm X v [z]))):=by
 intro pins s σ H Q I q
 rw [arm_eval_Set]
 refine wpAny_bind (wpAny_standAt ?_)
 refine wpAny_bind (kds_main I.kIn hc fun b=>?_)
 show wpAny _ _ (setDisplay .oneByOne b [(false,do let v ← eval (.Constant (.str z) j p1) X.env;standAt pos;pure v)]) _ _ _
 unfold setDisplay
 rw [if_neg (by decide)]
 refine wpAny_bind (jaQ ?_)
 have eS:(s.heap.push (j6 #[] 0 (.fresh 0 0 (ledOf X.w)))).get? s.heap.objs.size=some (j6 #[] 0 (.fresh 0 0 (ledOf X.w))):=Heap.get?_push_size _ rfl
 dsimp only
 refine wpAny_bind (wpAny_holding ?_)
 refine wpAny_bind (wpAny_evalAll_cons (wpAny_bind (wpAny_Constant_str (wpAny_bind (wpAny_standAt (wpAny_pure (wpAny_evalAll_nil ?_)))))))
 refine wpAny_bind (wpAny_holding ?_)
 refine wpAny_bind ?_
 rw [List.forIn_cons]
 refine wpAny_bind ?_
 refine wpAny_bind ?_
 unfold setAdd
 refine wpAny_holding ?_
 refine wpAny_bind ((PySem.strKind X.prog X.w).pyHash (k:=z) (strKind_is _ _ _ _) ?_)
 refine yE (prog:=X.prog) (w:=X.w) (σ:=[]) ((Zn (prog:=X.prog) (w:=X.w) eS).set (by decide)) (by decide) fun b' h' sb hS=>?_
 rw [if_neg (by simp)] at hS
 refine wpAny_pure ?_
 dsimp only
 rw [List.forIn_nil]
 refine wpAny_pure ?_
 rw [if_neg (by decide)]
 refine wpAny_pure ?_
 show wpAny _ _ (forIn ([]:List (Bool×Sem Value)) PUnit.unit _ >>= _) _ _ _
 rw [List.forIn_nil]
 refine wpAny_bind (wpAny_pure (wpAny_pure (wpAny_pure ?_)))
 have hS':=hS
 obtain ⟨es,ep,t,e,_⟩:=hS'
 exact ⟨.ref s.heap.objs.size,_,I.laid (fun c o eo=>(sb.2 c (Nat.ne_of_lt (Heap.lt_size eo))).trans (Heap.get?_push_of_some _ eo)) (Nat.le_refl _) (show ObjOk X.prog X.w _ _ _ (Jm X s.heap.objs.size [z]) from ⟨hS,⟨_,e⟩,fun h1 h2 x k=>x.kept k⟩),rfl,q _ (I.hok.fresh (Nat.le_refl _))⟩
theorem Fun.okC {P:Program} {w:World} {K:W.Frag} {mg:Str→Option Value} {base:Heap} {x qual:Str} {st:Stmt} {f:Addr} {fd:FuncData} {N ps:List Str} {k:Nat} {sp:Sp} (F:Fun K x qual st f fd) (S:FnScope N ps (js st)) (len:∀ vs H Q E,sp vs H Q E→vs.length=ps.length)
  (hbody:∀ (cdv:Value) (A:Around) (outer:List Env) (s:Shared) (H:Hp) (vs:List V) (Q:VK) (E:XK),W.kdsCode K cdv=true→Room k (A.deeper (envOfC qual (js st) s.heap.objs.size f cdv))→sp vs H Q E→
   ∃ t,QSs (Zz CX0 P w K mg base N qual (js st) f cdv A outer s H E).nox (qL st) t∧t { nx:=fun _ H'=>Q .non H',rt:=Q } (ym N vs) H):FnOk P w K mg base CX0 (k+1) f fd ps sp:=by
 obtain ⟨oc,od,kV,doc,pm,an,cdv,ct,osl,rfl,lk,hcd⟩:=F.ex
 refine jfp lk hcd S len fun A outer s H vs Q E hr hsp=>?_
 obtain ⟨t,h,q⟩:=hbody cdv A outer s H vs Q E (Zl hcd) hr hsp
 exact ⟨t,h.h.nox,q⟩
theorem jb2 {X:Cx} {z:Str} {j:Nat} {p1 pos:Pos} (hc:W.kdsCode X.K X.env.code=true):QE X (.Set [.Constant (.str z) j p1] 0 pos) (fun _ H Q=>∀ v,H v=none→Q (.ref v) (upd H v (Jm X v [z]))):=⟨jeu hc⟩
end L2
namespace LW
open PySem L2
theorem ka {n:Nat} (h:n≤1000):n≤sizeLine:=Nat.le_of_lt (jv h)
theorem sm {n:Nat} (h:n.ble 1000=true):n≤sizeLine:=ka (Nat.le_of_ble_eq_true h)
def jaq:TE:=fun _ _ _=>False
theorem jcT {X:Cx} {e:Expr}:PE X e jaq:=fun _ _ _ _ _ _ h=>h.elim
theorem qN {X:Cx} {e:Expr}:QE X e jaq:=⟨jcT⟩
inductive Tm where
 | is (x:Str) | at_ (r x:Str) (d:Int)
inductive Bd where
 | is (x:Str) | row (r:Str)
inductive Cl where
 | least (a b:Tm) (c:Int) | each (t:Str) (td:Int) (u:Str) (ud:Int) (r way:Str) (b:Bd) (c:Int) | rise (t:Str) (td:Int) (u:Str) (ud:Int) (r:Str)
inductive Sm where
 | set (x:Str) (t:Tm) (c:Int) | put (r x:Str) (d:Int) (t:Tm) (c:Int) | any (x:Str) | claim (C:Cl) | call (x f:Str) (as rs:List Str)
def plD (x:Str) (d:Int):D:=.tup [.str x,.int d]
def Tm.toD:Tm→D
 | .is x=>.tup [.str "is",.str x]
 | .at_ r x d=>.tup [.str "at",.str r,plD x d]
def Bd.toD:Bd→D
 | .is x=>.tup [.str "is",.str x]
 | .row r=>.tup [.str "row",.str r]
def Cl.toD:Cl→D
 | .least a b c=>.tup [.str "least",a.toD,b.toD,.int c]
 | .each t td u ud r way b c=>.tup [.str "each",plD t td,plD u ud,.str r,.str way,b.toD,.int c]
 | .rise t td u ud r=>.tup [.str "rise",plD t td,plD u ud,.str r]
def Sm.toD:Sm→D
 | .set x t c=>.tup [.str "set",.str x,t.toD,.int c]
 | .put r x d t c=>.tup [.str "put",.str r,plD x d,t.toD,.int c]
 | .any x=>.tup [.str "any",.str x]
 | .claim C=>.tup [.str "claim",C.toD]
 | .call x f as rs=>.tup [.str "call",.str x,.str f,.tup (as.map D.str),.tup (rs.map D.str)]
def Tm.ns:Tm→List Str
 | .is x=>[x]
 | .at_ _ x _=>[x]
def Cl.ns:Cl→List Str
 | .least a b _=>a.ns++b.ns
 | .each t _ u _ _ _ b _=>[t,u]++(match b with | .is x=>[x] | .row _=>[])
 | .rise t _ u _ _=>[t,u]
def Sm.ns:Sm→List Str
 | .set x t _=>[x]++t.ns
 | .put _ x _ t _=>[x]++t.ns
 | .any x=>[x]
 | .claim C=>C.ns
 | .call x _ as _=>[x]++as
theorem Cl.ns_len:∀ C:Cl,C.ns.length≤3
 | .least a b _=>by cases a <;> cases b <;> exact Nat.le_of_ble_eq_true rfl
 | .each _ _ _ _ _ _ b _=>by cases b <;> (unfold Cl.ns;simp)
 | .rise _ _ _ _ _=>by unfold Cl.ns;simp
def Sm.few:Sm→Prop
 | .call _ _ as rs=>as.length≤6∧rs.length≤6
 | _=>True
theorem Sm.ns_len:∀ {S:Sm},S.few→S.ns.length≤7
 | .set x t _,_=>by cases t <;> (unfold Sm.ns Tm.ns;simp)
 | .put _ x _ t _,_=>by cases t <;> (unfold Sm.ns Tm.ns;simp)
 | .any x,_=>by unfold Sm.ns;simp
 | .claim C,_=>Nat.le_trans C.ns_len (by decide)
 | .call x f as rs,h=>by unfold Sm.ns;have:=h.1;simp;omega
theorem kE {H:Hp} {x:Int} {v:V} (h:Held H (.int x) v):v=.int x:=by unfold Held at h;exact h
theorem jC {H:Hp} {ds:List D} {v:V} (h:Held H (.tup ds) v):∃ a xs,v=.ref a∧H a=some (.tup xs)∧HeldL H ds xs:=by unfold Held at h;exact h
theorem jM {H:Hp} {vs:List V} (h:HeldL H [] vs):vs=[]:=by unfold HeldL at h;exact h
theorem jh {H:Hp} {d:D} {ds:List D} {vs:List V} (h:HeldL H (d :: ds) vs):∃ v r,vs=v :: r∧Held H d v∧HeldL H ds r:=by unfold HeldL at h;exact h
theorem jB {H:Hp} {x:Str} {v:V} (h:Held H (.str x) v):v=.str x:=by unfold Held at h;exact h
theorem zt {H:Hp} {x:Str} {d:Int} {v:V} (h:Held H (plD x d) v):∃ a,v=.ref a∧H a=some (.tup [.str x,.int d]):=by
 obtain ⟨a,xs,rfl,ha,h1⟩:=jC h
 obtain ⟨v1,r1,rfl,e1,h2⟩:=jh h1
 obtain ⟨v2,r2,rfl,e2,h3⟩:=jh h2
 cases jM h3
 cases jB e1
 cases kE e2
 exact ⟨a,rfl,ha⟩
theorem qo {H:Hp} {x y:Str} {v:V} (h:Held H (.tup [.str x,.str y]) v):∃ a,v=.ref a∧H a=some (.tup [.str x,.str y]):=by
 obtain ⟨a,xs,rfl,ha,h1⟩:=jC h
 obtain ⟨v1,r1,rfl,e1,h2⟩:=jh h1
 obtain ⟨v2,r2,rfl,e2,h3⟩:=jh h2
 cases jM h3
 cases jB e1
 cases jB e2
 exact ⟨a,rfl,ha⟩
theorem jah {H:Hp} {r x:Str} {d:Int} {v:V} (h:Held H (Tm.at_ r x d).toD v):∃ a b,v=.ref a∧H a=some (.tup [.str "at",.str r,.ref b])∧H b=some (.tup [.str x,.int d]):=by
 obtain ⟨a,xs,rfl,ha,h1⟩:=jC h
 obtain ⟨v1,r1,rfl,e1,h2⟩:=jh h1
 obtain ⟨v2,r2,rfl,e2,h3⟩:=jh h2
 obtain ⟨v3,r3,rfl,e3,h4⟩:=jh h3
 cases jM h4
 cases jB e1
 cases jB e2
 obtain ⟨b,rfl,hb⟩:=zt e3
 exact ⟨a,b,rfl,ha,hb⟩
theorem yZ {H:Hp} {a b:Tm} {c:Int} {v:V} (h:Held H (Cl.least a b c).toD v):∃ t va vb,v=.ref t∧H t=some (.tup [.str "least",va,vb,.int c])∧Held H a.toD va∧Held H b.toD vb:=by
 obtain ⟨t,xs,rfl,ht,h1⟩:=jC h
 obtain ⟨v1,r1,rfl,e1,h2⟩:=jh h1
 obtain ⟨v2,r2,rfl,e2,h3⟩:=jh h2
 obtain ⟨v3,r3,rfl,e3,h4⟩:=jh h3
 obtain ⟨v4,r4,rfl,e4,h5⟩:=jh h4
 cases jM h5
 cases jB e1
 cases kE e4
 exact ⟨t,v2,v3,rfl,ht,e2,e3⟩
theorem JR {H:Hp} {x y r:Str} {d e:Int} {v:V} (h:Held H (Cl.rise x d y e r).toD v):∃ t a b,v=.ref t∧H t=some (.tup [.str "rise",.ref a,.ref b,.str r])∧H a=some (.tup [.str x,.int d])∧H b=some (.tup [.str y,.int e]):=by
 obtain ⟨t,xs,rfl,ht,h1⟩:=jC h
 obtain ⟨v1,r1,rfl,e1,h2⟩:=jh h1
 obtain ⟨v2,r2,rfl,e2,h3⟩:=jh h2
 obtain ⟨v3,r3,rfl,e3,h4⟩:=jh h3
 obtain ⟨v4,r4,rfl,e4,h5⟩:=jh h4
 cases jM h5
 cases jB e1
 cases jB e4
 obtain ⟨a,rfl,ha⟩:=zt e2
 obtain ⟨b,rfl,hb⟩:=zt e3
 exact ⟨t,a,b,rfl,ht,ha,hb⟩
theorem Zt {H:Hp} {x y r way:Str} {d e c:Int} {bd:Bd} {v:V} (h:Held H (Cl.each x d y e r way bd c).toD v):∃ t a b vb,v=.ref t∧H t=some (.tup [.str "each",.ref a,.ref b,.str r,.str way,.ref vb,.int c])∧H a=some (.tup [.str x,.int d])∧H b=some (.tup [.str y,.int e])∧H vb=some (.tup (match bd with | .is z=>[.str "is",.str z] | .row z=>[.str "row",.str z])):=by
 obtain ⟨t,xs,rfl,ht,h1⟩:=jC h
 obtain ⟨v1,r1,rfl,e1,h2⟩:=jh h1
 obtain ⟨v2,r2,rfl,e2,h3⟩:=jh h2
 obtain ⟨v3,r3,rfl,e3,h4⟩:=jh h3
 obtain ⟨v4,r4,rfl,e4,h5⟩:=jh h4
 obtain ⟨v5,r5,rfl,e5,h6⟩:=jh h5
 obtain ⟨v6,r6,rfl,e6,h7⟩:=jh h6
 obtain ⟨v7,r7,rfl,e7,h8⟩:=jh h7
 cases jM h8
 cases jB e1
 cases jB e4
 cases jB e5
 cases kE e7
 obtain ⟨a,rfl,ha⟩:=zt e2
 obtain ⟨b,rfl,hb⟩:=zt e3
 cases bd with
 | is z=>
  obtain ⟨vb,rfl,hvb⟩:=qo e6
  exact ⟨t,a,b,vb,rfl,ht,ha,hb,hvb⟩
 | row z=>
  obtain ⟨vb,rfl,hvb⟩:=qo e6
  exact ⟨t,a,b,vb,rfl,ht,ha,hb,hvb⟩
abbrev jdr (H:Hp) (Q:VK) (xs:List Str):Prop:=∀ l H',Same H H'→H l=none→H' l=some (.lst (xs.map V.str))→Q (.ref l) H'
def Yc:Sp:=fun vs H Q _=>∃ (v:V) (t:Tm),vs=[v]∧Held H t.toD v∧jdr H Q t.ns
def Y3:Sp:=fun vs H Q _=>∃ (v:V) (C:Cl),vs=[v]∧Held H C.toD v∧jdr H Q C.ns
def yT:Sp:=fun vs H Q _=>∃ (a:Addr) (vs':List V) (Cs:List Cl),vs=[.ref a]∧H a=some (.tup vs')∧HeldL H (Cs.map Cl.toD) vs'∧Cs.length≤100∧jdr H Q (Cs.flatMap Cl.ns)
def jax:Sp:=fun vs H Q _=>∃ (v:V) (S:Sm),vs=[v]∧Held H S.toD v∧S.few∧jdr H Q S.ns
def top (i:Nat):Stmt:=PySem.Challenge.pw_outlineward_k63_duties_of_calls.main.body.getD i (.Pass ⟨0,0,0,0⟩)
abbrev qB:Stmt:=top 11
abbrev qr:Stmt:=top 10
abbrev kZ:Stmt:=top 9
section
variable {P:Program} {w:World} {K:W.Frag} {mg:Str→Option Value} {base:Heap}
theorem jdc {f:Addr} {fd:FuncData} (F:Fun K "term_numbers" "term_numbers" qB f fd):FnOk P w K mg base CX0 1 f fd ["term"] Yc:=by
 have sc:FnScope ["term"] ["term"] (js qB):=fQ
 refine F.okZ sc (fun vs H Q E h=>?_) (fun cdv A outer s H vs Q E hr h=>?_)
 ·obtain ⟨v,t,rfl,_⟩:=h
  rfl
 obtain ⟨v,t,rfl,ht,q⟩:=h
 refine ⟨_,(jg (jL (jz jY (jj jq (zpv 0) je (fun _ _=>rfl)) jo (jH _)) (ji (jw (jI (ja (jj jq (zpv 0) je (fun _ _=>rfl)) jd)))) jD)
   (ji (jw (jI (ja (jj jq (jj jq (zpv 0) je (fun _ _=>rfl)) je (fun _ _=>rfl)) jd))))),?_⟩
 cases t with
 | is x=>
  obtain ⟨a,rfl,ha⟩:=qo ht
  refine ⟨_,rfl,a,_,_,_,rfl,rfl,SqT.of ha,rfl,rfl,_,rfl,j3 (fun _=>?_) (fun d=>absurd (decide_eq_true rfl) d)⟩
  exact ⟨_,rfl,a,_,_,_,rfl,rfl,SqT.of ha,rfl,sm rfl,fun l hl=>q l _ (jf hl _) hl jb⟩
 | at_ r x d=>
  obtain ⟨a,b,rfl,ha,hb⟩:=jah ht
  refine ⟨_,rfl,a,_,_,_,rfl,rfl,SqT.of ha,rfl,rfl,_,rfl,j3 (fun d=>absurd (of_decide_eq_true d) (by decide)) (fun _=>?_)⟩
  exact ⟨_,rfl,a,_,_,_,rfl,rfl,SqT.of ha,rfl,b,_,_,_,rfl,rfl,SqT.of hb,rfl,sm rfl,fun l hl=>q l _ (jf hl _) hl jb⟩
theorem jbB {f:Addr} {fd:FuncData} (F:Fun K "claim_numbers" "claim_numbers" qr f fd) (F_term_numbers:Fn P w K mg base 1 "term_numbers" ["term"] Yc):FnOk P w K mg base CX0 2 f fd ["claim"] Y3:=by
 have sc:FnScope ["claim","ends"] ["claim"] (js qr):=fQ
 refine F.okZ sc (fun vs H Q E h=>?_) (fun cdv A outer s H vs Q E hr h=>?_)
 ·obtain ⟨v,C,rfl,_⟩:=h
  rfl
 obtain ⟨v,C,rfl,hC,q⟩:=h
 refine ⟨_,(jg (jL (jz jY (jj jq (zpv 0) je (fun _ _=>rfl)) jo (jH _)) (ji (jw (jm kD (ju F_term_numbers hr (ja (jj jq (zpv 0) je (fun _ _=>rfl)) jd)) (ju F_term_numbers hr (ja (jj jq (zpv 0) je (fun _ _=>rfl)) jd))))) jD)
   (jg (jx (i:=1) sc.nd rfl oQ (jI (ja (jj jq (jj jq (zpv 0) je (fun _ _=>rfl)) je (fun _ _=>rfl)) (ja (jj jq (jj jq (zpv 0) je (fun _ _=>rfl)) je (fun _ _=>rfl)) jd))))
   (jg (qC (jL (K6 (jz jY (jj jq (zpv 0) je (fun _ _=>rfl)) jo (jH _)) (Jx (jz jY (jj jq (jj jq (zpv 0) je (fun _ _=>rfl)) je (fun _ _=>rfl)) jo (jH _)))).pt (ji (jw (jm kD (zpv 1) (jI (ja (jj jq (jj jq (zpv 0) je (fun _ _=>rfl)) je (fun _ _=>rfl)) jd))))) jD))
   (ji (jw (zpv 1)))))),?_⟩
 refine jR (σ':=[some v,none]) rfl ?_
 have tnl:∀ t:Tm,t.ns.length=1:=fun t=>by cases t <;> rfl
 cases C with
 | least a b c=>
  obtain ⟨t,va,vb,rfl,ht,ha,hb⟩:=yZ hC
  refine ⟨_,rfl,t,_,_,_,rfl,rfl,SqT.of ht,rfl,rfl,_,rfl,j3 (fun _=>?_) (fun d=>absurd (decide_eq_true rfl) d)⟩
  refine ⟨_,rfl,t,_,_,_,rfl,rfl,SqT.of ht,rfl,va,a,rfl,ha,fun l1 H1 s1 n1 e1=>?_⟩
  refine ⟨_,rfl,t,_,_,_,rfl,rfl,SqT.of (s1 _ _ ht),rfl,vb,b,rfl,hb.mono s1,fun l2 H2 s2 n2 e2=>?_⟩
  refine ⟨l1,l2,_,_,rfl,rfl,s2 _ _ e1,e2,Nat.le_trans (by rw [List.length_map,List.length_map,tnl,tnl];exact (by decide:1+1≤1000)) (ka (Nat.le_refl 1000)),fun l3 hl3=>?_⟩
  refine q l3 _ (s1.trans (s2.trans (jf hl3 _))) (s1.free (s2.free hl3)) ?_
  rw [jb,← List.map_append]
  rfl
 | rise x d y e r=>
  obtain ⟨t,a,b,rfl,ht,ha,hb⟩:=JR hC
  refine ⟨_,rfl,t,_,_,_,rfl,rfl,SqT.of ht,rfl,rfl,_,rfl,j3 (fun d=>absurd (of_decide_eq_true d) (by decide)) (fun _=>?_)⟩
  refine ⟨_,rfl,t,_,_,_,rfl,rfl,SqT.of ht,rfl,a,_,_,_,rfl,rfl,SqT.of ha,rfl,_,rfl,t,_,_,_,rfl,rfl,SqT.of ht,rfl,b,_,_,_,rfl,rfl,SqT.of hb,rfl,sm rfl,fun l hl=>?_⟩
  have s1:=jf hl (.lst [V.str x,V.str y])
  have e1:upd H l (.lst [V.str x,V.str y]) l=some (.lst [V.str x,V.str y]):=jb
  generalize upd H l (.lst [V.str x,V.str y])=H1 at *
  refine gQ ?_
  refine ⟨fun σ' G=>σ'=[some (.ref t),some (.ref l)]∧G=H1,?_,?_⟩
  ·exact ⟨_,rfl,t,_,_,_,rfl,rfl,SqT.of (s1 _ _ ht),rfl,rfl,_,rfl,j3 (fun d=>absurd (of_decide_eq_true d) (by decide)) (fun _=>qH ⟨rfl,rfl⟩)⟩
  ·rintro σ' G ⟨rfl,rfl⟩
   exact ⟨_,rfl,q l _ s1 hl e1⟩
 | each x d y e r way bd c=>
  obtain ⟨t,a,b,vb,rfl,ht,ha,hb,hvb⟩:=Zt hC
  refine ⟨_,rfl,t,_,_,_,rfl,rfl,SqT.of ht,rfl,rfl,_,rfl,j3 (fun d=>absurd (of_decide_eq_true d) (by decide)) (fun _=>?_)⟩
  refine ⟨_,rfl,t,_,_,_,rfl,rfl,SqT.of ht,rfl,a,_,_,_,rfl,rfl,SqT.of ha,rfl,_,rfl,t,_,_,_,rfl,rfl,SqT.of ht,rfl,b,_,_,_,rfl,rfl,SqT.of hb,rfl,sm rfl,fun l hl=>?_⟩
  have s1:=jf hl (.lst [V.str x,V.str y])
  have e1:upd H l (.lst [V.str x,V.str y]) l=some (.lst [V.str x,V.str y]):=jb
  generalize upd H l (.lst [V.str x,V.str y])=H1 at *
  refine gQ ?_
  refine ⟨fun σ' G=>σ'=[some (.ref t),some (.ref l)]∧G=H1∧∃ z,bd=.row z,?_,?_⟩
  ·refine ⟨_,rfl,t,_,_,_,rfl,rfl,SqT.of (s1 _ _ ht),rfl,rfl,_,rfl,j3 (fun _=>?_) (fun d=>absurd (decide_eq_true rfl) d)⟩
   cases bd with
   | row z=>exact ⟨_,rfl,t,_,_,_,rfl,rfl,SqT.of (s1 _ _ ht),rfl,vb,_,_,_,rfl,rfl,SqT.of (s1 _ _ hvb),rfl,rfl,_,rfl,j3 (fun d=>absurd (of_decide_eq_true d) (by decide)) (fun _=>⟨rfl,rfl,z,rfl⟩)⟩
   | is z=>
    refine ⟨_,rfl,t,_,_,_,rfl,rfl,SqT.of (s1 _ _ ht),rfl,vb,_,_,_,rfl,rfl,SqT.of (s1 _ _ hvb),rfl,rfl,_,rfl,j3 (fun _=>?_) (fun d=>absurd (decide_eq_true rfl) d)⟩
    refine ⟨_,rfl,_,rfl,t,_,_,_,rfl,rfl,SqT.of (s1 _ _ ht),rfl,vb,_,_,_,rfl,rfl,SqT.of (s1 _ _ hvb),rfl,sm rfl,fun l2 hl2=>?_⟩
    have s2:=jf hl2 (.lst [V.str z])
    refine ⟨l,l2,_,_,rfl,rfl,s2 _ _ e1,jb,Nat.le_trans (Nat.le_of_ble_eq_true rfl) (ka (Nat.le_refl 1000)),fun l3 hl3=>?_⟩
    exact q l3 _ (s1.trans (s2.trans (jf hl3 _))) (s1.free (s2.free hl3)) jb
  ·rintro σ' G ⟨rfl,rfl,z,rfl⟩
   exact ⟨_,rfl,q l _ s1 hl e1⟩
theorem ZX {f:Addr} {fd:FuncData} (F:Fun K "claims_numbers" "claims_numbers" kZ f fd) (F_claim_numbers:Fn P w K mg base 2 "claim_numbers" ["claim"] Y3):FnOk P w K mg base CX0 3 f fd ["claims"] yT:=by
 have sc:FnScope ["claims","told","claim"] ["claims"] (js kZ):=fQ
 refine F.okZ sc (fun vs H Q E h=>?_) (fun cdv A outer s H vs Q E hr h=>?_)
 ·obtain ⟨a,vs',Cs,rfl,_⟩:=h
  rfl
 obtain ⟨a,us,Cs,rfl,ha,hCs,hlen,q⟩:=h
 refine ⟨_,(jg (jx (i:=1) sc.nd rfl oQ (jI jd))
   (jg (jZ PassesOwn.never rfl (kO (zpv 0)) (jt (i:=2) sc.nd rfl oQ) (ji (jK (kb PySem.F.plainAttrs_list PySem.F.slot_list_extend PySem.F.type_list_extend yc (zpv 1) (ja (ju F_claim_numbers hr (ja (zpv 2) jd)) jd)))))
   (ji (jw (zpv 1))))),?_⟩
 refine jR (σ':=[some (.ref a),none,none]) rfl ?_
 refine ⟨sm rfl,fun l hl=>?_⟩
 have s1:=jf hl (.lst [])
 have e1:upd H l (.lst []) l=some (.lst []):=jb
 generalize upd H l (.lst [])=H1 at *
 refine gQ ?_
 have hul:=hCs.length
 rw [List.length_map] at hul
 refine ⟨_,rfl,a,rfl,⟨_,SqT.of (s1 _ _ ha)⟩,?_⟩
 refine zA (xs:=us) (fun i σ G=>∃ u2,σ=[some (.ref a),some (.ref l),u2]∧Same H G∧G l=some (.lst (((Cs.take i).flatMap Cl.ns).map V.str))) ⟨none,rfl,s1,e1⟩ ?_ ?_ ?_
 ·rintro i σ G _ ⟨u2,rfl,sG,_⟩
  exact SqT.of (sG _ _ ha)
 ·rintro i x σ G hx ⟨u2,rfl,sG,hG⟩
  have hi:i < Cs.length:=by have:=(List.getElem?_eq_some_iff.mp hx).1;omega
  obtain ⟨x',hx',hxH⟩:=hCs.get (show (Cs.map Cl.toD)[i]?=some Cs[i].toD by rw [List.getElem?_map,List.getElem?_eq_getElem hi];rfl)
  rw [hx] at hx'
  cases hx'
  have hfl:((Cs.take i).flatMap Cl.ns).length≤3 * i:=by
   have:∀ l:List Cl,(l.flatMap Cl.ns).length≤3 * l.length:=fun l=>by
    induction l with
    | nil=>exact Nat.zero_le _
    | cons c r ih=>rw [List.flatMap_cons,List.length_append,List.length_cons];have:=c.ns_len;omega
   have h1:=this (Cs.take i)
   rw [List.length_take] at h1
   omega
  refine gQ ?_
  refine ⟨_,rfl,.inl ⟨rfl,_,SqL.of hG⟩,_,rfl,x,Cs[i],rfl,hxH.mono sG,fun l2 G2 s2 n2 e2=>?_⟩
  have hG2:=s2 _ _ hG
  have hn3:=Cs[i].ns_len
  refine ⟨l,l2,_,_,rfl,rfl,hG2,e2,Nat.le_trans (by rw [List.length_map,List.length_map];omega) (ka (Nat.le_refl 1000)),?_⟩
  refine ⟨_,rfl,fun b o e=>?_,?_⟩
  ·rw [jr (jn e hl)];exact s2 _ _ (sG _ _ e)
  ·rw [jb,List.take_succ,List.getElem?_eq_getElem hi,List.flatMap_append,List.map_append]
   simp
 rintro σ G ⟨u2,rfl,sG,hG⟩
 have et:Cs.take us.length=Cs:=by rw [← hul,List.take_length]
 rw [et] at hG
 exact ⟨_,rfl,q l G sG hl hG⟩
end
abbrev qY:Stmt:=top 7
abbrev qq:Stmt:=top 8
abbrev zr:Stmt:=top 6
abbrev qa:Stmt:=top 5
def jfc:Sp:=fun vs H Q _=>∃ (v:V) (C:Cl),vs=[v]∧Held H (Sm.claim C).toD v∧∀ t u H',Same H H'→H' t=some (.tup [u])→Held H' C.toD u→Q (.ref t) H'
def Y4:Sp:=fun vs H Q _=>∃ (v:V) (S:Sm),vs=[v]∧Held H S.toD v∧∀ t H',Same H H'→H' t=some (.tup [])→Q (.ref t) H'
def jfe:Sp:=fun vs H Q _=>∃ (a:Addr) (us:List V) (Ss:List Sm),vs=[.ref a]∧H a=some (.tup us)∧HeldL H (Ss.map Sm.toD) us∧Ss.length≤100∧∀ l H',Same H H'→H l=none→H' l=some (.lst us)→Q (.ref l) H'
theorem Yh {H:Hp} {x:Str} {t:Tm} {c:Int} {v:V} (h:Held H (Sm.set x t c).toD v):∃ a u,v=.ref a∧H a=some (.tup [.str "set",.str x,u,.int c])∧Held H t.toD u:=by
 obtain ⟨a,xs,rfl,ha,h1⟩:=jC h
 obtain ⟨v1,r1,rfl,e1,h2⟩:=jh h1
 obtain ⟨v2,r2,rfl,e2,h3⟩:=jh h2
 obtain ⟨v3,r3,rfl,e3,h4⟩:=jh h3
 obtain ⟨v4,r4,rfl,e4,h5⟩:=jh h4
 cases jM h5
 cases jB e1
 cases jB e2
 cases kE e4
 exact ⟨a,v3,rfl,ha,e3⟩
theorem Yo {H:Hp} {r x:Str} {d:Int} {t:Tm} {c:Int} {v:V} (h:Held H (Sm.put r x d t c).toD v):∃ a b u,v=.ref a∧H a=some (.tup [.str "put",.str r,.ref b,u,.int c])∧H b=some (.tup [.str x,.int d])∧Held H t.toD u:=by
 obtain ⟨a,xs,rfl,ha,h1⟩:=jC h
 obtain ⟨v1,r1,rfl,e1,h2⟩:=jh h1
 obtain ⟨v2,r2,rfl,e2,h3⟩:=jh h2
 obtain ⟨v3,r3,rfl,e3,h4⟩:=jh h3
 obtain ⟨v4,r4,rfl,e4,h5⟩:=jh h4
 obtain ⟨v5,r5,rfl,e5,h6⟩:=jh h5
 cases jM h6
 cases jB e1
 cases jB e2
 cases kE e5
 obtain ⟨b,rfl,hb⟩:=zt e3
 exact ⟨a,b,v4,rfl,ha,hb,e4⟩
theorem zf {H:Hp} {C:Cl} {v:V} (h:Held H (Sm.claim C).toD v):∃ a u,v=.ref a∧H a=some (.tup [.str "claim",u])∧Held H C.toD u:=by
 obtain ⟨a,xs,rfl,ha,h1⟩:=jC h
 obtain ⟨v1,r1,rfl,e1,h2⟩:=jh h1
 obtain ⟨v2,r2,rfl,e2,h3⟩:=jh h2
 cases jM h3
 cases jB e1
 exact ⟨a,v2,rfl,ha,e2⟩
theorem kh {H:Hp}:∀ {xs:List Str} {vs:List V},HeldL H (xs.map D.str) vs→vs=xs.map V.str
 | [],_,h=>jM h
 | _ :: _,_,h=>by
  obtain ⟨v,r,rfl,h1,h2⟩:=jh h
  cases jB h1
  rw [kh h2]
  rfl
theorem zV {H:Hp} {x f:Str} {as rs:List Str} {v:V} (h:Held H (Sm.call x f as rs).toD v):∃ a b c,v=.ref a∧H a=some (.tup [.str "call",.str x,.str f,.ref b,.ref c])∧H b=some (.tup (as.map V.str))∧H c=some (.tup (rs.map V.str)):=by
 obtain ⟨a,xs,rfl,ha,h1⟩:=jC h
 obtain ⟨v1,r1,rfl,e1,h2⟩:=jh h1
 obtain ⟨v2,r2,rfl,e2,h3⟩:=jh h2
 obtain ⟨v3,r3,rfl,e3,h4⟩:=jh h3
 obtain ⟨v4,r4,rfl,e4,h5⟩:=jh h4
 obtain ⟨v5,r5,rfl,e5,h6⟩:=jh h5
 cases jM h6
 cases jB e1
 cases jB e2
 cases jB e3
 obtain ⟨b,xb,rfl,hb,hb'⟩:=jC e4
 obtain ⟨c,xc,rfl,hc,hc'⟩:=jC e5
 cases kh hb'
 cases kh hc'
 exact ⟨a,b,c,rfl,ha,hb,hc⟩
theorem Sm.head {H:Hp} {S:Sm} {v:V} (h:Held H S.toD v):∃ a k r,v=.ref a∧H a=some (.tup (.str k :: r))∧k≠"if"∧k≠"while"∧(k = "call"↔∃ x f as rs,S=.call x f as rs)∧(k = "claim"↔∃ C,S=.claim C):=by
 cases S with
 | set x t c=>obtain ⟨a,u,rfl,ha,_⟩:=Yh h;exact ⟨a,_,_,rfl,ha,by decide,by decide,⟨fun z=>absurd z (by decide),fun ⟨_,_,_,_,z⟩=>by cases z⟩,⟨fun z=>absurd z (by decide),fun ⟨_,z⟩=>by cases z⟩⟩
 | put r x d t c=>obtain ⟨a,b,u,rfl,ha,_⟩:=Yo h;exact ⟨a,_,_,rfl,ha,by decide,by decide,⟨fun z=>absurd z (by decide),fun ⟨_,_,_,_,z⟩=>by cases z⟩,⟨fun z=>absurd z (by decide),fun ⟨_,z⟩=>by cases z⟩⟩
 | any x=>obtain ⟨a,rfl,ha⟩:=qo h;exact ⟨a,_,_,rfl,ha,by decide,by decide,⟨fun z=>absurd z (by decide),fun ⟨_,_,_,_,z⟩=>by cases z⟩,⟨fun z=>absurd z (by decide),fun ⟨_,z⟩=>by cases z⟩⟩
 | claim C=>obtain ⟨a,u,rfl,ha,_⟩:=zf h;exact ⟨a,_,_,rfl,ha,by decide,by decide,⟨fun z=>absurd z (by decide),fun ⟨_,_,_,_,z⟩=>by cases z⟩,⟨fun _=>⟨C,rfl⟩,fun _=>rfl⟩⟩
 | call x f as rs=>obtain ⟨a,b,c,rfl,ha,_⟩:=zV h;exact ⟨a,_,_,rfl,ha,by decide,by decide,⟨fun _=>⟨x,f,as,rs,rfl⟩,fun _=>rfl⟩,⟨fun z=>absurd z (by decide),fun ⟨_,z⟩=>by cases z⟩⟩
section
variable {P:Program} {w:World} {K:W.Frag} {mg:Str→Option Value} {base:Heap}
theorem jfS {f:Addr} {fd:FuncData} (F:Fun K "own_claims" "own_claims" qY f fd):FnOk P w K mg base CX0 1 f fd ["statement"] jfc:=by
 have sc:FnScope ["statement"] ["statement"] (js qY):=fQ
 refine F.okZ sc (fun vs H Q E h=>?_) (fun cdv A outer s H vs Q E hr h=>?_)
 ·obtain ⟨v,C,rfl,_⟩:=h
  rfl
 obtain ⟨v,C,rfl,hC,q⟩:=h
 refine ⟨_,(jg (jL (jz jY (jj jq (zpv 0) je (fun _ _=>rfl)) jo (jH _)) (ji (jw (jm kd (jV qR (zpv 0) (jO je) (jO je)) (jj jq (zpv 0) je (fun _ _=>rfl))))) jD)
   (ji (jw (jV qR (zpv 0) (jO je) (jO je))))),?_⟩
 obtain ⟨a,u,rfl,ha,hu⟩:=zf hC
 refine ⟨_,rfl,a,_,_,_,rfl,rfl,SqT.of ha,rfl,rfl,_,rfl,j3 (fun d=>absurd (of_decide_eq_true d) (by decide)) (fun _=>?_)⟩
 refine ⟨_,rfl,_,rfl,_,rfl,a,_,rfl,SqT.of ha,(fun h=>absurd h.1 (by show ¬ (HT.sIx 2 0 (some 1)=0);decide)),fun t ht=>?_⟩
 exact q t u _ (jf ht _) jb (hu.mono (jf ht _))
theorem jdh {f:Addr} {fd:FuncData} (F:Fun K "numbers_named" "numbers_named" qq f fd) (B:Free0 mg) (F_term_numbers:Fn P w K mg base 1 "term_numbers" ["term"] Yc) (F_claims_numbers:Fn P w K mg base 3 "claims_numbers" ["claims"] yT) (F_own_claims:Fn P w K mg base 1 "own_claims" ["statement"] jfc):FnOk P w K mg base CX0 4 f fd ["statement"] jax:=by
 have sc:FnScope ["statement","kind"] ["statement"] (js qq):=fQ
 refine F.okZ sc (fun vs H Q E h=>?_) (fun cdv A outer s H vs Q E hr h=>?_)
 ·obtain ⟨v,S,rfl,_⟩:=h
  rfl
 obtain ⟨v,S,rfl,hS,hf,q⟩:=h
 refine ⟨_,(jg (jx (i:=1) sc.nd rfl oQ (jj jq (zpv 0) je (fun _ _=>rfl)))
   (jg (jL (jz jY (zpv 1) jo (jH _)) (ji (jw (jm kD (jI (ja (jj jq (zpv 0) je (fun _ _=>rfl)) jd)) (ju F_term_numbers hr (ja (jj jq (zpv 0) je (fun _ _=>rfl)) jd))))) jD)
   (jg (jL (jz jY (zpv 1) jo (jH _)) (ji (jw (jm kD (jI (ja (jj jq (jj jq (zpv 0) je (fun _ _=>rfl)) je (fun _ _=>rfl)) jd)) (ju F_term_numbers hr (ja (jj jq (zpv 0) je (fun _ _=>rfl)) jd))))) jD)
   (jg (jL (jz jY (zpv 1) jo (jH _)) (ji (jw (jI (ja (jj jq (zpv 0) je (fun _ _=>rfl)) jd)))) jD)
   (jg (jL (jz jY (zpv 1) jo (jH _)) (ji (jw (jm kD (jI (ja (jj jq (zpv 0) je (fun _ _=>rfl)) jd)) (kJ kR (by rfl) B.list_ yi (ja (jj jq (zpv 0) je (fun _ _=>rfl)) jd))))) jD)
   (ji (jw (ju F_claims_numbers hr (ja (ju F_own_claims hr (ja (zpv 0) jd)) jd))))))))),?_⟩
 refine jR (σ':=[some v,none]) rfl ?_
 have tnl:∀ t:Tm,t.ns.length=1:=fun t=>by cases t <;> rfl
 cases S with
 | set x t c=>
  obtain ⟨a,u,rfl,ha,hu⟩:=Yh hS
  refine ⟨_,rfl,a,_,_,_,rfl,rfl,SqT.of ha,rfl,?_⟩
  refine gQ ?_
  refine ⟨_,rfl,rfl,_,rfl,j3 (fun _=>?_) (fun d=>absurd (decide_eq_true rfl) d)⟩
  refine ⟨_,rfl,a,_,_,_,rfl,rfl,SqT.of ha,rfl,sm rfl,fun l hl=>?_⟩
  have s1:=jf hl (.lst [V.str x])
  have e1:upd H l (.lst [V.str x]) l=some (.lst [V.str x]):=jb
  generalize upd H l (.lst [V.str x])=H1 at *
  refine ⟨_,rfl,a,_,_,_,rfl,rfl,SqT.of (s1 _ _ ha),rfl,u,t,rfl,hu.mono s1,fun l2 H2 s2 n2 e2=>?_⟩
  refine ⟨l,l2,_,_,rfl,rfl,s2 _ _ e1,e2,Nat.le_trans (by rw [List.length_map,tnl];exact (by decide:1+1≤1000)) (ka (Nat.le_refl 1000)),fun l3 hl3=>?_⟩
  exact q l3 _ (s1.trans (s2.trans (jf hl3 _))) (s1.free (s2.free hl3)) jb
 | put r x d t c=>
  obtain ⟨a,b,u,rfl,ha,hb,hu⟩:=Yo hS
  refine ⟨_,rfl,a,_,_,_,rfl,rfl,SqT.of ha,rfl,?_⟩
  refine gQ ?_
  refine ⟨_,rfl,rfl,_,rfl,j3 (fun d=>absurd (of_decide_eq_true d) (by decide)) (fun _=>?_)⟩
  refine ⟨_,rfl,rfl,_,rfl,j3 (fun _=>?_) (fun d=>absurd (decide_eq_true rfl) d)⟩
  refine ⟨_,rfl,a,_,_,_,rfl,rfl,SqT.of ha,rfl,b,_,_,_,rfl,rfl,SqT.of hb,rfl,sm rfl,fun l hl=>?_⟩
  have s1:=jf hl (.lst [V.str x])
  have e1:upd H l (.lst [V.str x]) l=some (.lst [V.str x]):=jb
  generalize upd H l (.lst [V.str x])=H1 at *
  refine ⟨_,rfl,a,_,_,_,rfl,rfl,SqT.of (s1 _ _ ha),rfl,u,t,rfl,hu.mono s1,fun l2 H2 s2 n2 e2=>?_⟩
  refine ⟨l,l2,_,_,rfl,rfl,s2 _ _ e1,e2,Nat.le_trans (by rw [List.length_map,tnl];exact (by decide:1+1≤1000)) (ka (Nat.le_refl 1000)),fun l3 hl3=>?_⟩
  exact q l3 _ (s1.trans (s2.trans (jf hl3 _))) (s1.free (s2.free hl3)) jb
 | any x=>
  obtain ⟨a,rfl,ha⟩:=qo hS
  refine ⟨_,rfl,a,_,_,_,rfl,rfl,SqT.of ha,rfl,?_⟩
  refine gQ ?_
  refine ⟨_,rfl,rfl,_,rfl,j3 (fun d=>absurd (of_decide_eq_true d) (by decide)) (fun _=>?_)⟩
  refine ⟨_,rfl,rfl,_,rfl,j3 (fun d=>absurd (of_decide_eq_true d) (by decide)) (fun _=>?_)⟩
  refine ⟨_,rfl,rfl,_,rfl,j3 (fun _=>?_) (fun d=>absurd (decide_eq_true rfl) d)⟩
  exact ⟨_,rfl,a,_,_,_,rfl,rfl,SqT.of ha,rfl,sm rfl,fun l hl=>q l _ (jf hl _) hl jb⟩
 | claim C=>
  obtain ⟨a,u,rfl,ha,hu⟩:=zf hS
  refine ⟨_,rfl,a,_,_,_,rfl,rfl,SqT.of ha,rfl,?_⟩
  refine gQ ?_
  refine ⟨_,rfl,rfl,_,rfl,j3 (fun d=>absurd (of_decide_eq_true d) (by decide)) (fun _=>?_)⟩
  refine ⟨_,rfl,rfl,_,rfl,j3 (fun d=>absurd (of_decide_eq_true d) (by decide)) (fun _=>?_)⟩
  refine ⟨_,rfl,rfl,_,rfl,j3 (fun d=>absurd (of_decide_eq_true d) (by decide)) (fun _=>?_)⟩
  refine ⟨_,rfl,rfl,_,rfl,j3 (fun d=>absurd (of_decide_eq_true d) (by decide)) (fun _=>?_)⟩
  refine ⟨_,rfl,_,C,rfl,hS,fun t u' H1 s1 ht hu'=>?_⟩
  refine ⟨t,[u'],[C],rfl,ht,jc hu' jl,Nat.le_of_ble_eq_true rfl,fun l H2 s2 n2 e2=>?_⟩
  refine q l H2 (s1.trans s2) (s1.free n2) ?_
  rw [e2]
  simp [Sm.ns]
 | call x f as rs=>
  obtain ⟨a,b,c,rfl,ha,hb,hc⟩:=zV hS
  refine ⟨_,rfl,a,_,_,_,rfl,rfl,SqT.of ha,rfl,?_⟩
  refine gQ ?_
  refine ⟨_,rfl,rfl,_,rfl,j3 (fun d=>absurd (of_decide_eq_true d) (by decide)) (fun _=>?_)⟩
  refine ⟨_,rfl,rfl,_,rfl,j3 (fun d=>absurd (of_decide_eq_true d) (by decide)) (fun _=>?_)⟩
  refine ⟨_,rfl,rfl,_,rfl,j3 (fun d=>absurd (of_decide_eq_true d) (by decide)) (fun _=>?_)⟩
  refine ⟨_,rfl,rfl,_,rfl,j3 (fun _=>?_) (fun d=>absurd (decide_eq_true rfl) d)⟩
  refine ⟨_,rfl,a,_,_,_,rfl,rfl,SqT.of ha,rfl,sm rfl,fun l hl=>?_⟩
  have s1:=jf hl (.lst [V.str x])
  have e1:upd H l (.lst [V.str x]) l=some (.lst [V.str x]):=jb
  generalize upd H l (.lst [V.str x])=H1 at *
  refine ⟨_,rfl,a,_,_,_,rfl,rfl,SqT.of (s1 _ _ ha),rfl,b,_,rfl,.inr (SqT.of (s1 _ _ hb)),fun l2 hl2=>?_⟩
  have s2:=jf hl2 (.lst (as.map V.str))
  have e2:upd H1 l2 (.lst (as.map V.str)) l2=some (.lst (as.map V.str)):=jb
  generalize upd H1 l2 (.lst (as.map V.str))=H2 at *
  have has:=hf.1
  refine ⟨l,l2,_,_,rfl,rfl,s2 _ _ e1,e2,Nat.le_trans (by rw [List.length_map];exact Nat.le_trans (Nat.add_le_add_left has 1) (by decide:1+6≤1000)) (ka (Nat.le_refl 1000)),fun l3 hl3=>?_⟩
  exact q l3 _ (s1.trans (s2.trans (jf hl3 _))) (s1.free (s2.free hl3)) jb
theorem jbD {f:Addr} {fd:FuncData} (F:Fun K "bodies_of" "bodies_of" zr f fd):FnOk P w K mg base CX0 1 f fd ["statement"] Y4:=by
 have sc:FnScope ["statement"] ["statement"] (js zr):=fQ
 refine F.okZ sc (fun vs H Q E h=>?_) (fun cdv A outer s H vs Q E hr h=>?_)
 ·obtain ⟨v,S,rfl,_⟩:=h
  rfl
 obtain ⟨v,S,rfl,hS,q⟩:=h
 refine ⟨_,(jg (jL (jz jY (jj jq (zpv 0) je (fun _ _=>rfl)) jo (jH _)) (ji (jw (jV qR (zpv 0) (jO je) kq))) jD)
   (jg (jL (jz jY (jj jq (zpv 0) je (fun _ _=>rfl)) jo (jH _)) (ji (jw (jV qR (zpv 0) (jO je) kq))) jD)
   (ji (jw (jy jd))))),?_⟩
 obtain ⟨a,k,r,rfl,ha,h1,h2,_⟩:=Sm.head hS
 refine ⟨_,rfl,a,_,_,V.str k,rfl,rfl,SqT.of ha,qM (j:=0) rfl,rfl,_,rfl,j3 (fun d=>absurd (of_decide_eq_true d) (fun z=>h1 (by injection z))) (fun _=>?_)⟩
 refine ⟨_,rfl,a,_,_,V.str k,rfl,rfl,SqT.of ha,qM (j:=0) rfl,rfl,_,rfl,j3 (fun d=>absurd (of_decide_eq_true d) (fun z=>h2 (by injection z))) (fun _=>?_)⟩
 exact ⟨sm rfl,fun t ht=>q t _ (jf ht _) jb⟩
theorem jfW {f:Addr} {fd:FuncData} (F:Fun K "all_statements" "all_statements" qa f fd) (F_bodies_of:Fn P w K mg base 1 "bodies_of" ["statement"] Y4):FnOk P w K mg base CX0 2 f fd ["body"] jfe:=by
 have sc:FnScope ["body","told","statement","inner"] ["body"] (js qa):=fQ
 refine F.okZ sc (fun vs H Q E h=>?_) (fun cdv A outer s H vs Q E hr h=>?_)
 ·obtain ⟨a,us,Ss,rfl,_⟩:=h
  rfl
 obtain ⟨a,us,Ss,rfl,ha,hSs,hlen,q⟩:=h
 refine ⟨_,(jg (jx (i:=1) sc.nd rfl oQ (jI jd))
   (jg (jZ PassesOwn.never rfl (kO (zpv 0)) (jt (i:=2) sc.nd rfl oQ) (jg (jK (kb PySem.F.plainAttrs_list PySem.F.slot_list_append PySem.F.type_list_append jQ (zpv 1) (ja (zpv 2) jd)))
   (ji (jZ PassesOwn.never rfl (kO (ju F_bodies_of hr (ja (zpv 2) jd))) (jt (i:=3) sc.nd rfl oQ) (ji (jK (kb PySem.F.plainAttrs_list PySem.F.slot_list_extend PySem.F.type_list_extend yc (zpv 1) (ja qN jd))))))))
   (ji (jw (zpv 1))))),?_⟩
 refine jR (σ':=[some (.ref a),none,none,none]) rfl ?_
 refine ⟨sm rfl,fun l hl=>?_⟩
 have s1:=jf hl (.lst [])
 have e1:upd H l (.lst []) l=some (.lst []):=jb
 generalize upd H l (.lst [])=H1 at *
 refine gQ ?_
 have hul:=hSs.length
 rw [List.length_map] at hul
 refine ⟨_,rfl,a,rfl,⟨_,SqT.of (s1 _ _ ha)⟩,?_⟩
 refine zA (xs:=us) (fun i σ G=>∃ u2 u3,σ=[some (.ref a),some (.ref l),u2,u3]∧Same H G∧G l=some (.lst (us.take i))) ⟨none,none,rfl,s1,e1⟩ ?_ ?_ ?_
 ·rintro i σ G _ ⟨u2,u3,rfl,sG,_⟩
  exact SqT.of (sG _ _ ha)
 ·rintro i x σ G hx ⟨u2,u3,rfl,sG,hG⟩
  have hi:i < Ss.length:=by have:=(List.getElem?_eq_some_iff.mp hx).1;omega
  obtain ⟨x',hx',hxH⟩:=hSs.get (show (Ss.map Sm.toD)[i]?=some Ss[i].toD by rw [List.getElem?_map,List.getElem?_eq_getElem hi];rfl)
  rw [hx] at hx'
  cases hx'
  refine gQ ?_
  refine ⟨_,rfl,.inl ⟨rfl,_,SqL.of hG⟩,_,rfl,l,_,x,rfl,rfl,hG,jv (by rw [List.length_take];omega),?_⟩
  have tkU:TK G (upd G l (.lst (us.take i++[x]))):=TK.upd hG (fun _ z=>by cases z)
  have s2:Same H (upd G l (.lst (us.take i++[x]))):=fun b o e=>by rw [jr (jn e hl)];exact sG _ _ e
  have e2:upd G l (.lst (us.take i++[x])) l=some (.lst (us.take (i+1))):=by rw [jb,List.take_succ,hx];rfl
  generalize upd G l (.lst (us.take i++[x]))=G2 at *
  refine ⟨_,rfl,x,Ss[i],rfl,hxH.mono s2,fun t G3 s3 ht=>?_⟩
  refine ⟨t,rfl,⟨_,SqT.of ht⟩,?_⟩
  refine zA (xs:=[]) (fun j σ G'=>∃ u2 u3,σ=[some (.ref a),some (.ref l),u2,u3]∧G'=G3) ⟨_,_,rfl,rfl⟩ ?_ ?_ ?_
  ·rintro j σ G' _ ⟨_,_,rfl,rfl⟩
   exact SqT.of ht
  ·rintro j y σ G' hy _
   simp at hy
  ·rintro σ G' ⟨u2',u3',rfl,rfl⟩
   exact ⟨u2',u3',rfl,s2.trans s3,s3 _ _ e2⟩
 rintro σ G ⟨u2,u3,rfl,sG,hG⟩
 rw [List.take_length] at hG
 exact ⟨_,rfl,q l G sG hl hG⟩
end
end LW
namespace L2
open PySem PySem.Spec PyProof.Rows PySem.W
abbrev kf (P:Program) (w:World) (v:Addr) (σ:List Str):HO:=.ext fun h=>SetAtS P w h v (ledOf w) σ
theorem zU {X:Cx} {P:Program} {w:World} {K:W.Frag} (hc:X.calm=true) (h1:X.prog=P:=by rfl) (h2:X.w=w:=by rfl) (h3:X.K=K:=by rfl):qI X (.type "set") (fun xs H Q=>∃ (p:Addr) (ns:List Str),xs=[.ref p]∧SqL K H p (ns.map V.str)∧ns.length≤1000∧∀ v,H v=none→Q (.ref v) (upd H v (kf P w v (dedupS ns)))):=by subst h1 h2 h3;exact Ko hc
theorem Jp {X:Cx} {P:Program} {w:World} {K:W.Frag} (hc:X.calm=true) (h1:X.prog=P:=by rfl) (h2:X.w=w:=by rfl) (h3:X.K=K:=by rfl):qI X (.type "set") (fun xs H Q=>∃ (p:Addr) (ns:List Str),xs=[.ref p]∧SqT K H p (ns.map V.str)∧ns.length≤1000∧∀ v,H v=none→Q (.ref v) (upd H v (kf P w v (dedupS ns)))):=by subst h1 h2 h3;exact Kf hc
theorem q4 {X:Cx} {P:Program} {w:World} (hc:X.calm=true) (h1:X.prog=P:=by rfl) (h2:X.w=w:=by rfl):qI X (.builtin "sorted") (fun xs H Q=>∃ (p:Addr) (τ:List Str),xs=[.ref p]∧H p=some (kf P w p τ)∧τ.length < 64∧∀ (l:Addr) (ns:List Str),H l=none→ns.Perm τ→sortedS ns=true→Q (.ref l) (upd H l (.lst (ns.map V.str)))):=by subst h1 h2;exact Je hc
theorem jaP {X:Cx} {P:Program} {w:World} (h1:X.prog=P:=by rfl) (h2:X.w=w:=by rfl):OpR X (binaryOp .BitOr) (fun x y H Q=>∃ (a b:Addr) (σ1 σ2:List Str),x=.ref a∧y=.ref b∧H a=some (kf P w a σ1)∧H b=some (kf P w b σ2)∧σ1.Nodup∧σ2.Nodup∧σ1.length+σ2.length≤15∧∀ v σ',H v=none→σ'.Nodup→(∀ z,z∈σ'↔z∈σ1∨z∈σ2)→Q (.ref v) (upd H v (kf P w v σ'))):=by subst h1 h2;exact jfR
theorem jbb {X:Cx} {P:Program} {w:World} {z:Str} {j:Nat} {p1 pos:Pos} (hc:W.kdsCode X.K X.env.code=true) (h1:X.prog=P:=by rfl) (h2:X.w=w:=by rfl):QE X (.Set [.Constant (.str z) j p1] 0 pos) (fun _ H Q=>∀ v,H v=none→Q (.ref v) (upd H v (kf P w v [z]))):=by subst h1 h2;exact jb2 hc
theorem q5 {X:Cx} {K:W.Frag} (h:X.K=K:=by rfl):OpR X (compareOp .NotIn) (rIn K true):=by subst h;exact Yq
theorem yr {X:Cx} {K:W.Frag} (h:X.K=K:=by rfl):OpR X (compareOp .In) (rIn K false):=by subst h;exact jbv
theorem kz (x:Str):∀ ys:List Str,inV (.str x) (ys.map V.str)=decide (x∈ys)
 | []=>by simp [inV]
 | y :: ys=>by
  have ih:=kz x ys
  unfold inV at ih ⊢
  rw [List.map_cons,List.any_cons,ih]
  have e:eqV (.str y) (.str x)=decide (x=y):=by
   show (y == x)=_
   by_cases h:x=y
   ·subst h;simp
   ·rw [decide_eq_false h];simpa using fun z=>h z.symm
  rw [e]
  simp [List.mem_cons]
theorem qf:∀ ys:List Str,(ys.map V.str).all yO=true
 | []=>rfl
 | y :: ys=>by rw [List.map_cons,List.all_cons,qf ys];rfl
theorem lt_trans {a b c:List Nat} (h1:ltCps a b=true) (h2:ltCps b c=true):ltCps a c=true:=by
 induction a generalizing b c with
 | nil=>cases c with
  | nil=>cases b <;> simp [ltCps] at h1 h2
  | cons _ _=>rfl
 | cons x a ih=>
  cases b with
  | nil=>simp [ltCps] at h1
  | cons y b=>cases c with
   | nil=>simp [ltCps] at h2
   | cons z c=>
    simp only [ltCps,Bool.or_eq_true,Bool.and_eq_true,decide_eq_true_eq,beq_iff_eq] at h1 h2 ⊢
    rcases h1 with h1 | ⟨h1,h1'⟩
    ·rcases h2 with h2 | ⟨h2,h2'⟩
     ·left;omega
     ·left;omega
    ·rcases h2 with h2 | ⟨h2,h2'⟩
     ·left;omega
     ·right;exact ⟨by omega,ih h1' h2'⟩
abbrev ltT (a b:Str):Prop:=ltCps a.cps.toList b.cps.toList=true
theorem jdv (a:List Nat):ltCps a a=false:=by
 induction a with
 | nil=>rfl
 | cons x a ih=>simp only [ltCps,Nat.lt_irrefl,decide_false,Bool.false_or,ih,Bool.and_false]
theorem Z4:∀ {a b:List Nat},ltCps a b=false→a≠b→ltCps b a=true
 | [],[],_,h=>absurd rfl h
 | [],_ :: _,h,_=>by simp [ltCps] at h
 | _ :: _,[],_,_=>rfl
 | x :: a,y :: b,h,hne=>by
  simp only [ltCps,Bool.or_eq_false_iff,Bool.and_eq_false_iff,decide_eq_false_iff_not] at h
  simp only [ltCps,Bool.or_eq_true,Bool.and_eq_true,decide_eq_true_eq,beq_iff_eq]
  by_cases e:x=y
  ·subst e
   right
   refine ⟨rfl,Z4 ?_ fun z=>hne (by rw [z])⟩
   rcases h.2 with g | g
   ·exact absurd g (by simp)
   ·exact g
  ·left;omega
theorem jar {a b:Str} (h:a.cps.toList=b.cps.toList):a=b:=by
 cases a;cases b
 congr 1
 exact Array.ext' h
theorem KG:∀ (p:Str) (l:List Str),risingS p l=true→(p :: l).Nodup→(p :: l).Pairwise ltT
 | p,[],_,_=>by simp
 | p,x :: r,h,nd=>by
  have h':(!ltCps x.cps.toList p.cps.toList && risingS x r)=true:=h
  rw [Bool.and_eq_true] at h'
  obtain ⟨n1,n2⟩:=List.nodup_cons.mp nd
  have ih:=KG x r h'.2 n2
  have hpx:ltT p x:=Z4 (by simpa using h'.1) fun z=>n1 (by rw [← jar z];exact List.mem_cons_self)
  refine List.pairwise_cons.mpr ⟨fun y hy=>?_,ih⟩
  rcases List.mem_cons.mp hy with rfl | hy
  ·exact hpx
  ·exact lt_trans hpx ((List.pairwise_cons.mp ih).1 y hy)
theorem KB {l:List Str} (h:sortedS l=true) (nd:l.Nodup):l.Pairwise ltT:=by
 cases l with
 | nil=>exact .nil
 | cons p r=>exact KG p r h nd
theorem yY:∀ {l l':List Str},l.Pairwise ltT→l'.Pairwise ltT→(∀ x,x∈l↔x∈l')→l=l'
 | [],[],_,_,_=>rfl
 | [],y :: _,_,_,h=>by have:=(h y).mpr List.mem_cons_self;cases this
 | x :: _,[],_,_,h=>by have:=(h x).mp List.mem_cons_self;cases this
 | x :: l,y :: l',h1,h2,h=>by
  obtain ⟨a1,a2⟩:=List.pairwise_cons.mp h1
  obtain ⟨b1,b2⟩:=List.pairwise_cons.mp h2
  have irr:∀ z:Str,¬ ltT z z:=fun z hz=>by have:=jdv z.cps.toList;unfold ltT at hz;rw [this] at hz;cases hz
  have e:x=y:=by
   rcases List.mem_cons.mp ((h x).mp List.mem_cons_self) with e | hx
   ·exact e
   rcases List.mem_cons.mp ((h y).mpr List.mem_cons_self) with e | hy
   ·exact e.symm
   ·exact absurd (lt_trans (b1 x hx) (a1 y hy)) (irr y)
  subst e
  congr 1
  refine yY a2 b2 fun z=>⟨fun hz=>?_,fun hz=>?_⟩
  ·rcases List.mem_cons.mp ((h z).mp (List.mem_cons_of_mem _ hz)) with rfl | g
   ·exact absurd (a1 _ hz) (irr _)
   ·exact g
  ·rcases List.mem_cons.mp ((h z).mpr (List.mem_cons_of_mem _ hz)) with rfl | g
   ·exact absurd (b1 _ hz) (irr _)
   ·exact g
end L2
namespace LW
open PySem L2
abbrev qE:Stmt:=top 4
structure Pc where
 f:Str
 ps:List Str
 rs:List Str
 nd:List Cl
 gv:List Cl
 bd:List Sm
def Pc.toD (p:Pc):D:=.tup [.str "proc",.str p.f,.tup (p.ps.map D.str),.tup (p.rs.map D.str),.tup (p.nd.map Cl.toD),.tup (p.gv.map Cl.toD),.tup (p.bd.map Sm.toD)]
def Pc.named (p:Pc):List Str:=(p.nd++p.gv).flatMap Cl.ns++p.bd.flatMap Sm.ns
def qJ (rs:List Str) (x:Str):Bool:=!decide (x=("" : Str)) && !decide (x∈rs)
def Pc.others (p:Pc):List Str:=p.named.filter (qJ p.rs)
structure PcOk (p:Pc):Prop where
 nd:p.nd.length≤20
 gv:p.gv.length≤20
 bd:p.bd.length≤40
 few:(dedupS p.others).length+(dedupS p.ps).length≤14
 ps:p.ps.length≤100
 sm:∀ S∈p.bd,S.few
theorem yX {H:Hp} {p:Pc} {v:V} (h:Held H p.toD v):∃ a ap ar an ag ab vn vg vb,v=.ref a∧H a=some (.tup [.str "proc",.str p.f,.ref ap,.ref ar,.ref an,.ref ag,.ref ab])∧H ap=some (.tup (p.ps.map V.str))∧H ar=some (.tup (p.rs.map V.str))∧H an=some (.tup vn)∧HeldL H (p.nd.map Cl.toD) vn∧H ag=some (.tup vg)∧HeldL H (p.gv.map Cl.toD) vg∧H ab=some (.tup vb)∧HeldL H (p.bd.map Sm.toD) vb:=by
 obtain ⟨a,xs,rfl,ha,h1⟩:=jC h
 obtain ⟨v1,r1,rfl,e1,h2⟩:=jh h1
 obtain ⟨v2,r2,rfl,e2,h3⟩:=jh h2
 obtain ⟨v3,r3,rfl,e3,h4⟩:=jh h3
 obtain ⟨v4,r4,rfl,e4,h5⟩:=jh h4
 obtain ⟨v5,r5,rfl,e5,h6⟩:=jh h5
 obtain ⟨v6,r6,rfl,e6,h7⟩:=jh h6
 obtain ⟨v7,r7,rfl,e7,h8⟩:=jh h7
 cases jM h8
 cases jB e1
 cases jB e2
 obtain ⟨ap,xp,rfl,hp,hp'⟩:=jC e3
 obtain ⟨ar,xr,rfl,hr,hr'⟩:=jC e4
 obtain ⟨an,vn,rfl,hn,hn'⟩:=jC e5
 obtain ⟨ag,vg,rfl,hg,hg'⟩:=jC e6
 obtain ⟨ab,vb,rfl,hb,hb'⟩:=jC e7
 cases kh hp'
 cases kh hr'
 exact ⟨a,ap,ar,an,ag,ab,vn,vg,vb,rfl,ha,hp,hr,hn,hn',hg,hg',hb,hb'⟩
theorem jeZ (l:List Cl):(l.flatMap Cl.ns).length≤3 * l.length:=by
 induction l with
 | nil=>exact Nat.zero_le _
 | cons c r ih=>rw [List.flatMap_cons,List.length_append,List.length_cons];have:=c.ns_len;omega
theorem Yf:∀ l:List Sm,(∀ S∈l,S.few)→(l.flatMap Sm.ns).length≤7 * l.length
 | [],_=>Nat.zero_le _
 | S :: r,h=>by
  have h1:=Sm.ns_len (h S List.mem_cons_self)
  have h2:=Yf r fun x hx=>h x (List.mem_cons_of_mem _ hx)
  rw [List.flatMap_cons,List.length_append,List.length_cons]
  omega
theorem jE {H:Hp}:∀ {ds ds':List D} {vs vs':List V},HeldL H ds vs→HeldL H ds' vs'→HeldL H (ds++ds') (vs++vs')
 | [],_,vs,_,h,h'=>by rw [jM h];exact h'
 | d :: ds,ds',vs,vs',h,h'=>by
  obtain ⟨v,r,rfl,e1,h2⟩:=jh h
  exact jc e1 (jE h2 h')
theorem yt:∀ {l m:List Str},l.Nodup→(∀ x∈l,x∈m)→l.length≤m.length
 | [],_,_,_=>Nat.zero_le _
 | x :: l,m,nd,h=>by
  obtain ⟨n1,n2⟩:=List.nodup_cons.mp nd
  have hx:=h x List.mem_cons_self
  have:=yt (m:=m.erase x) n2 fun y hy=>(List.mem_erase_of_ne (show y≠x from fun z=>n1 (by rw [← z];exact hy))).mpr (h y (List.mem_cons_of_mem _ hy))
  rw [List.length_erase_of_mem hx] at this
  have:0 < m.length:=List.length_pos_of_mem hx
  rw [List.length_cons]
  omega
def Jh:Sp:=fun vs H Q _=>∃ (v:V) (p:Pc),vs=[v]∧Held H p.toD v∧PcOk p∧∀ (l:Addr) (ns:List Str) (H':Hp),Same H H'→H l=none→H' l=some (.lst (ns.map V.str))→ns.Pairwise ltT→ns.length≤15→(∀ x,x∈ns↔x∈p.others∨x∈p.ps∨x = "out")→Q (.ref l) H'
section
variable {P:Program} {w:World} {K:W.Frag} {mg:Str→Option Value} {base:Heap}
theorem Yt {f:Addr} {fd:FuncData} (F:Fun K "numbers_of" "numbers_of" qE f fd) (B:Free0 mg) (F_claims_numbers:Fn P w K mg base 3 "claims_numbers" ["claims"] yT) (F_all_statements:Fn P w K mg base 2 "all_statements" ["body"] jfe) (F_numbers_named:Fn P w K mg base 4 "numbers_named" ["statement"] jax):FnOk P w K mg base CX0 5 f fd ["proc"] Jh:=by
 have sc:FnScope ["proc","params","rows","needs","gives","body","named","statement","others"] ["proc"] (js qE):=fQ
 refine F.okC sc (fun vs H Q E h=>?_) (fun cdv A outer s H vs Q E hcd hr h=>?_)
 ·obtain ⟨v,p,rfl,_⟩:=h
  rfl
 obtain ⟨v,p,rfl,hv,hp,q⟩:=h
 refine ⟨_,(jg (zh (jV qR (zpv 0) (jO je) kq) (ko rfl (jA (jt (i:=1) sc.nd rfl oQ) (jA (jt (i:=2) sc.nd rfl oQ) (jA (jt (i:=3) sc.nd rfl oQ) (jA (jt (i:=4) sc.nd rfl oQ) (jA (jt (i:=5) sc.nd rfl oQ) j9)))))))
   (jg (jx (i:=6) sc.nd rfl oQ (ju F_claims_numbers hr (ja (jm yJ (zpv 3) (zpv 4)) jd)))
   (jg (jZ PassesOwn.never rfl (kW (ju F_all_statements hr (ja (zpv 5) jd))) (jt (i:=7) sc.nd rfl oQ) (ji (jK (kb PySem.F.plainAttrs_list PySem.F.slot_list_extend PySem.F.type_list_extend yc (zpv 6) (ja (ju F_numbers_named hr (ja (zpv 7) jd)) jd)))))
   (jg (zH (i:=8) sc.nd rfl oQ ["x"] [2] rfl (kQ (sc:=js qE) (N:=["proc","params","rows","needs","gives","body","named","statement","others"]) rfl rfl (by decide +kernel)) (kW (zpv 6)) (fun s H ex=>⟨(jt (i:=0) (show List.Nodup (["x","rows"]:List Str) by decide +kernel) rfl oQ),(yz (K6 (jz jgM (zpv 0) jo (jH _)) (Jx (jz (q5 (K:=K)) (zpv 0) (zpv 1) rfl))).pt),(zpv 0)⟩))
   (ji (jw (kj (q4 (P:=P) (w:=w) rfl) (by rfl) B.sorted_ K0 (ja (jm (jaP (P:=P) (w:=w)) (jm (jaP (P:=P) (w:=w)) (kJ (zU (P:=P) (w:=w) (K:=K) rfl) (by rfl) B.set_ jae (ja (zpv 8) jd)) (kJ (Jp (P:=P) (w:=w) (K:=K) rfl) (by rfl) B.set_ jae (ja (zpv 1) jd))) (jbb (P:=P) (w:=w) hcd)) jd)))))))),?_⟩
 refine jR (σ':=[some v,none,none,none,none,none,none,none,none]) rfl ?_
 obtain ⟨a,ap,ar,an,ag,ab,vn,vg,vb,rfl,ha,hap,har,han,hn,hag,hg,hab,hb⟩:=yX hv
 refine ⟨_,rfl,_,rfl,a,_,rfl,SqT.of ha,(fun h=>absurd h.1 (by show ¬ (HT.sIx 7 0 (some 2)=0);decide)),fun t ht=>?_⟩
 have s1:=jf ht (.tup (ki [.str "proc",.str p.f,.ref ap,.ref ar,.ref an,.ref ag,.ref ab] (some 2) none))
 have e1:upd H t (.tup (ki [.str "proc",.str p.f,.ref ap,.ref ar,.ref an,.ref ag,.ref ab] (some 2) none)) t=some (.tup [.ref ap,.ref ar,.ref an,.ref ag,.ref ab]):=jb
 generalize upd H t (.tup (ki [.str "proc",.str p.f,.ref ap,.ref ar,.ref an,.ref ag,.ref ab] (some 2) none))=H1 at *
 refine ⟨t,_,rfl,SqT.of e1,rfl,_,_,rfl,_,_,rfl,_,_,rfl,_,_,rfl,_,_,rfl,rfl,?_⟩
 refine jR (σ':=[some (.ref a),some (.ref ap),some (.ref ar),some (.ref an),some (.ref ag),some (.ref ab),none,none,none]) rfl ?_
 refine ⟨_,rfl,_,rfl,an,ag,_,_,rfl,rfl,s1 _ _ han,s1 _ _ hag,?_,fun t2 H2 s2 ht2=>?_⟩
 ·have l1:=hn.length;have l2:=hg.length
  rw [List.length_map] at l1 l2
  have:=hp.nd;have:=hp.gv
  exact ka (by omega)
 have s12:=s1.trans s2
 refine ⟨t2,_,p.nd++p.gv,rfl,ht2,by rw [List.map_append];exact jE (hn.mono s12) (hg.mono s12),by rw [List.length_append];have:=hp.nd;have:=hp.gv;omega,fun l H3 s3 n3 e3=>?_⟩
 have s13:=s12.trans s3
 refine gQ ?_
 refine ⟨_,rfl,ab,vb,p.bd,rfl,s13 _ _ hab,hb.mono s13,by have:=hp.bd;omega,fun l2 H4 s4 n4 e4=>?_⟩
 have e3':=s4 _ _ e3
 have s14:=s13.trans s4
 have hl:H l=none:=s12.free n3
 have ne2:l2≠l:=fun z=>by rw [z] at n4;rw [e3] at n4;cases n4
 have hbl:=hb.length
 rw [List.length_map] at hbl
 have hb40:=hp.bd
 have hn20:=hp.nd
 have hg20:=hp.gv
 have hcl:=jeZ (p.nd++p.gv)
 rw [List.length_append] at hcl
 refine ⟨l2,rfl,⟨_,SqL.of e4⟩,?_⟩
 refine yN (xs:=vb) (fun i σ G=>∃ u7,σ=[some (.ref a),some (.ref ap),some (.ref ar),some (.ref an),some (.ref ag),some (.ref ab),some (.ref l),u7,none]∧Same H G∧G l2=some (.lst vb)∧G l=some (.lst (((p.nd++p.gv).flatMap Cl.ns++(p.bd.take i).flatMap Sm.ns).map V.str))) ⟨none,rfl,s14,e4,by rw [e3'];simp⟩ ?_ ?_ ?_
 ·rintro i σ G _ ⟨u7,rfl,sG,hG2,_⟩
  exact SqL.of hG2
 ·rintro i x σ G hx ⟨u7,rfl,sG,hG2,hG⟩
  have hi:i < p.bd.length:=by have:=(List.getElem?_eq_some_iff.mp hx).1;omega
  obtain ⟨x',hx',hxH⟩:=hb.get (show (p.bd.map Sm.toD)[i]?=some p.bd[i].toD by rw [List.getElem?_map,List.getElem?_eq_getElem hi];rfl)
  rw [hx] at hx'
  cases hx'
  have hsl:=Yf (p.bd.take i) fun S hS=>hp.sm S (List.mem_of_mem_take hS)
  rw [List.length_take] at hsl
  refine gQ ?_
  refine ⟨_,rfl,.inl ⟨rfl,_,SqL.of hG⟩,_,rfl,x,p.bd[i],rfl,hxH.mono sG,hp.sm _ (List.getElem_mem hi),fun l3 G2 s5 n5 e5=>?_⟩
  have hGl:=s5 _ _ hG
  have hn3:=Sm.ns_len (hp.sm _ (List.getElem_mem hi))
  refine ⟨l,l3,_,_,rfl,rfl,hGl,e5,Nat.le_trans (by rw [List.length_map,List.length_map,List.length_append];omega) (ka (Nat.le_refl 1000)),?_⟩
  refine ⟨_,rfl,fun b o e=>?_,?_,?_⟩
  ·rw [jr (jn e hl)];exact s5 _ _ (sG _ _ e)
  ·rw [jr ne2];exact s5 _ _ hG2
  ·rw [jb,show p.bd.take (i+1)=p.bd.take i++[p.bd[i]] by rw [List.take_succ,List.getElem?_eq_getElem hi];rfl]
   simp only [List.flatMap_append,List.flatMap_cons,List.flatMap_nil,List.append_nil,List.map_append,List.append_assoc]
 rintro σ G ⟨u7,rfl,sG,hG2,hG⟩
 have et:p.bd.take vb.length=p.bd:=by rw [← hbl,List.take_length]
 rw [et] at hG
 have eN:(p.nd++p.gv).flatMap Cl.ns++p.bd.flatMap Sm.ns=p.named:=rfl
 rw [eN] at hG
 have hsl:=Yf p.bd hp.sm
 have hnl:p.named.length≤420:=by unfold Pc.named;rw [List.length_append];omega
 refine ⟨_,rfl,l,rfl,⟨_,SqL.of hG⟩,fun pp hpp=>?_⟩
 have s6:=jf hpp (.lst [])
 refine qP (xs:=p.named.map V.str) (fun i σ' G'=>∃ u,σ'=[u,some (.ref ar)]∧Same G G'∧G' pp=some (.lst (((p.named.take i).filter (qJ p.rs)).map V.str))) ⟨none,rfl,s6,jb⟩ ?_ ?_ ?_
 ·rintro i σ' G' _ ⟨u,rfl,sG',_⟩
  exact SqL.of (sG' _ _ hG)
 ·rintro i x σ' G' hx ⟨u,rfl,sG',hGp⟩
  have hi:i < p.named.length:=by
   have:=(List.getElem?_eq_some_iff.mp hx).1
   rw [List.length_map] at this
   exact this
  rw [List.getElem?_map,List.getElem?_eq_getElem hi] at hx
  cases hx
  have hfl:((p.named.take i).filter (qJ p.rs)).length≤420:=by
   have:=List.length_filter_le (qJ p.rs) (p.named.take i)
   rw [List.length_take] at this
   omega
  have et:(p.named.take (i+1)).filter (qJ p.rs)=(p.named.take i).filter (qJ p.rs)++(if qJ p.rs p.named[i]=true then [p.named[i]] else []):=by
   rw [List.take_succ,List.getElem?_eq_getElem hi,List.filter_append]
   congr 1
   show List.filter _ [p.named[i]]=_
   rw [List.filter_cons]
   rfl
  unfold kX
  have eS:∀ x:Str,decide (V.str x=V.str ("" : Str))=decide (x=("" : Str)):=fun x=>by
   by_cases h:x=("" : Str)
   ·rw [decide_eq_true h,decide_eq_true (congrArg V.str h)]
   ·rw [decide_eq_false h,decide_eq_false (fun z=>h (by injection z))]
  refine ⟨_,rfl,rfl,_,rfl,j3 (fun d1=>?_) (fun d1=>?_)⟩
  ·rw [eS] at d1
   refine ⟨_,rfl,_,rfl,ar,p.rs.map V.str,rfl,.inr (SqT.of (sG' _ _ (sG _ _ har))),rfl,qf _,_,rfl,j3 (fun d2=>?_) (fun d2=>?_)⟩
   ·have d2':(!inV (.str p.named[i]) (p.rs.map V.str))=true:=d2
    rw [kz] at d2'
    have ek:qJ p.rs p.named[i]=true:=by unfold qJ;rw [d1,d2'];rfl
    refine ⟨_,rfl,_,hGp,jv (by rw [List.length_map];omega),_,rfl,fun z o e=>?_,?_⟩
    ·rw [jr (jn e hpp)];exact sG' _ _ e
    ·rw [jb,et,if_pos ek,List.map_append];rfl
   ·have d2':¬ (!inV (.str p.named[i]) (p.rs.map V.str))=true:=d2
    rw [kz] at d2'
    have ek:¬ qJ p.rs p.named[i]=true:=by unfold qJ;rw [d1];exact d2'
    exact ⟨_,rfl,sG',by rw [et,if_neg ek,List.append_nil];exact hGp⟩
  ·rw [eS] at d1
   have ek:¬ qJ p.rs p.named[i]=true:=fun z=>d1 (by unfold qJ at z;rw [Bool.and_eq_true] at z;exact z.1)
   exact qH ⟨_,rfl,sG',by rw [et,if_neg ek,List.append_nil];exact hGp⟩
 rintro σ' G6 ⟨u,rfl,sG6,hG6⟩
 rw [List.length_map,List.take_length] at hG6
 have eO:(p.named.filter (qJ p.rs))=p.others:=rfl
 rw [eO] at hG6
 have hol:p.others.length≤420:=Nat.le_trans (List.length_filter_le _ _) hnl
 obtain ⟨d1,_,d2⟩:=qz p.others
 obtain ⟨d3,_,d4⟩:=qz p.ps
 have hfew:=hp.few
 have hps:=hp.ps
 have sAll:Same H G6:=sG.trans sG6
 refine gQ ?_
 refine ⟨_,rfl,pp,p.others,rfl,SqL.of hG6,by omega,fun v1 hv1=>?_⟩
 have s7:=jf hv1 (kf P w v1 (dedupS p.others))
 have e7:upd G6 v1 (kf P w v1 (dedupS p.others)) v1=some (kf P w v1 (dedupS p.others)):=jb
 generalize upd G6 v1 (kf P w v1 (dedupS p.others))=G7 at *
 refine ⟨_,rfl,ap,p.ps,rfl,SqT.of (s7 _ _ (sAll _ _ hap)),by omega,fun v2 hv2=>?_⟩
 have s8:=jf hv2 (kf P w v2 (dedupS p.ps))
 have e8:upd G7 v2 (kf P w v2 (dedupS p.ps)) v2=some (kf P w v2 (dedupS p.ps)):=jb
 generalize upd G7 v2 (kf P w v2 (dedupS p.ps))=G8 at *
 refine ⟨v1,v2,_,_,rfl,rfl,s8 _ _ e7,e8,d1,d3,by omega,fun v3 τ3 hv3 n3' m3=>?_⟩
 have s9:=jf hv3 (kf P w v3 τ3)
 have e9:upd G8 v3 (kf P w v3 τ3) v3=some (kf P w v3 τ3):=jb
 generalize upd G8 v3 (kf P w v3 τ3)=G9 at *
 intro v4 hv4
 have s10:=jf hv4 (kf P w v4 ["out"])
 have e10:upd G9 v4 (kf P w v4 ["out"]) v4=some (kf P w v4 ["out"]):=jb
 generalize upd G9 v4 (kf P w v4 ["out"])=G10 at *
 have l3:τ3.length≤14:=by
  have:=yt (m:=dedupS p.others++dedupS p.ps) n3' (fun x hx=>List.mem_append.mpr ((m3 x).mp hx))
  rw [List.length_append] at this
  omega
 refine ⟨v3,v4,_,_,rfl,rfl,s10 _ _ e9,e10,n3',by simp,by show τ3.length+1≤15;omega,fun v5 τ5 hv5 n5 m5=>?_⟩
 have s11:=jf hv5 (kf P w v5 τ5)
 have e11:upd G10 v5 (kf P w v5 τ5) v5=some (kf P w v5 τ5):=jb
 generalize upd G10 v5 (kf P w v5 τ5)=G11 at *
 have l5:τ5.length≤15:=by
  have:=yt (m:=τ3++([("out" : Str)]:List Str)) n5 (fun x hx=>List.mem_append.mpr ((m5 x).mp hx))
  rw [List.length_append] at this
  exact Nat.le_trans this (by show τ3.length+1≤15;omega)
 refine ⟨v5,τ5,rfl,e11,by omega,fun l9 ns hl9 hperm hsort=>?_⟩
 have sT:Same H G11:=sAll.trans (s7.trans (s8.trans (s9.trans (s10.trans s11))))
 refine q l9 ns _ (sT.trans (jf hl9 _)) (sT.free hl9) jb (KB hsort (hperm.nodup_iff.mpr n5)) (by rw [hperm.length_eq];exact l5) fun x=>?_
 rw [hperm.mem_iff,m5,m3,d2,d4,List.mem_singleton,or_assoc]
end
abbrev qp:Stmt:=top 25
abbrev zM:Stmt:=top 26
abbrev qS:Stmt:=top 24
abbrev qt:Stmt:=top 27
def zv (x:Str):D:=.tup [.str "set",.str x,.tup [.str "is",.str ""],.int 0]
def yo (C:Cl):D:=.tup [.str "know",C.toD]
def Pc.wayD (p:Pc) (ns:List Str):List D:=(ns.filter fun x=>!decide (x∈p.ps)).map zv++p.nd.map yo
structure NumsOf (p:Pc) (ns:List Str):Prop where
 up:ns.Pairwise ltT
 few:ns.length≤15
 mem:∀ x,x∈ns↔x∈p.others∨x∈p.ps∨x = "out"
def Y0:Sp:=fun vs H Q _=>∃ x:Str,vs=[.str x]∧∀ u H',Same H H'→Held H' (zv x) u→Q u H'
def jaA:Sp:=fun vs H Q _=>∃ (a:Addr) (us:List V) (Cs:List Cl),vs=[.ref a]∧H a=some (.tup us)∧HeldL H (Cs.map Cl.toD) us∧Cs.length≤100∧∀ l ks H',Same H H'→H l=none→H' l=some (.lst ks)→HeldL H' (Cs.map yo) ks→Q (.ref l) H'
def Y1:Sp:=fun vs H Q _=>∃ (a:Addr) (us:List V) (Cs:List Cl),vs=[.ref a]∧H a=some (.lst us)∧HeldL H (Cs.map Cl.toD) us∧Cs.length≤100∧∀ l ks H',Same H H'→H l=none→H' l=some (.lst ks)→HeldL H' (Cs.map yo) ks→Q (.ref l) H'
def jaB:Sp:=fun vs H Q _=>∃ (v:V) (p:Pc),vs=[v]∧Held H p.toD v∧PcOk p∧∀ (l:Addr) (us:List V) (ns:List Str) (H':Hp),NumsOf p ns→Same H H'→H l=none→H' l=some (.lst us)→HeldL H' (p.wayD ns) us→Q (.ref l) H'
theorem Jb {H:Hp} {t:Addr} {d e:D} {x y:V} (h:H t=some (.tup [x,y])) (h1:Held H d x) (h2:Held H e y):Held H (.tup [d,e]) (.ref t):=by
 unfold Held
 exact ⟨t,_,rfl,h,jc h1 (jc h2 jl)⟩
section
variable {P:Program} {w:World} {K:W.Frag} {mg:Str→Option Value} {base:Heap}
theorem jbx {f:Addr} {fd:FuncData} (F:Fun K "set_to_nought" "set_to_nought" qp f fd):FnOk P w K mg base CX0 1 f fd ["x"] Y0:=by
 have sc:FnScope ["x"] ["x"] (js qp):=fQ
 refine F.okZ sc (fun vs H Q E h=>?_) (fun cdv A outer s H vs Q E hr h=>?_)
 ·obtain ⟨x,rfl,_⟩:=h
  rfl
 obtain ⟨x,rfl,q⟩:=h
 refine ⟨_,(ji (jw (zpd (jcZ (zb ZU (zb (jfN 0) (zb (jcZ (zb ZU (zb ZU jaN))) (zb jfO jaN)))))))),?_⟩
 exact ⟨zv x,⟨_,rfl,Nat.le_of_ble_eq_true rfl,_,_,rfl,rfl,_,_,rfl,⟨_,rfl,jk⟩,_,_,rfl,⟨_,rfl,Nat.le_of_ble_eq_true rfl,_,_,rfl,rfl,_,_,rfl,rfl,rfl⟩,_,_,rfl,rfl,rfl⟩,fun v H' s h=>q v H' s h⟩
theorem jdk {f:Addr} {fd:FuncData} (F:Fun K "known" "known" zM f fd):FnOk P w K mg base CX0 1 f fd ["claims"] jaA:=by
 have sc:FnScope ["claims"] ["claims"] (js zM):=fQ
 refine F.okZ sc (fun vs H Q E h=>?_) (fun cdv A outer s H vs Q E hr h=>?_)
 ·obtain ⟨a,us,Cs,rfl,_⟩:=h
  rfl
 obtain ⟨a,us,Cs,rfl,ha,hCs,hlen,q⟩:=h
 refine ⟨_,(ji (jw (ql ["claim"] [] rfl (kQ (sc:=js zM) (N:=["claims"]) rfl rfl (by decide +kernel)) (kO (zpv 0)) (fun s H ex=>⟨(jt (i:=0) (show List.Nodup (["claim"]:List Str) by decide +kernel) rfl oQ),qk,(jy (ja jo (ja (zpv 0) jd)))⟩)))),?_⟩
 refine jR (σ':=[some (.ref a)]) rfl ?_
 have hul:=hCs.length
 rw [List.length_map] at hul
 refine ⟨_,rfl,a,rfl,⟨_,SqT.of ha⟩,fun l hl=>?_⟩
 refine zT (xs:=us) (fun i σ' G=>∃ u ks,σ'=[u]∧Same H G∧G l=some (.lst ks)∧HeldL G ((Cs.take i).map yo) ks) ⟨none,[],rfl,jf hl _,jb,jl⟩ ?_ ?_ ?_
 ·rintro i σ' G _ ⟨u,ks,rfl,sG,_⟩
  exact SqT.of (sG _ _ ha)
 ·rintro i x σ' G hx ⟨u,ks,rfl,sG,hG,hk⟩
  have hi:i < Cs.length:=by have:=(List.getElem?_eq_some_iff.mp hx).1;omega
  obtain ⟨x',hx',hxH⟩:=hCs.get (show (Cs.map Cl.toD)[i]?=some Cs[i].toD by rw [List.getElem?_map,List.getElem?_eq_getElem hi];rfl)
  rw [hx] at hx'
  cases hx'
  have hkl:=hk.length
  rw [List.length_map,List.length_take] at hkl
  unfold kX JD
  refine zy ?_
  refine ⟨_,rfl,sm rfl,fun t ht=>?_⟩
  have s2:=jf ht (.tup [V.str "know",x])
  have e2:upd G t (.tup [V.str "know",x]) t=some (.tup [V.str "know",x]):=jb
  generalize upd G t (.tup [V.str "know",x])=G2 at *
  have hG2:=s2 _ _ hG
  have tk:TK G2 (upd G2 l (.lst (ks++[.ref t]))):=TK.upd hG2 (fun _ z=>by cases z)
  refine ⟨ks,hG2,jv (by omega),_,_,rfl,fun b o e=>?_,jb,?_⟩
  ·rw [jr (jn e hl)];exact s2 _ _ (sG _ _ e)
  ·rw [show Cs.take (i+1)=Cs.take i++[Cs[i]] by rw [List.take_succ,List.getElem?_eq_getElem hi];rfl,List.map_append]
   exact jE (tk.heldL (hk.mono s2)) (jc (tk.held (Jb (d:=.str "know") (e:=Cs[i].toD) e2 jk (hxH.mono (sG.trans s2)))) jl)
 rintro σ' G ⟨u,ks,rfl,sG,hG,hk⟩
 rw [show Cs.take us.length=Cs by rw [← hul,List.take_length]] at hk
 exact q l ks G sG hl hG hk
theorem jbz {f:Addr} {fd:FuncData} (F:Fun K "known" "known" zM f fd):FnOk P w K mg base CX0 1 f fd ["claims"] Y1:=by
 have sc:FnScope ["claims"] ["claims"] (js zM):=fQ
 refine F.okZ sc (fun vs H Q E h=>?_) (fun cdv A outer s H vs Q E hr h=>?_)
 ·obtain ⟨a,us,Cs,rfl,_⟩:=h
  rfl
 obtain ⟨a,us,Cs,rfl,ha,hCs,hlen,q⟩:=h
 refine ⟨_,(ji (jw (ql ["claim"] [] rfl (kQ (sc:=js zM) (N:=["claims"]) rfl rfl (by decide +kernel)) (kW (zpv 0)) (fun s H ex=>⟨(jt (i:=0) (show List.Nodup (["claim"]:List Str) by decide +kernel) rfl oQ),qk,(jy (ja jo (ja (zpv 0) jd)))⟩)))),?_⟩
 refine jR (σ':=[some (.ref a)]) rfl ?_
 have hul:=hCs.length
 rw [List.length_map] at hul
 refine ⟨_,rfl,a,rfl,⟨_,SqL.of ha⟩,fun l hl=>?_⟩
 refine qP (xs:=us) (fun i σ' G=>∃ u ks,σ'=[u]∧Same H G∧G l=some (.lst ks)∧HeldL G ((Cs.take i).map yo) ks) ⟨none,[],rfl,jf hl _,jb,jl⟩ ?_ ?_ ?_
 ·rintro i σ' G _ ⟨u,ks,rfl,sG,_⟩
  exact SqL.of (sG _ _ ha)
 ·rintro i x σ' G hx ⟨u,ks,rfl,sG,hG,hk⟩
  have hi:i < Cs.length:=by have:=(List.getElem?_eq_some_iff.mp hx).1;omega
  obtain ⟨x',hx',hxH⟩:=hCs.get (show (Cs.map Cl.toD)[i]?=some Cs[i].toD by rw [List.getElem?_map,List.getElem?_eq_getElem hi];rfl)
  rw [hx] at hx'
  cases hx'
  have hkl:=hk.length
  rw [List.length_map,List.length_take] at hkl
  unfold kX JD
  refine zy ?_
  refine ⟨_,rfl,sm rfl,fun t ht=>?_⟩
  have s2:=jf ht (.tup [V.str "know",x])
  have e2:upd G t (.tup [V.str "know",x]) t=some (.tup [V.str "know",x]):=jb
  generalize upd G t (.tup [V.str "know",x])=G2 at *
  have hG2:=s2 _ _ hG
  have tk:TK G2 (upd G2 l (.lst (ks++[.ref t]))):=TK.upd hG2 (fun _ z=>by cases z)
  refine ⟨ks,hG2,jv (by omega),_,_,rfl,fun b o e=>?_,jb,?_⟩
  ·rw [jr (jn e hl)];exact s2 _ _ (sG _ _ e)
  ·rw [show Cs.take (i+1)=Cs.take i++[Cs[i]] by rw [List.take_succ,List.getElem?_eq_getElem hi];rfl,List.map_append]
   exact jE (tk.heldL (hk.mono s2)) (jc (tk.held (Jb (d:=.str "know") (e:=Cs[i].toD) e2 jk (hxH.mono (sG.trans s2)))) jl)
 rintro σ' G ⟨u,ks,rfl,sG,hG,hk⟩
 rw [show Cs.take us.length=Cs by rw [← hul,List.take_length]] at hk
 exact q l ks G sG hl hG hk
theorem jdl {f:Addr} {fd:FuncData} (F:Fun K "first_way" "first_way" qS f fd) (F_numbers_of:Fn P w K mg base 5 "numbers_of" ["proc"] Jh) (F_set_to_nought:Fn P w K mg base 1 "set_to_nought" ["x"] Y0) (F_known:Fn P w K mg base 1 "known" ["claims"] jaA):FnOk P w K mg base CX0 6 f fd ["proc"] jaB:=by
 have sc:FnScope ["proc","params","needs"] ["proc"] (js qS):=fQ
 refine F.okZ sc (fun vs H Q E h=>?_) (fun cdv A outer s H vs Q E hr h=>?_)
 ·obtain ⟨v,p,rfl,_⟩:=h
  rfl
 obtain ⟨v,p,rfl,hv,hp,q⟩:=h
 refine ⟨_,(jg (zh (jy (ja (jj jq (zpv 0) je (fun _ _=>rfl)) (ja (jj jq (zpv 0) je (fun _ _=>rfl)) jd))) (ko rfl (jA (jt (i:=1) sc.nd rfl oQ) (jA (jt (i:=2) sc.nd rfl oQ) j9))))
   (ji (jw (jm kD (ql ["x"] [1] rfl (kQ (sc:=js qS) (N:=["proc","params","needs"]) rfl rfl (by decide +kernel)) (kW (ju F_numbers_of hr (ja (zpv 0) jd))) (fun s H ex=>⟨(jt (i:=0) (show List.Nodup (["x","params"]:List Str) by decide +kernel) rfl oQ),(yz (jz (q5 (K:=K)) (zpv 0) (zpv 1) rfl)),(ju F_set_to_nought hr (ja (zpv 0) jd))⟩)) (ju F_known hr (ja (zpv 2) jd)))))),?_⟩
 refine jR (σ':=[some v,none,none]) rfl ?_
 obtain ⟨a,ap,ar,an,ag,ab,vn,vg,vb,rfl,ha,hap,har,han,hn,hag,hg,hab,hb⟩:=yX hv
 refine ⟨_,rfl,a,_,_,_,rfl,rfl,SqT.of ha,rfl,_,rfl,a,_,_,_,rfl,rfl,SqT.of ha,rfl,sm rfl,fun t ht=>?_⟩
 have s1:=jf ht (.tup [.ref ap,.ref an])
 have e1:upd H t (.tup [.ref ap,.ref an]) t=some (.tup [.ref ap,.ref an]):=jb
 generalize upd H t (.tup [.ref ap,.ref an])=H1 at *
 refine ⟨t,_,rfl,SqT.of e1,rfl,_,_,rfl,_,_,rfl,rfl,?_⟩
 refine jR (σ':=[some (.ref a),some (.ref ap),some (.ref an)]) rfl ?_
 refine ⟨_,rfl,.ref a,p,rfl,hv.mono s1,hp,fun l ns H2 s2 n2 e2 up few mem=>?_⟩
 have s12:=s1.trans s2
 refine ⟨l,rfl,⟨_,SqL.of e2⟩,fun pp hpp=>?_⟩
 refine qP (xs:=ns.map V.str) (fun i σ' G=>∃ u ks,σ'=[u,some (.ref ap)]∧Same H2 G∧G pp=some (.lst ks)∧HeldL G (((ns.take i).filter fun x=>!decide (x∈p.ps)).map zv) ks) ⟨none,[],rfl,jf hpp _,jb,jl⟩ ?_ ?_ ?_
 ·rintro i σ' G _ ⟨u,ks,rfl,sG,_⟩
  exact SqL.of (sG _ _ e2)
 ·rintro i x σ' G hx ⟨u,ks,rfl,sG,hG,hk⟩
  have hi:i < ns.length:=by
   have:=(List.getElem?_eq_some_iff.mp hx).1
   rw [List.length_map] at this
   exact this
  rw [List.getElem?_map,List.getElem?_eq_getElem hi] at hx
  cases hx
  have et:(ns.take (i+1)).filter (fun x=>!decide (x∈p.ps))=(ns.take i).filter (fun x=>!decide (x∈p.ps))++(if (!decide (ns[i]∈p.ps))=true then [ns[i]] else []):=by
   rw [List.take_succ,List.getElem?_eq_getElem hi,List.filter_append]
   congr 1
   show List.filter _ [ns[i]]=_
   rw [List.filter_cons]
   rfl
  have hkl:=hk.length
  rw [List.length_map] at hkl
  have hfl:=List.length_filter_le (fun x=>!decide (x∈p.ps)) (ns.take i)
  rw [List.length_take] at hfl
  unfold kX
  refine ⟨_,rfl,_,rfl,ap,p.ps.map V.str,rfl,.inr (SqT.of (sG _ _ (s12 _ _ hap))),rfl,qf _,_,rfl,j3 (fun d2=>?_) (fun d2=>?_)⟩
  ·have d2':(!inV (.str ns[i]) (p.ps.map V.str))=true:=d2
   rw [kz] at d2'
   refine ⟨_,rfl,_,rfl,fun z G2 s3 hz=>?_⟩
   have hG2:=s3 _ _ hG
   have tk:TK G2 (upd G2 pp (.lst (ks++[z]))):=TK.upd hG2 (fun _ z=>by cases z)
   refine ⟨ks,hG2,jv (by omega),_,_,rfl,fun b o e=>?_,jb,?_⟩
   ·rw [jr (jn e hpp)];exact s3 _ _ (sG _ _ e)
   ·rw [et,if_pos d2',List.map_append]
    exact jE (tk.heldL (hk.mono s3)) (jc (tk.held hz) jl)
  ·have d2':¬ (!inV (.str ns[i]) (p.ps.map V.str))=true:=d2
   rw [kz] at d2'
   exact ⟨_,ks,rfl,sG,hG,by rw [et,if_neg d2',List.append_nil];exact hk⟩
 rintro σ' G ⟨u,ks,rfl,sG,hG,hk⟩
 rw [List.length_map,List.take_length] at hk
 have s1G:=s12.trans sG
 refine ⟨_,rfl,an,vn,p.nd,rfl,s1G _ _ han,hn.mono s1G,by have:=hp.nd;omega,fun l2 ks2 H4 s4 n4 e4 hk2=>?_⟩
 have hkl:=hk.length
 have hkl2:=hk2.length
 rw [List.length_map] at hkl hkl2
 have hfl:=List.length_filter_le (fun x=>!decide (x∈p.ps)) ns
 refine ⟨pp,l2,ks,ks2,rfl,rfl,s4 _ _ hG,e4,Nat.le_trans (by have:=hp.nd;omega) (ka (Nat.le_refl 1000)),fun l3 hl3=>?_⟩
 have s5:=jf hl3 (.lst (ks++ks2))
 exact q l3 _ ns _ ⟨up,few,mem⟩ (s1G.trans (s4.trans s5)) (s1G.free (s4.free hl3)) jb (jE (hk.mono (s4.trans s5)) (hk2.mono s5))
end
abbrev qA:Stmt:=jeV (top 20) 0
abbrev KF:Stmt:=top 28
structure ClsW (K:W.Frag) (C:Addr):Prop where
 c:Cls K C
 n1:NoAttr K C "f"
 n2:NoAttr K C "procs"
 n3:NoAttr K C "met"
def jd5 (f:Str) (vp:V) (ml:Addr):List (Str×V):=[("f",.str f),("procs",vp),("met",.ref ml)]
structure Du where
 f:Str
 kind:Str
 path:List Int
 k:Int
 way:List D
 goal:Cl
def DuAt (G:Hp) (d:Du) (v:V) (wl:Addr):Prop:=∃ t pt us gv,v=.ref t∧G t=some (.tup [.str d.f,.str d.kind,.ref pt,.int d.k,.ref wl,gv])∧G pt=some (.tup (d.path.map V.int))∧G wl=some (.lst us)∧HeldL G d.way us∧Held G d.goal.toD gv
def DutsAt (G:Hp):List Du→List V→List Addr→Prop
 | [],[],[]=>True
 | d :: ds,v :: vs,wl :: wls=>DuAt G d v wl∧DutsAt G ds vs wls
 | _,_,_=>False
theorem j5 {G G':Hp} {ml:Addr} {xs:List V} (k:∀ b o,b≠ml→G b=some o→G' b=some o) (h:G ml=some (.lst xs)):TK G G':=fun b ys e=>k b _ (fun z=>by rw [z,h] at e;cases e) e
theorem DuAt.keep {G G':Hp} {ml:Addr} {xs:List V} (k:∀ b o,b≠ml→G b=some o→G' b=some o) (h:G ml=some (.lst xs)) {d:Du} {v:V} {wl:Addr} (hd:DuAt G d v wl) (hn:wl≠ml):DuAt G' d v wl:=by
 obtain ⟨t,pt,us,gv,rfl,h1,h2,h3,h4,h5⟩:=hd
 have tk:=j5 k h
 exact ⟨t,pt,us,gv,rfl,tk _ _ h1,tk _ _ h2,k _ _ hn h3,tk.heldL h4,tk.held h5⟩
theorem DutsAt.keep {G G':Hp} {ml:Addr} {xs:List V} (k:∀ b o,b≠ml→G b=some o→G' b=some o) (h:G ml=some (.lst xs)):∀ {ds:List Du} {vs:List V} {wls:List Addr},DutsAt G ds vs wls→ml ∉ wls→DutsAt G' ds vs wls
 | [],[],[],_,_=>trivial
 | d :: ds,v :: vs,wl :: wls,hd,hn=>⟨hd.1.keep k h (fun z=>hn (by rw [z];exact List.mem_cons_self)),DutsAt.keep k h hd.2 (fun z=>hn (List.mem_cons_of_mem _ z))⟩
 | [],[],_ :: _,hd,_=>hd.elim
 | [],_ :: _,_,hd,_=>hd.elim
 | _ :: _,[],_,hd,_=>hd.elim
 | _ :: _,_ :: _,[],hd,_=>hd.elim
theorem DutsAt.app {G:Hp}:∀ {ds ds':List Du} {vs vs':List V} {wls wls':List Addr},DutsAt G ds vs wls→DutsAt G ds' vs' wls'→DutsAt G (ds++ds') (vs++vs') (wls++wls')
 | [],_,[],_,[],_,_,h=>h
 | d :: ds,_,v :: vs,_,wl :: wls,_,hd,h=>⟨hd.1,DutsAt.app hd.2 h⟩
 | [],_,[],_,_ :: _,_,hd,_=>hd.elim
 | [],_,_ :: _,_,_,_,hd,_=>hd.elim
 | _ :: _,_,[],_,_,_,hd,_=>hd.elim
 | _ :: _,_,_ :: _,_,[],_,hd,_=>hd.elim
theorem DutsAt.len {G:Hp}:∀ {ds:List Du} {vs:List V} {wls:List Addr},DutsAt G ds vs wls→vs.length=ds.length
 | [],[],[],_=>rfl
 | d :: ds,v :: vs,wl :: wls,hd=>by rw [List.length_cons,List.length_cons,DutsAt.len hd.2]
 | [],[],_ :: _,hd=>hd.elim
 | [],_ :: _,_,hd=>hd.elim
 | _ :: _,[],_,hd=>hd.elim
 | _ :: _,_ :: _,[],hd=>hd.elim
theorem qg {G:Hp}:∀ {ds:List Du} {vs:List V} {wls:List Addr},DutsAt G ds vs wls→∀ x∈wls,G x≠none
 | [],[],[],_,x,hx=>by cases hx
 | d :: ds,v :: vs,wl :: wls,hd,x,hx=>by
  rcases List.mem_cons.mp hx with rfl | hx
  ·obtain ⟨_,_,us,_,_,_,_,h,_⟩:=hd.1
   rw [h];simp
  ·exact qg hd.2 x hx
 | [],[],_ :: _,hd,_,_=>hd.elim
 | [],_ :: _,_,hd,_,_=>hd.elim
 | _ :: _,[],_,hd,_,_=>hd.elim
 | _ :: _,_ :: _,[],hd,_,_=>hd.elim
def zF (f kind:Str) (path:List Int) (way:List D) (Cs:List Cl):List Du:=Cs.zipIdx.map fun c=>⟨f,kind,path,c.2,way,c.1⟩
theorem yd (f kind:Str) (path:List Int) (way:List D) {Cs:List Cl} {i:Nat} (hi:i < Cs.length):zF f kind path way (Cs.take (i+1))=zF f kind path way (Cs.take i)++[⟨f,kind,path,i,way,Cs[i]⟩]:=by
 unfold zF
 rw [show Cs.take (i+1)=Cs.take i++[Cs[i]] by rw [List.take_succ,List.getElem?_eq_getElem hi];rfl,List.zipIdx_append,List.map_append,List.length_take,Nat.min_eq_left (Nat.le_of_lt hi)]
 simp
theorem Zf (f kind:Str) (path:List Int) (way:List D) (Cs:List Cl):(zF f kind path way Cs).length=Cs.length:=by unfold zF;rw [List.length_map,List.length_zipIdx]
def jcv (CW:Addr):Sp:=fun vs H Q _=>∃ (wo dx:Addr) (f:Str) (vp:V),vs=[.ref wo,.str f,vp]∧H wo=some (.ins CW dx [])∧∀ ml H',(∀ b o,b≠wo→H b=some o→H' b=some o)→H ml=none→H' wo=some (.ins CW dx (jd5 f vp ml))→H' ml=some (.lst [])→Q .non H'
def WayL (G:Hp) (ml:Addr):List (List D)→List Addr→Prop
 | [],[]=>True
 | w :: ws,a :: as=>(a≠ml∧∃ us,G a=some (.lst us)∧HeldL G w us)∧WayL G ml ws as
 | _,_=>False
theorem WayL.keep {G G':Hp} {ml:Addr} {xs:List V} (k:∀ b o,b≠ml→G b=some o→G' b=some o) (h:G ml=some (.lst xs)):∀ {ws:List (List D)} {as:List Addr},WayL G ml ws as→WayL G' ml ws as
 | [],[],_=>trivial
 | w :: ws,a :: as,hd=>by
  obtain ⟨⟨n,us,e,hh⟩,hr⟩:=hd
  exact ⟨⟨n,us,k _ _ n e,(j5 k h).heldL hh⟩,WayL.keep k h hr⟩
 | [],_ :: _,hd=>hd.elim
 | _ :: _,[],hd=>hd.elim
theorem WayL.mono {G G':Hp} {ml:Addr} (s:Same G G'):∀ {ws:List (List D)} {as:List Addr},WayL G ml ws as→WayL G' ml ws as
 | [],[],_=>trivial
 | w :: ws,a :: as,hd=>by
  obtain ⟨⟨n,us,e,hh⟩,hr⟩:=hd
  exact ⟨⟨n,us,s _ _ e,hh.mono s⟩,WayL.mono s hr⟩
 | [],_ :: _,hd=>hd.elim
 | _ :: _,[],hd=>hd.elim
theorem WayL.len {G:Hp} {ml:Addr}:∀ {ws:List (List D)} {as:List Addr},WayL G ml ws as→as.length=ws.length
 | [],[],_=>rfl
 | w :: ws,a :: as,hd=>by rw [List.length_cons,List.length_cons,WayL.len hd.2]
 | [],_ :: _,hd=>hd.elim
 | _ :: _,[],hd=>hd.elim
theorem WayL.get {G:Hp} {ml:Addr}:∀ {ws:List (List D)} {as:List Addr} {i:Nat} {w:List D} {a:Addr},WayL G ml ws as→ws[i]?=some w→as[i]?=some a→a≠ml∧∃ us,G a=some (.lst us)∧HeldL G w us
 | [],[],_,_,_,_,h,_=>by simp at h
 | w :: ws,a :: as,0,_,_,hd,h,h'=>by simp at h h';subst h h';exact hd.1
 | w :: ws,a :: as,i+1,_,_,hd,h,h'=>WayL.get hd.2 (by simpa using h) (by simpa using h')
 | [],_ :: _,_,_,_,hd,_,_=>hd.elim
 | _ :: _,[],_,_,_,hd,_,_=>hd.elim
theorem WayL.app {G:Hp} {ml:Addr}:∀ {ws ws':List (List D)} {as as':List Addr},WayL G ml ws as→WayL G ml ws' as'→WayL G ml (ws++ws') (as++as')
 | [],_,[],_,_,h=>h
 | w :: ws,_,a :: as,_,hd,h=>⟨hd.1,WayL.app hd.2 h⟩
 | [],_,_ :: _,_,hd,_=>hd.elim
 | _ :: _,_,[],_,hd,_=>hd.elim
def kS (f kind:Str) (path:List Int) (ways:List (List D)) (Cs:List Cl):List Du:=ways.flatMap fun way=>zF f kind path way Cs
theorem qO (f kind:Str) (path:List Int) (Cs:List Cl):∀ ways:List (List D),(kS f kind path ways Cs).length=ways.length * Cs.length
 | []=>by unfold kS;simp
 | w :: ws=>by
  have:=qO f kind path Cs ws
  unfold kS at this ⊢
  rw [List.flatMap_cons,List.length_append,Zf,this,List.length_cons,Nat.succ_mul]
  omega
theorem JT (f kind:Str) (path:List Int) (Cs:List Cl) {ways:List (List D)} {i:Nat} (hi:i < ways.length):kS f kind path (ways.take (i+1)) Cs=kS f kind path (ways.take i) Cs++zF f kind path ways[i] Cs:=by
 unfold kS
 rw [show ways.take (i+1)=ways.take i++[ways[i]] by rw [List.take_succ,List.getElem?_eq_getElem hi];rfl,List.flatMap_append]
 simp
def Ye (CW:Addr):Sp:=fun vs H Q _=>∃ (wo dx ml pt wy ca:Addr) (was:List Addr) (f kind:Str) (vp:V) (ms cs:List V) (path:List Int) (ways:List (List D)) (Cs:List Cl),vs=[.ref wo,.str kind,.ref pt,.ref wy,.ref ca]∧H wo=some (.ins CW dx (jd5 f vp ml))∧H ml=some (.lst ms)∧H pt=some (.tup (path.map V.int))∧H wy=some (.lst (was.map V.ref))∧WayL H ml ways was∧H ca=some (.tup cs)∧HeldL H (Cs.map Cl.toD) cs∧wy≠ml∧ca≠ml∧ways.length≤40∧ms.length+ways.length * Cs.length≤900∧
 ∀ ms' wls H',(∀ b o,b≠ml→H b=some o→H' b=some o)→H' ml=some (.lst (ms++ms'))→DutsAt H' (kS f kind path ways Cs) ms' wls→wls.Nodup→(∀ x∈wls,H x=none)→Q .non H'
def jay (CW:Addr):Sp:=fun vs H Q _=>∃ (wo dx ml pt wy ca:Addr) (was:List Addr) (f kind:Str) (vp:V) (ms cs:List V) (path:List Int) (ways:List (List D)) (Cs:List Cl),vs=[.ref wo,.str kind,.ref pt,.ref wy,.ref ca]∧H wo=some (.ins CW dx (jd5 f vp ml))∧H ml=some (.lst ms)∧H pt=some (.tup (path.map V.int))∧H wy=some (.lst (was.map V.ref))∧WayL H ml ways was∧H ca=some (.lst cs)∧HeldL H (Cs.map Cl.toD) cs∧wy≠ml∧ca≠ml∧ways.length≤40∧ms.length+ways.length * Cs.length≤900∧
 ∀ ms' wls H',(∀ b o,b≠ml→H b=some o→H' b=some o)→H' ml=some (.lst (ms++ms'))→DutsAt H' (kS f kind path ways Cs) ms' wls→wls.Nodup→(∀ x∈wls,H x=none)→Q .non H'
section
variable {P:Program} {w:World} {K:W.Frag} {mg:Str→Option Value} {base:Heap}
theorem jeH {CW:Addr} {f:Addr} {fd:FuncData} (T:ClsW K CW) (F:Fun K "__init__" "Walk.__init__" qA f fd):FnOk P w K mg base CX0 1 f fd ["self","f","procs"] (jcv CW):=by
 have sc:FnScope ["self","f","procs"] ["self","f","procs"] (js qA):=fQ
 refine F.okZ sc (fun vs H Q E h=>?_) (fun cdv A outer s H vs Q E hr h=>?_)
 ·obtain ⟨wo,dx,f,vp,rfl,_⟩:=h
  rfl
 obtain ⟨wo,dx,f,vp,rfl,hwo,q⟩:=h
 refine ⟨_,(jg (K7 (zpv 0) (zpv 1) rfl)
   (jg (K7 (zpv 0) (zpv 2) rfl)
   (ji (K7 (zpv 0) (jI jd) rfl)))),?_⟩
 refine ⟨_,rfl,_,rfl,wo,CW,dx,[],rfl,hwo,T.c,T.n1,by show 0 < 1000;decide,?_⟩
 refine ⟨_,rfl,_,rfl,wo,CW,dx,_,rfl,jb,T.c,T.n2,by show 1 < 1000;decide,?_⟩
 refine ⟨sm rfl,fun ml hml=>?_⟩
 have nm:ml≠wo:=fun z=>by rw [z,jb] at hml;cases hml
 refine ⟨_,rfl,wo,CW,dx,_,rfl,(by rw [jr (Ne.symm nm)];exact jb),T.c,T.n3,by show 2 < 1000;decide,?_⟩
 rw [jr nm,jr nm] at hml
 refine q ml _ (fun b o hb e=>?_) hml jb ?_
 ·rw [jr hb,jr (jn e hml),jr hb,jr hb];exact e
 ·rw [jr nm];exact jb
theorem jdi {CW:Addr} {f:Addr} {fd:FuncData} (T:ClsW K CW) (F:Fun K "meet" "meet" KF f fd) (B:Free0 mg) (Z_enumerate:mg "enumerate" = none):FnOk P w K mg base CX0 1 f fd ["walk","kind","path","ways","claims"] (Ye CW):=by
 have sc:FnScope ["walk","kind","path","ways","claims","way","k","claim"] ["walk","kind","path","ways","claims"] (js KF):=fQ
 refine F.okZ sc (fun vs H Q E h=>?_) (fun cdv A outer s H vs Q E hr h=>?_)
 ·obtain ⟨wo,dx,ml,pt,wy,ca,was,f,kind,vp,ms,cs,path,ways,Cs,rfl,_⟩:=h
  rfl
 obtain ⟨wo,dx,ml,pt,wy,ca,was,f,kind,vp,ms,cs,path,ways,Cs,rfl,hwo,hml,hpt,hwy,hW,hca,hCs,nwy,nca,hl40,hlen,q⟩:=h
 refine ⟨_,(ji (jZ PassesOwn.never rfl (kW (zpv 3)) (jt (i:=5) sc.nd rfl oQ) (ji (jZ PassesOwn.never rfl (za (by rfl) Z_enumerate (ja (zpv 4) jd)) (ko rfl (jA (jt (i:=6) sc.nd rfl oQ) (jA (jt (i:=7) sc.nd rfl oQ) j9))) (ji (jK (kb PySem.F.plainAttrs_list PySem.F.slot_list_append PySem.F.type_list_append jQ (zX (zpv 0) rfl) (ja (jy (ja (zX (zpv 0) rfl) (ja (zpv 1) (ja (zpv 2) (ja (zpv 6) (ja (kJ kR (by rfl) B.list_ yi (ja (zpv 5) jd)) (ja (zpv 7) jd))))))) jd)))))))),?_⟩
 refine jR (σ':=[some (.ref wo),some (.str kind),some (.ref pt),some (.ref wy),some (.ref ca),none,none,none]) rfl ?_
 have ncl:=hCs.length
 rw [List.length_map] at ncl
 have lwa:=hW.len
 have nwo:wo≠ml:=fun z=>by rw [z,hml] at hwo;cases hwo
 have npt:pt≠ml:=fun z=>by rw [z,hml] at hpt;cases hpt
 have tk0:∀ {G:Hp},(∀ b o,b≠ml→H b=some o→G b=some o)→TK H G:=fun k=>j5 k hml
 refine ⟨_,rfl,wy,rfl,⟨_,SqL.of hwy⟩,?_⟩
 refine yN (xs:=was.map V.ref) (fun i σ G=>∃ u5 u6 u7 ms' wls,σ=[some (.ref wo),some (.str kind),some (.ref pt),some (.ref wy),some (.ref ca),u5,u6,u7]∧(∀ b o,b≠ml→H b=some o→G b=some o)∧G ml=some (.lst (ms++ms'))∧DutsAt G (kS f kind path (ways.take i) Cs) ms' wls∧wls.Nodup∧∀ x∈wls,H x=none) ⟨none,none,none,[],[],rfl,fun _ _ _ e=>e,by rw [List.append_nil];exact hml,by rw [List.take_zero];trivial,List.nodup_nil,fun _ z=>by cases z⟩ ?_ ?_ ?_
 ·rintro i σ G _ ⟨u5,u6,u7,ms',wls,rfl,kG,_⟩
  exact SqL.of (kG _ _ nwy hwy)
 ·rintro i x σ G hx ⟨u5,u6,u7,ms0,wls0,rfl,kG,hG,hD0,hnd,hnew⟩
  have hiw:i < was.length:=by have:=(List.getElem?_eq_some_iff.mp hx).1;rw [List.length_map] at this;exact this
  have hi:i < ways.length:=by omega
  rw [List.getElem?_map,List.getElem?_eq_getElem hiw] at hx
  cases hx
  obtain ⟨nwl,us,hwl,hway⟩:=hW.get (List.getElem?_eq_getElem hi) (List.getElem?_eq_getElem hiw)
  have ld0:=hD0.len
  rw [qO,List.length_take,Nat.min_eq_left (Nat.le_of_lt hi)] at ld0
  have hb0:ms0.length+Cs.length≤ways.length * Cs.length:=by
   rw [ld0,← Nat.succ_mul]
   exact Nat.mul_le_mul_right _ hi
  rw [JT f kind path Cs hi]
  generalize was[i]=wl at *
  generalize ways[i]=way at *
  generalize kS f kind path (ways.take i) Cs=ds0 at *
  refine gQ ?_
  refine ⟨_,rfl,ca,rfl,⟨_,SqT.of (kG _ _ nca hca)⟩,?_⟩
  refine zd (xs:=cs) (fun j σ G=>∃ u6 u7 ms' wls,σ=[some (.ref wo),some (.str kind),some (.ref pt),some (.ref wy),some (.ref ca),some (.ref wl),u6,u7]∧(∀ b o,b≠ml→H b=some o→G b=some o)∧G ml=some (.lst (ms++ms'))∧ms'.length=ms0.length+j∧DutsAt G (ds0++zF f kind path way (Cs.take j)) ms' wls∧wls.Nodup∧∀ x∈wls,H x=none) ⟨u6,u7,ms0,wls0,rfl,kG,hG,rfl,by rw [List.take_zero,show zF f kind path way []=[] from rfl,List.append_nil];exact hD0,hnd,hnew⟩ ?_ ?_ ?_
  ·rintro j σ G _ ⟨u6,u7,ms',wls,rfl,kG,_⟩
   exact SqT.of (kG _ _ nca hca)
  ·clear hG hD0 hnd hnew kG
   rintro j y σ G t hy ⟨u6,u7,ms',wls,rfl,kG,hG,lms',hD,hnd,hnew⟩ ht
   have hj:j < Cs.length:=by have:=(List.getElem?_eq_some_iff.mp hy).1;omega
   obtain ⟨y',hy',hyH⟩:=hCs.get (show (Cs.map Cl.toD)[j]?=some Cs[j].toD by rw [List.getElem?_map,List.getElem?_eq_getElem hj];rfl)
   rw [hy] at hy'
   cases hy'
   have s1:=jf ht (.tup [V.int j,y])
   have e1:upd G t (.tup [V.int j,y]) t=some (.tup [V.int j,y]):=jb
   generalize upd G t (.tup [V.int j,y])=G1 at *
   refine ⟨t,_,rfl,SqT.of e1,rfl,_,_,rfl,_,_,rfl,rfl,?_⟩
   refine jR (σ':=[some (.ref wo),some (.str kind),some (.ref pt),some (.ref wy),some (.ref ca),some (.ref wl),some (.int j),some y]) rfl ?_
   have k1:∀ b o,b≠ml→H b=some o→G1 b=some o:=fun b o hb e=>s1 _ _ (kG b o hb e)
   have hG1:=s1 _ _ hG
   refine ⟨_,rfl,wo,CW,dx,_,_,rfl,k1 _ _ nwo hwo,T.c,T.n3,rfl,.inl ⟨rfl,_,SqL.of hG1⟩,?_⟩
   refine ⟨_,rfl,wo,CW,dx,_,_,rfl,k1 _ _ nwo hwo,T.c,T.n1,rfl,_,rfl,_,rfl,_,rfl,_,rfl,wl,us,rfl,.inl (SqL.of (k1 _ _ nwl hwl)),fun nl hnl=>?_⟩
   have s2:=jf hnl (.lst us)
   have e2:upd G1 nl (.lst us) nl=some (.lst us):=jb
   generalize upd G1 nl (.lst us)=G2 at *
   refine ⟨_,rfl,sm rfl,fun t2 ht2=>?_⟩
   have s3:=jf ht2 (.tup [V.str f,.str kind,.ref pt,.int j,.ref nl,y])
   have e3:upd G2 t2 (.tup [V.str f,.str kind,.ref pt,.int j,.ref nl,y]) t2=some (.tup [V.str f,.str kind,.ref pt,.int j,.ref nl,y]):=jb
   generalize upd G2 t2 (.tup [V.str f,.str kind,.ref pt,.int j,.ref nl,y])=G3 at *
   have s13:=s1.trans (s2.trans s3)
   have hG3:=s13 _ _ hG
   have k3:∀ b o,b≠ml→H b=some o→G3 b=some o:=fun b o hb e=>s13 _ _ (kG b o hb e)
   have nnl:nl≠ml:=fun z=>by rw [z,hG1] at hnl;cases hnl
   have freeH:∀ b,b≠ml→G1 b=none→H b=none:=fun b hb hz=>by
    rcases hh:H b with _ | o
    ·rfl
    ·rw [k1 b o hb hh] at hz;cases hz
   refine ⟨ml,_,_,rfl,rfl,hG3,jv (by rw [List.length_append];omega),?_⟩
   have k4:∀ b o,b≠ml→G3 b=some o→upd G3 ml (.lst (ms++ms'++[.ref t2])) b=some o:=fun b o hb e=>by rw [jr hb];exact e
   have hmlw:ml ∉ wls:=fun z=>by have:=hnew _ z;rw [hml] at this;cases this
   refine ⟨_,_,ms'++[.ref t2],wls++[nl],rfl,fun b o hb e=>k4 b o hb (k3 b o hb e),by rw [jb,List.append_assoc],by rw [List.length_append,lms'];rfl,?_,?_,?_⟩
   ·rw [yd f kind path way hj,← List.append_assoc]
    refine DutsAt.app (DutsAt.keep (fun b o hb e=>k4 b o hb (s13 _ _ e)) hG hD hmlw) ⟨?_,trivial⟩
    refine DuAt.keep k4 hG3 ?_ nnl
    exact ⟨t2,pt,us,y,rfl,e3,k3 _ _ npt hpt,s3 _ _ e2,(tk0 k3).heldL hway,(tk0 k3).held hyH⟩
   ·refine List.nodup_append.mpr ⟨hnd,by simp,fun a ha b hb=>?_⟩
    rw [List.mem_singleton.mp hb]
    rintro rfl
    have:G1 a≠none:=qg (DutsAt.keep (G:=G) (G':=G1) (ml:=ml) (fun b o _ e=>s1 b o e) hG hD hmlw) a ha
    exact this hnl
   ·intro x hx
    rcases List.mem_append.mp hx with hx | hx
    ·exact hnew x hx
    ·rw [List.mem_singleton.mp hx]
     exact freeH nl nnl hnl
  ·rintro σ G ⟨u6,u7,ms',wls,rfl,kG,hG,_,hD,hnd,hnew⟩
   rw [← ncl,List.take_length] at hD
   exact ⟨_,_,_,ms',wls,rfl,kG,hG,hD,hnd,hnew⟩
 ·rintro σ G ⟨u5,u6,u7,ms',wls,rfl,kG,hG,hD,hnd,hnew⟩
  rw [List.length_map,lwa,List.take_length] at hD
  exact q ms' wls G kG hG hD hnd hnew
theorem jdj {CW:Addr} {f:Addr} {fd:FuncData} (T:ClsW K CW) (F:Fun K "meet" "meet" KF f fd) (B:Free0 mg) (Z_enumerate:mg "enumerate" = none):FnOk P w K mg base CX0 1 f fd ["walk","kind","path","ways","claims"] (jay CW):=by
 have sc:FnScope ["walk","kind","path","ways","claims","way","k","claim"] ["walk","kind","path","ways","claims"] (js KF):=fQ
 refine F.okZ sc (fun vs H Q E h=>?_) (fun cdv A outer s H vs Q E hr h=>?_)
 ·obtain ⟨wo,dx,ml,pt,wy,ca,was,f,kind,vp,ms,cs,path,ways,Cs,rfl,_⟩:=h
  rfl
 obtain ⟨wo,dx,ml,pt,wy,ca,was,f,kind,vp,ms,cs,path,ways,Cs,rfl,hwo,hml,hpt,hwy,hW,hca,hCs,nwy,nca,hl40,hlen,q⟩:=h
 refine ⟨_,(ji (jZ PassesOwn.never rfl (kW (zpv 3)) (jt (i:=5) sc.nd rfl oQ) (ji (jZ PassesOwn.never rfl (jb1 (by rfl) Z_enumerate (ja (zpv 4) jd)) (ko rfl (jA (jt (i:=6) sc.nd rfl oQ) (jA (jt (i:=7) sc.nd rfl oQ) j9))) (ji (jK (kb PySem.F.plainAttrs_list PySem.F.slot_list_append PySem.F.type_list_append jQ (zX (zpv 0) rfl) (ja (jy (ja (zX (zpv 0) rfl) (ja (zpv 1) (ja (zpv 2) (ja (zpv 6) (ja (kJ kR (by rfl) B.list_ yi (ja (zpv 5) jd)) (ja (zpv 7) jd))))))) jd)))))))),?_⟩
 refine jR (σ':=[some (.ref wo),some (.str kind),some (.ref pt),some (.ref wy),some (.ref ca),none,none,none]) rfl ?_
 have ncl:=hCs.length
 rw [List.length_map] at ncl
 have lwa:=hW.len
 have nwo:wo≠ml:=fun z=>by rw [z,hml] at hwo;cases hwo
 have npt:pt≠ml:=fun z=>by rw [z,hml] at hpt;cases hpt
 have tk0:∀ {G:Hp},(∀ b o,b≠ml→H b=some o→G b=some o)→TK H G:=fun k=>j5 k hml
 refine ⟨_,rfl,wy,rfl,⟨_,SqL.of hwy⟩,?_⟩
 refine yN (xs:=was.map V.ref) (fun i σ G=>∃ u5 u6 u7 ms' wls,σ=[some (.ref wo),some (.str kind),some (.ref pt),some (.ref wy),some (.ref ca),u5,u6,u7]∧(∀ b o,b≠ml→H b=some o→G b=some o)∧G ml=some (.lst (ms++ms'))∧DutsAt G (kS f kind path (ways.take i) Cs) ms' wls∧wls.Nodup∧∀ x∈wls,H x=none) ⟨none,none,none,[],[],rfl,fun _ _ _ e=>e,by rw [List.append_nil];exact hml,by rw [List.take_zero];trivial,List.nodup_nil,fun _ z=>by cases z⟩ ?_ ?_ ?_
 ·rintro i σ G _ ⟨u5,u6,u7,ms',wls,rfl,kG,_⟩
  exact SqL.of (kG _ _ nwy hwy)
 ·rintro i x σ G hx ⟨u5,u6,u7,ms0,wls0,rfl,kG,hG,hD0,hnd,hnew⟩
  have hiw:i < was.length:=by have:=(List.getElem?_eq_some_iff.mp hx).1;rw [List.length_map] at this;exact this
  have hi:i < ways.length:=by omega
  rw [List.getElem?_map,List.getElem?_eq_getElem hiw] at hx
  cases hx
  obtain ⟨nwl,us,hwl,hway⟩:=hW.get (List.getElem?_eq_getElem hi) (List.getElem?_eq_getElem hiw)
  have ld0:=hD0.len
  rw [qO,List.length_take,Nat.min_eq_left (Nat.le_of_lt hi)] at ld0
  have hb0:ms0.length+Cs.length≤ways.length * Cs.length:=by
   rw [ld0,← Nat.succ_mul]
   exact Nat.mul_le_mul_right _ hi
  rw [JT f kind path Cs hi]
  generalize was[i]=wl at *
  generalize ways[i]=way at *
  generalize kS f kind path (ways.take i) Cs=ds0 at *
  refine gQ ?_
  refine ⟨_,rfl,ca,rfl,⟨_,SqL.of (kG _ _ nca hca)⟩,?_⟩
  refine jdH (xs:=cs) (fun j σ G=>∃ u6 u7 ms' wls,σ=[some (.ref wo),some (.str kind),some (.ref pt),some (.ref wy),some (.ref ca),some (.ref wl),u6,u7]∧(∀ b o,b≠ml→H b=some o→G b=some o)∧G ml=some (.lst (ms++ms'))∧ms'.length=ms0.length+j∧DutsAt G (ds0++zF f kind path way (Cs.take j)) ms' wls∧wls.Nodup∧∀ x∈wls,H x=none) ⟨u6,u7,ms0,wls0,rfl,kG,hG,rfl,by rw [List.take_zero,show zF f kind path way []=[] from rfl,List.append_nil];exact hD0,hnd,hnew⟩ ?_ ?_ ?_
  ·rintro j σ G _ ⟨u6,u7,ms',wls,rfl,kG,_⟩
   exact SqL.of (kG _ _ nca hca)
  ·clear hG hD0 hnd hnew kG
   rintro j y σ G t hy ⟨u6,u7,ms',wls,rfl,kG,hG,lms',hD,hnd,hnew⟩ ht
   have hj:j < Cs.length:=by have:=(List.getElem?_eq_some_iff.mp hy).1;omega
   obtain ⟨y',hy',hyH⟩:=hCs.get (show (Cs.map Cl.toD)[j]?=some Cs[j].toD by rw [List.getElem?_map,List.getElem?_eq_getElem hj];rfl)
   rw [hy] at hy'
   cases hy'
   have s1:=jf ht (.tup [V.int j,y])
   have e1:upd G t (.tup [V.int j,y]) t=some (.tup [V.int j,y]):=jb
   generalize upd G t (.tup [V.int j,y])=G1 at *
   refine ⟨t,_,rfl,SqT.of e1,rfl,_,_,rfl,_,_,rfl,rfl,?_⟩
   refine jR (σ':=[some (.ref wo),some (.str kind),some (.ref pt),some (.ref wy),some (.ref ca),some (.ref wl),some (.int j),some y]) rfl ?_
   have k1:∀ b o,b≠ml→H b=some o→G1 b=some o:=fun b o hb e=>s1 _ _ (kG b o hb e)
   have hG1:=s1 _ _ hG
   refine ⟨_,rfl,wo,CW,dx,_,_,rfl,k1 _ _ nwo hwo,T.c,T.n3,rfl,.inl ⟨rfl,_,SqL.of hG1⟩,?_⟩
   refine ⟨_,rfl,wo,CW,dx,_,_,rfl,k1 _ _ nwo hwo,T.c,T.n1,rfl,_,rfl,_,rfl,_,rfl,_,rfl,wl,us,rfl,.inl (SqL.of (k1 _ _ nwl hwl)),fun nl hnl=>?_⟩
   have s2:=jf hnl (.lst us)
   have e2:upd G1 nl (.lst us) nl=some (.lst us):=jb
   generalize upd G1 nl (.lst us)=G2 at *
   refine ⟨_,rfl,sm rfl,fun t2 ht2=>?_⟩
   have s3:=jf ht2 (.tup [V.str f,.str kind,.ref pt,.int j,.ref nl,y])
   have e3:upd G2 t2 (.tup [V.str f,.str kind,.ref pt,.int j,.ref nl,y]) t2=some (.tup [V.str f,.str kind,.ref pt,.int j,.ref nl,y]):=jb
   generalize upd G2 t2 (.tup [V.str f,.str kind,.ref pt,.int j,.ref nl,y])=G3 at *
   have s13:=s1.trans (s2.trans s3)
   have hG3:=s13 _ _ hG
   have k3:∀ b o,b≠ml→H b=some o→G3 b=some o:=fun b o hb e=>s13 _ _ (kG b o hb e)
   have nnl:nl≠ml:=fun z=>by rw [z,hG1] at hnl;cases hnl
   have freeH:∀ b,b≠ml→G1 b=none→H b=none:=fun b hb hz=>by
    rcases hh:H b with _ | o
    ·rfl
    ·rw [k1 b o hb hh] at hz;cases hz
   refine ⟨ml,_,_,rfl,rfl,hG3,jv (by rw [List.length_append];omega),?_⟩
   have k4:∀ b o,b≠ml→G3 b=some o→upd G3 ml (.lst (ms++ms'++[.ref t2])) b=some o:=fun b o hb e=>by rw [jr hb];exact e
   have hmlw:ml ∉ wls:=fun z=>by have:=hnew _ z;rw [hml] at this;cases this
   refine ⟨_,_,ms'++[.ref t2],wls++[nl],rfl,fun b o hb e=>k4 b o hb (k3 b o hb e),by rw [jb,List.append_assoc],by rw [List.length_append,lms'];rfl,?_,?_,?_⟩
   ·rw [yd f kind path way hj,← List.append_assoc]
    refine DutsAt.app (DutsAt.keep (fun b o hb e=>k4 b o hb (s13 _ _ e)) hG hD hmlw) ⟨?_,trivial⟩
    refine DuAt.keep k4 hG3 ?_ nnl
    exact ⟨t2,pt,us,y,rfl,e3,k3 _ _ npt hpt,s3 _ _ e2,(tk0 k3).heldL hway,(tk0 k3).held hyH⟩
   ·refine List.nodup_append.mpr ⟨hnd,by simp,fun a ha b hb=>?_⟩
    rw [List.mem_singleton.mp hb]
    rintro rfl
    have:G1 a≠none:=qg (DutsAt.keep (G:=G) (G':=G1) (ml:=ml) (fun b o _ e=>s1 b o e) hG hD hmlw) a ha
    exact this hnl
   ·intro x hx
    rcases List.mem_append.mp hx with hx | hx
    ·exact hnew x hx
    ·rw [List.mem_singleton.mp hx]
     exact freeH nl nnl hnl
  ·rintro σ G ⟨u6,u7,ms',wls,rfl,kG,hG,_,hD,hnd,hnew⟩
   rw [← ncl,List.take_length] at hD
   exact ⟨_,_,_,ms',wls,rfl,kG,hG,hD,hnd,hnew⟩
 ·rintro σ G ⟨u5,u6,u7,ms',wls,rfl,kG,hG,hD,hnd,hnew⟩
  rw [List.length_map,lwa,List.take_length] at hD
  exact q ms' wls G kG hG hD hnd hnew
end
abbrev jaJ:Stmt:=top 14
abbrev zn:Stmt:=top 15
abbrev qX:Stmt:=top 16
abbrev zm:Stmt:=top 17
def Tm.say (N:Str→Str):Tm→Tm
 | .is x=>.is (N x)
 | .at_ r x d=>.at_ (N r) (N x) d
def Bd.say (N:Str→Str):Bd→Bd
 | .is x=>.is (N x)
 | .row x=>.row (N x)
def Cl.say (N:Str→Str):Cl→Cl
 | .least a b c=>.least (a.say N) (b.say N) c
 | .each t td u ud r way b c=>.each (N t) td (N u) ud (N r) way (b.say N) c
 | .rise t td u ud r=>.rise (N t) td (N u) ud (N r)
theorem jp {H:Hp} {t:Addr} {ds:List D} {xs:List V} (h:H t=some (.tup xs)) (h1:HeldL H ds xs):Held H (.tup ds) (.ref t):=by
 unfold Held
 exact ⟨t,_,rfl,h,h1⟩
structure NmOk (kvs:List (Key×V)) (N:Str→Str):Prop where
 e:N "" = ""
 g:∀ x:Str,x≠""→(kP kvs (Sum.inr x)).getD (.str x)=.str (N x)
def qW:Sp:=fun vs H Q _=>∃ (x:Str) (m:Addr) (kvs:List (Key×V)) (N:Str→Str),vs=[.str x,.ref m]∧H m=some (.dK kvs)∧NmOk kvs N∧Q (.str (N x)) H
def zi:Sp:=fun vs H Q _=>∃ (v:V) (x:Str) (d:Int) (m:Addr) (kvs:List (Key×V)) (N:Str→Str),vs=[v,.ref m]∧Held H (plD x d) v∧H m=some (.dK kvs)∧NmOk kvs N∧∀ r H',Same H H'→Held H' (plD (N x) d) r→Q r H'
def Jg:Sp:=fun vs H Q _=>∃ (v:V) (p:Tm) (m:Addr) (kvs:List (Key×V)) (N:Str→Str),vs=[v,.ref m]∧Held H p.toD v∧H m=some (.dK kvs)∧NmOk kvs N∧∀ r H',Same H H'→Held H' (p.say N).toD r→Q r H'
def jcx:Sp:=fun vs H Q _=>∃ (v:V) (p:Cl) (m:Addr) (kvs:List (Key×V)) (N:Str→Str),vs=[v,.ref m]∧Held H p.toD v∧H m=some (.dK kvs)∧NmOk kvs N∧∀ r H',Same H H'→Held H' (p.say N).toD r→Q r H'
section
variable {P:Program} {w:World} {K:W.Frag} {mg:Str→Option Value} {base:Heap}
theorem Yu {f:Addr} {fd:FuncData} (F:Fun K "name_said" "name_said" zn f fd):FnOk P w K mg base CX0 1 f fd ["name","names"] qW:=by
 have sc:FnScope ["name","names"] ["name","names"] (js zn):=fQ
 refine F.okZ sc (fun vs H Q E h=>?_) (fun cdv A outer s H vs Q E hr h=>?_)
 ·obtain ⟨x,m,kvs,N,rfl,_⟩:=h
  rfl
 obtain ⟨x,m,kvs,N,rfl,hm,o,q⟩:=h
 have hu:=jaW hr
 refine ⟨_,(jg (jL (jz jY (zpv 0) jo (jH _)) (ji (jw jo)) jD)
   (ji (jw (Kr hu (zpv 1) (zpv 0) (zpv 0) ⟨rfl,rfl,rfl,rfl⟩)))),?_⟩
 refine ⟨_,rfl,rfl,_,rfl,j3 (fun c=>?_) (fun c=>?_)⟩
 ·have c':x = "":=by
   have:=of_decide_eq_true c
   injection this
  subst c'
  rw [o.e] at q
  exact q
 ·refine ⟨_,rfl,m,rfl,.inl ⟨kvs,.inl hm⟩,_,rfl,_,rfl,_,DGet.k (k:=Sum.inr x) hm,?_⟩
  rw [o.g x fun z=>c (decide_eq_true (by rw [z]))]
  exact q
theorem Kl {f:Addr} {fd:FuncData} (F:Fun K "place_said" "place_said" qX f fd) (F_name_said:Fn P w K mg base 1 "name_said" ["name","names"] qW):FnOk P w K mg base CX0 2 f fd ["place","names"] zi:=by
 have sc:FnScope ["place","names","x","d"] ["place","names"] (js qX):=fQ
 refine F.okZ sc (fun vs H Q E h=>?_) (fun cdv A outer s H vs Q E hr h=>?_)
 ·obtain ⟨v,x,d,m,kvs,N,rfl,_⟩:=h
  rfl
 obtain ⟨v,x,d,m,kvs,N,rfl,hx,hm,o,q⟩:=h
 obtain ⟨a,rfl,ha⟩:=zt hx
 refine ⟨_,(jg (zh (zpv 0) (ko rfl (jA (jt (i:=2) sc.nd rfl oQ) (jA (jt (i:=3) sc.nd rfl oQ) j9))))
   (ji (jw (jy (ja (ju F_name_said hr (ja (zpv 2) (ja (zpv 1) jd))) (ja (zpv 3) jd)))))),?_⟩
 refine jR (σ':=[some (.ref a),some (.ref m),none,none]) rfl ?_
 refine ⟨_,rfl,a,_,rfl,SqT.of ha,rfl,_,_,rfl,_,_,rfl,rfl,?_⟩
 refine jR (σ':=[some (.ref a),some (.ref m),some (.str x),some (.int d)]) rfl ?_
 refine ⟨_,rfl,_,rfl,x,m,kvs,N,rfl,hm,o,_,rfl,sm rfl,fun r hr'=>?_⟩
 exact q _ _ (jf hr' _) (jp jb (jc jk (jc jU jl)))
theorem Ys {f:Addr} {fd:FuncData} (F:Fun K "term_said" "term_said" zm f fd) (F_name_said:Fn P w K mg base 1 "name_said" ["name","names"] qW) (F_place_said:Fn P w K mg base 2 "place_said" ["place","names"] zi):FnOk P w K mg base CX0 3 f fd ["term","names"] Jg:=by
 have sc:FnScope ["term","names"] ["term","names"] (js zm):=fQ
 refine F.okZ sc (fun vs H Q E h=>?_) (fun cdv A outer s H vs Q E hr h=>?_)
 ·obtain ⟨x,p,m,kvs,N,rfl,_⟩:=h
  rfl
 obtain ⟨v,p,m,kvs,N,rfl,hx,hm,o,q⟩:=h
 refine ⟨_,(jg (jL (jz jY (jj jq (zpv 0) je (fun _ _=>rfl)) jo (jH _)) (ji (jw (jy (ja jo (ja (ju F_name_said hr (ja (jj jq (zpv 0) je (fun _ _=>rfl)) (ja (zpv 1) jd))) jd))))) jD)
   (ji (jw (jy (ja jo (ja (ju F_name_said hr (ja (jj jq (zpv 0) je (fun _ _=>rfl)) (ja (zpv 1) jd))) (ja (ju F_place_said hr (ja (jj jq (zpv 0) je (fun _ _=>rfl)) (ja (zpv 1) jd))) jd))))))),?_⟩
 refine jR (σ':=[some v,some (.ref m)]) rfl ?_
 cases p with
 | is y=>
  obtain ⟨a,rfl,ha⟩:=qo hx
  refine ⟨_,rfl,a,_,_,_,rfl,rfl,SqT.of ha,rfl,rfl,_,rfl,j3 (fun _=>?_) (fun d=>absurd (decide_eq_true rfl) d)⟩
  refine ⟨_,rfl,a,_,_,_,rfl,rfl,SqT.of ha,rfl,_,rfl,y,m,kvs,N,rfl,hm,o,sm rfl,fun r hr'=>?_⟩
  exact q _ _ (jf hr' _) (jp jb (jc jk (jc jk jl)))
 | at_ r x d=>
  obtain ⟨a,b,rfl,ha,hb⟩:=jah hx
  refine ⟨_,rfl,a,_,_,_,rfl,rfl,SqT.of ha,rfl,rfl,_,rfl,j3 (fun d=>absurd (of_decide_eq_true d) (by decide)) (fun _=>?_)⟩
  refine ⟨_,rfl,a,_,_,_,rfl,rfl,SqT.of ha,rfl,_,rfl,r,m,kvs,N,rfl,hm,o,_,rfl,a,_,_,_,rfl,rfl,SqT.of ha,rfl,_,rfl,.ref b,x,d,m,kvs,N,rfl,jp hb (jc jk (jc jU jl)),hm,o,fun u H1 s1 e4=>?_⟩
  refine ⟨sm rfl,fun z hz=>?_⟩
  exact q _ _ (s1.trans (jf hz _)) (jp jb (jc jk (jc jk (jc (e4.mono (jf hz _)) jl))))
theorem jeK {f:Addr} {fd:FuncData} (F:Fun K "said" "said" jaJ f fd) (F_name_said:Fn P w K mg base 1 "name_said" ["name","names"] qW) (F_place_said:Fn P w K mg base 2 "place_said" ["place","names"] zi)
  (F_term_said:Fn P w K mg base 3 "term_said" ["term","names"] Jg):FnOk P w K mg base CX0 4 f fd ["claim","names"] jcx:=by
 have sc:FnScope ["claim","names","a","b","c","t","u","r","way"] ["claim","names"] (js jaJ):=fQ
 refine F.okZ sc (fun vs H Q E h=>?_) (fun cdv A outer s H vs Q E hr h=>?_)
 ·obtain ⟨x,p,m,kvs,N,rfl,_⟩:=h
  rfl
 obtain ⟨v,p,m,kvs,N,rfl,hx,hm,o,q⟩:=h
 refine ⟨_,(jg (jL (jz jY (jj jq (zpv 0) je (fun _ _=>rfl)) jo (jH _)) (jg (zh (jV qR (zpv 0) (jO je) kq) (ko rfl (jA (jt (i:=2) sc.nd rfl oQ) (jA (jt (i:=3) sc.nd rfl oQ) (jA (jt (i:=4) sc.nd rfl oQ) j9)))))
   (ji (jw (jy (ja jo (ja (ju F_term_said hr (ja (zpv 2) (ja (zpv 1) jd))) (ja (ju F_term_said hr (ja (zpv 3) (ja (zpv 1) jd))) (ja (zpv 4) jd)))))))) jD)
   (jg (jx (i:=5) sc.nd rfl oQ (ju F_place_said hr (ja (jj jq (zpv 0) je (fun _ _=>rfl)) (ja (zpv 1) jd))))
   (jg (jx (i:=6) sc.nd rfl oQ (ju F_place_said hr (ja (jj jq (zpv 0) je (fun _ _=>rfl)) (ja (zpv 1) jd))))
   (jg (jx (i:=7) sc.nd rfl oQ (ju F_name_said hr (ja (jj jq (zpv 0) je (fun _ _=>rfl)) (ja (zpv 1) jd))))
   (jg (jL (jz jY (jj jq (zpv 0) je (fun _ _=>rfl)) jo (jH _)) (ji (jw (jy (ja jo (ja (zpv 5) (ja (zpv 6) (ja (zpv 7) jd))))))) jD)
   (jg (zh (jV qR (zpv 0) (jO je) kq) (ko rfl (jA (jt (i:=8) sc.nd rfl oQ) (jA (jt (i:=3) sc.nd rfl oQ) (jA (jt (i:=4) sc.nd rfl oQ) j9)))))
   (ji (jw (jy (ja jo (ja (zpv 5) (ja (zpv 6) (ja (zpv 7) (ja (zpv 8) (ja (jy (ja (jj jq (zpv 3) je (fun _ _=>rfl)) (ja (ju F_name_said hr (ja (jj jq (zpv 3) je (fun _ _=>rfl)) (ja (zpv 1) jd))) jd))) (ja (zpv 4) jd)))))))))))))))),?_⟩
 refine jR (σ':=[some v,some (.ref m),none,none,none,none,none,none,none]) rfl ?_
 cases p with
 | least ta tb c=>
  obtain ⟨a,va,vb,rfl,ha,h1,h2⟩:=yZ hx
  refine ⟨_,rfl,a,_,_,_,rfl,rfl,SqT.of ha,rfl,rfl,_,rfl,j3 (fun _=>?_) (fun d=>absurd (decide_eq_true rfl) d)⟩
  refine ⟨_,rfl,_,rfl,a,_,rfl,SqT.of ha,(fun h=>absurd h.1 (by show ¬ (HT.sIx 4 0 (some 1)=0);decide)),fun p hp=>?_⟩
  have s1:=jf hp (.tup (ki [V.str "least",va,vb,V.int c] (some 1) none))
  have y1:upd H p (.tup (ki [V.str "least",va,vb,V.int c] (some 1) none)) p=some (.tup [va,vb,V.int c]):=jb
  generalize upd H p (.tup (ki [V.str "least",va,vb,V.int c] (some 1) none))=H1 at *
  refine ⟨p,_,rfl,SqT.of y1,rfl,_,_,rfl,_,_,rfl,_,_,rfl,rfl,?_⟩
  refine jR (σ':=[some (.ref a),some (.ref m),some va,some vb,some (.int c),none,none,none,none]) rfl ?_
  refine ⟨_,rfl,_,rfl,va,ta,m,kvs,N,rfl,h1.mono s1,s1 _ _ hm,o,fun u H2 s2 g2=>?_⟩
  refine ⟨_,rfl,_,rfl,vb,tb,m,kvs,N,rfl,h2.mono (s1.trans s2),s2 _ _ (s1 _ _ hm),o,fun u' H3 s3 g3=>?_⟩
  refine ⟨_,rfl,sm rfl,fun z hz=>?_⟩
  have s4:=jf hz (.tup [V.str "least",u,u',V.int c])
  exact q _ _ (s1.trans (s2.trans (s3.trans s4))) (jp jb (jc jk (jc (g2.mono (s3.trans s4)) (jc (g3.mono s4) (jc jU jl)))))
 | rise t td u ud r=>
  obtain ⟨a,at',au,rfl,ha,hta,hua⟩:=JR hx
  refine ⟨_,rfl,a,_,_,_,rfl,rfl,SqT.of ha,rfl,rfl,_,rfl,j3 (fun d=>absurd (of_decide_eq_true d) (by decide)) (fun _=>?_)⟩
  refine ⟨_,rfl,a,_,_,_,rfl,rfl,SqT.of ha,rfl,_,rfl,.ref at',t,td,m,kvs,N,rfl,jp hta (jc jk (jc jU jl)),hm,o,fun y2 H2 s2 g2=>?_⟩
  refine gQ ?_
  refine ⟨_,rfl,a,_,_,_,rfl,rfl,SqT.of (s2 _ _ ha),rfl,_,rfl,.ref au,u,ud,m,kvs,N,rfl,jp (s2 _ _ hua) (jc jk (jc jU jl)),s2 _ _ hm,o,fun y3 H3 s3 g3=>?_⟩
  refine gQ ?_
  refine ⟨_,rfl,a,_,_,_,rfl,rfl,SqT.of (s3 _ _ (s2 _ _ ha)),rfl,_,rfl,r,m,kvs,N,rfl,s3 _ _ (s2 _ _ hm),o,?_⟩
  refine gQ ?_
  refine ⟨_,rfl,a,_,_,_,rfl,rfl,SqT.of (s3 _ _ (s2 _ _ ha)),rfl,rfl,_,rfl,j3 (fun _=>?_) (fun d=>absurd (decide_eq_true rfl) d)⟩
  refine ⟨_,rfl,_,rfl,_,rfl,sm rfl,fun z hz=>?_⟩
  have s4:=jf hz (.tup [V.str "rise",y2,y3,V.str (N r)])
  exact q _ _ (s2.trans (s3.trans s4)) (jp jb (jc jk (jc (g2.mono (s3.trans s4)) (jc (g3.mono s4) (jc jk jl)))))
 | each t td u ud r way b c=>
  obtain ⟨a,at',au,ab,rfl,ha,hta,hua,hba⟩:=Zt hx
  obtain ⟨bk,bx,hba',hbs⟩:∃ bk bx:Str,H ab=some (.tup [.str bk,.str bx])∧(b.say N).toD=.tup [.str bk,.str (N bx)]:=by
   cases b with
   | is x=>exact ⟨_,_,hba,rfl⟩
   | row x=>exact ⟨_,_,hba,rfl⟩
  refine ⟨_,rfl,a,_,_,_,rfl,rfl,SqT.of ha,rfl,rfl,_,rfl,j3 (fun d=>absurd (of_decide_eq_true d) (by decide)) (fun _=>?_)⟩
  refine ⟨_,rfl,a,_,_,_,rfl,rfl,SqT.of ha,rfl,_,rfl,.ref at',t,td,m,kvs,N,rfl,jp hta (jc jk (jc jU jl)),hm,o,fun y2 H2 s2 g2=>?_⟩
  refine gQ ?_
  refine ⟨_,rfl,a,_,_,_,rfl,rfl,SqT.of (s2 _ _ ha),rfl,_,rfl,.ref au,u,ud,m,kvs,N,rfl,jp (s2 _ _ hua) (jc jk (jc jU jl)),s2 _ _ hm,o,fun y3 H3 s3 g3=>?_⟩
  refine gQ ?_
  have s23:=s2.trans s3
  refine ⟨_,rfl,a,_,_,_,rfl,rfl,SqT.of (s23 _ _ ha),rfl,_,rfl,r,m,kvs,N,rfl,s23 _ _ hm,o,?_⟩
  refine gQ ?_
  refine ⟨_,rfl,a,_,_,_,rfl,rfl,SqT.of (s23 _ _ ha),rfl,rfl,_,rfl,j3 (fun d=>absurd (of_decide_eq_true d) (by decide)) (fun _=>?_)⟩
  refine ⟨_,rfl,_,rfl,a,_,rfl,SqT.of (s23 _ _ ha),(fun h=>absurd h.1 (by show ¬ (HT.sIx 7 0 (some 4)=0);decide)),fun p hp=>?_⟩
  have s4:=jf hp (.tup (ki [V.str "each",.ref at',.ref au,.str r,.str way,.ref ab,V.int c] (some 4) none))
  have y1:upd H3 p (.tup (ki [V.str "each",.ref at',.ref au,.str r,.str way,.ref ab,V.int c] (some 4) none)) p=some (.tup [.str way,.ref ab,V.int c]):=jb
  generalize upd H3 p (.tup (ki [V.str "each",.ref at',.ref au,.str r,.str way,.ref ab,V.int c] (some 4) none))=H4 at *
  have s24:=s23.trans s4
  refine ⟨p,_,rfl,SqT.of y1,rfl,_,_,rfl,_,_,rfl,_,_,rfl,rfl,?_⟩
  refine gQ ?_
  refine ⟨_,rfl,_,rfl,_,rfl,_,rfl,_,rfl,ab,_,_,_,rfl,rfl,SqT.of (s24 _ _ hba'),rfl,_,rfl,ab,_,_,_,rfl,rfl,SqT.of (s24 _ _ hba'),rfl,_,rfl,bx,m,kvs,N,rfl,s24 _ _ hm,o,sm rfl,fun z1 hz1=>?_⟩
  have s5:=jf hz1 (.tup [V.str bk,.str (N bx)])
  have y5:upd H4 z1 (.tup [V.str bk,.str (N bx)]) z1=some (.tup [V.str bk,.str (N bx)]):=jb
  generalize upd H4 z1 (.tup [V.str bk,.str (N bx)])=H5 at *
  refine ⟨_,rfl,sm rfl,fun z hz=>?_⟩
  have s6:=jf hz (.tup [V.str "each",y2,y3,V.str (N r),.str way,.ref z1,.int c])
  refine q _ _ (s24.trans (s5.trans s6)) (jp jb (jc jk (jc (g2.mono (s3.trans (s4.trans (s5.trans s6)))) (jc (g3.mono (s4.trans (s5.trans s6))) (jc jk (jc jk (jc ?_ (jc jU jl))))))))
  rw [hbs]
  exact jp (s6 _ _ y5) (jc jk (jc jk jl))
end
end LW
namespace PySem
section
variable {prog:Program} {w:World} {A:Around} {E:Value→Shared→Prop} {s:Shared}
theorem YU {z TI TO i1 i2 l1 l2 T:Addr} {oT:Obj} {bb:Bool} {k1 k2:Nat} {xs ys:Array Value} {x y:Value} {Q:Value→Shared→Prop}
  (n1:i1≠z) (n2:i2≠z) (n12:i1≠i2) (m1:l1≠z) (m2:l2≠z) (m21:l2≠i1) (nTz:T≠z) (nTI:TI≠z)
  (hz:kU s.heap z TI TO (rawInt T) bb) (hT:s.heap.get? T=some oT) (hTI:IsPair s.heap TI (.ref i1) (.ref i2))
  (h1:s.heap.IsTupleIter i1 l1 k1) (h2L:s.heap.IsTupleIter i2 l2 k2) (hl1:s.heap.IsTuple l1 xs) (hl2:s.heap.IsTuple l2 ys) (hx:xs[k1]?=some x) (hy:ys[k2]?=some y)
  (hQ:∀ h',kU h' z TI TO (rawInt T) true→h'.IsTupleIter i1 l1 (k1+1)→h'.IsTupleIter i2 l2 (k2+1)→IsPair h' s.heap.objs.size x y→h'.objs.size=s.heap.objs.size+1→
   (∀ c o,c≠z→c≠i1→c≠i2→s.heap.get? c=some o→h'.get? c=some o)→Q (.ref s.heap.objs.size) { s with heap:=h' }) :
  wpAny (model prog w) A (Builtin.«zip.__next__» ⟨[.ref z],[]⟩) (fun fin s'=>∃ v,fin=.done (.ret v)∧Q v s') E s:=by
 show wpAny _ _ (field (.ref z) 2 >>= _) _ _ _
 refine wpAny_bind (wpAny_field hz rfl (x:=.bool false) rfl ?_)
 show wpAny _ _ (field (.ref z) 3 >>= _) _ _ _
 refine wpAny_bind (wpAny_field hz rfl (x:=.ref TI) rfl ?_)
 refine wpAny_bind (wpAny_seqItems hTI rfl ?_)
 show wpAny _ _ (Builtin.SmallTypes.ownedTupleIsFree (.ref z) >>= _) _ _ _
 refine wpAny_bind ?_
 unfold Builtin.SmallTypes.ownedTupleIsFree
 refine wpAny_bind (wpAny_field hz rfl (x:=rawInt T) rfl ?_)
 show wpAny _ _ (loadIfAlive ((T:Int).toNat) >>= _) _ _ _
 rw [Int.toNat_natCast]
 refine wpAny_bind (W.kdx_alive hT ?_)
 simp only [Option.isNone_some,Bool.false_eq_true,if_false]
 refine wpAny_bind (wpAny_field hz rfl (x:=.bool bb) rfl ?_)
 cases bb with
 | true=>
  rw [if_neg (show ¬ ((Value.bool true != Value.bool true)=true) from Bool.false_ne_true)]
  refine wpAny_pure ?_
  simp only [Bool.false_eq_true,if_false,← Array.forIn_toList,List.forIn_cons,List.forIn_nil]
  refine wpAny_bind (wpAny_bind (wpAny_bind (wpAny_holding ?_)))
  show wpAny _ _ (Builtin.SmallTypes.nextOf (.ref i1) >>= _) _ _ _
  refine wpAny_bind (kL (h1) (hl1) hx fun h2 t2 b2=>wpAny_pure (wpAny_pure ?_))
  dsimp only
  refine wpAny_bind (wpAny_bind (wpAny_holding ?_))
  show wpAny _ _ (Builtin.SmallTypes.nextOf (.ref i2) >>= _) _ _ _
  refine wpAny_bind (kL (h2L.extBut b2.extBut n12.symm) (hl2.extBut b2.extBut m21) hy fun h3 t3 b3=>wpAny_pure (wpAny_pure (wpAny_pure ?_)))
  dsimp only
  refine wpAny_bind (wpAny_newTuple (hsz:=by show 2≤sizeLine;decide) (wpAny_pure ⟨_,rfl,?_⟩))
  have sz:h3.objs.size=s.heap.objs.size:=by rw [b3.1,b2.1]
  show Q (.ref h3.objs.size) _
  have hzz:kU h3 z TI TO (rawInt T) true:=b3.extBut _ _ n2.symm (b2.extBut _ _ n1.symm hz)
  have kk:∀ c o,c≠z→c≠i1→c≠i2→s.heap.get? c=some o→h3.get? c=some o:=fun c o c1 c2 c3 e=>b3.extBut _ _ c3 (b2.extBut _ _ c2 (e))
  have t2':h3.IsTupleIter i1 l1 (k1+1):=t2.extBut b3.extBut n12
  have pp:∀ c o,h3.get? c=some o→(h3.push { cls:=.type "tuple",data:=.seq #[x,y] }).get? c=some o:=fun c o e=>Heap.get?_push_of_some _ e
  have np:IsPair (h3.push { cls:=.type "tuple",data:=.seq #[x,y] }) h3.objs.size x y:=Heap.get?_push_size _ rfl
  have zp:(h3.push { cls:=.type "tuple",data:=.seq #[x,y] }).objs.size=s.heap.objs.size+1:=by rw [Heap.size_push,sz]
  rw [sz] at np ⊢
  exact hQ _ (pp _ _ hzz) (t2'.at fun o e=>pp _ o e) (t3.at fun o e=>pp _ o e) np zp fun c o c1 c2 c3 e=>pp _ _ (kk c o c1 c2 c3 e)
 | false=>
  rw [if_pos (show (Value.bool false != Value.bool true)=true from rfl)]
  refine wpAny_bind (wpAny_setField_rec hz (by simp) fun h1' e1 b1=>?_)
  replace b1:Heap.SameBut z s.heap h1':=b1
  replace e1:kU h1' z TI TO (rawInt T) true:=e1
  refine wpAny_pure ?_
  simp only [Bool.false_eq_true,if_false,← Array.forIn_toList,List.forIn_cons,List.forIn_nil]
  refine wpAny_bind (wpAny_bind (wpAny_bind (wpAny_holding ?_)))
  show wpAny _ _ (Builtin.SmallTypes.nextOf (.ref i1) >>= _) _ _ _
  refine wpAny_bind (kL (h1.extBut b1.extBut n1) (hl1.extBut b1.extBut m1) hx fun h2 t2 b2=>wpAny_pure (wpAny_pure ?_))
  dsimp only
  refine wpAny_bind (wpAny_bind (wpAny_holding ?_))
  show wpAny _ _ (Builtin.SmallTypes.nextOf (.ref i2) >>= _) _ _ _
  refine wpAny_bind (kL ((h2L.extBut b1.extBut n2).extBut b2.extBut n12.symm) ((hl2.extBut b1.extBut m2).extBut b2.extBut m21) hy fun h3 t3 b3=>wpAny_pure (wpAny_pure (wpAny_pure ?_)))
  dsimp only
  refine wpAny_bind (wpAny_newTuple (hsz:=by show 2≤sizeLine;decide) (wpAny_pure ⟨_,rfl,?_⟩))
  have sz:h3.objs.size=s.heap.objs.size:=by rw [b3.1,b2.1,b1.1]
  show Q (.ref h3.objs.size) _
  have hzz:kU h3 z TI TO (rawInt T) true:=b3.extBut _ _ n2.symm (b2.extBut _ _ n1.symm e1)
  have kk:∀ c o,c≠z→c≠i1→c≠i2→s.heap.get? c=some o→h3.get? c=some o:=fun c o c1 c2 c3 e=>b3.extBut _ _ c3 (b2.extBut _ _ c2 (b1.extBut _ _ c1 e))
  have t2':h3.IsTupleIter i1 l1 (k1+1):=t2.extBut b3.extBut n12
  have pp:∀ c o,h3.get? c=some o→(h3.push { cls:=.type "tuple",data:=.seq #[x,y] }).get? c=some o:=fun c o e=>Heap.get?_push_of_some _ e
  have np:IsPair (h3.push { cls:=.type "tuple",data:=.seq #[x,y] }) h3.objs.size x y:=Heap.get?_push_size _ rfl
  have zp:(h3.push { cls:=.type "tuple",data:=.seq #[x,y] }).objs.size=s.heap.objs.size+1:=by rw [Heap.size_push,sz]
  rw [sz] at np ⊢
  exact hQ _ (pp _ _ hzz) (t2'.at fun o e=>pp _ o e) (t3.at fun o e=>pp _ o e) np zp fun c o c1 c2 c3 e=>pp _ _ (kk c o c1 c2 c3 e)
theorem YV {z TI TO i1 i2 l1 l2:Addr} {k1 k2:Nat} {xs ys:Array Value} {x y a b:Value} {Q:Value→Shared→Prop} (D:ZipApart z TI TO i1 i2 l1 l2)
  (hz:IsZip s.heap z TI TO .none) (hTI:IsPair s.heap TI (.ref i1) (.ref i2)) (hTO:IsPair s.heap TO a b)
  (h1:s.heap.IsTupleIter i1 l1 k1) (h2:s.heap.IsTupleIter i2 l2 k2) (hl1:s.heap.IsTuple l1 xs) (hl2:s.heap.IsTuple l2 ys) (hx:xs[k1]?=some x) (hy:ys[k2]?=some y)
  (hQ:∀ h',kU h' z TI TO (rawInt s.heap.objs.size) false→h'.IsTupleIter i1 l1 (k1+1)→h'.IsTupleIter i2 l2 (k2+1)→IsPair h' s.heap.objs.size x y→h'.objs.size=s.heap.objs.size+1→
   (∀ c o,c≠z→c≠TO→c≠i1→c≠i2→s.heap.get? c=some o→h'.get? c=some o)→Q (.ref s.heap.objs.size) { s with heap:=h' }) :
  wpAny (model prog w) A (Builtin.«zip.__next__» ⟨[.ref z],[]⟩) (fun fin s'=>∃ v,fin=.done (.ret v)∧Q v s') E s:=by
 show wpAny _ _ (field (.ref z) 2 >>= _) _ _ _
 refine wpAny_bind (wpAny_field hz rfl (x:=.bool false) rfl ?_)
 show wpAny _ _ (field (.ref z) 3 >>= _) _ _ _
 refine wpAny_bind (wpAny_field hz rfl (x:=.ref TI) rfl ?_)
 refine wpAny_bind (wpAny_seqItems hTI rfl ?_)
 show wpAny _ _ (Builtin.SmallTypes.ownedTupleIsFree (.ref z) >>= _) _ _ _
 refine wpAny_bind ?_
 unfold Builtin.SmallTypes.ownedTupleIsFree
 refine wpAny_bind (wpAny_field hz rfl (x:=.none) rfl (wpAny_pure ?_))
 simp only [if_true]
 refine wpAny_bind (wpAny_rule ?_)
 refine wpAny_bind (wpAny_field hz rfl (x:=.ref TO) rfl ?_)
 refine wpAny_bind (wpAny_setField_rec hz (by simp) fun g1 z1 b1=>?_)
 replace z1:IsZip g1 z TI TO .ellipsis:=z1
 refine wpAny_bind ?_
 simp only [List.zipIdx_cons,List.zipIdx_nil,List.forIn_cons,List.forIn_nil]
 refine wpAny_bind (wpAny_bind (wpAny_onRaise ?_))
 show wpAny _ _ (Builtin.SmallTypes.nextOf (.ref i1) >>= _) _ _ _
 refine wpAny_bind (kL (h1.extBut b1.extBut D.i1z) (hl1.extBut b1.extBut D.l1z) hx fun g2 t2 b2=>wpAny_pure ?_)
 have o2:IsPair g2 TO a b:=b2.extBut _ _ D.TOi1 (b1.extBut _ _ D.TOz hTO)
 refine wpAny_bind (wpAny_seqItems o2 rfl ?_)
 refine wpAny_bind (wpAny_updateSeq_pair o2 fun g3 o3 b3=>?_)
 replace o3:IsPair g3 TO x b:=o3
 refine wpAny_bind (wpAny_letGo (wpAny_pure ?_))
 refine wpAny_bind (wpAny_bind (wpAny_onRaise ?_))
 show wpAny _ _ (Builtin.SmallTypes.nextOf (.ref i2) >>= _) _ _ _
 refine wpAny_bind (kL (((h2.extBut b1.extBut D.i2z).extBut b2.extBut D.i12.symm).extBut b3.extBut D.TOi2.symm) (((hl2.extBut b1.extBut D.l2z).extBut b2.extBut D.l2i1).extBut b3.extBut D.l2TO) hy fun g4 t4 b4=>wpAny_pure ?_)
 have o4:IsPair g4 TO x b:=b4.extBut _ _ D.TOi2 o3
 refine wpAny_bind (wpAny_seqItems o4 rfl ?_)
 refine wpAny_bind (wpAny_updateSeq_pair o4 fun g5 o5 b5=>?_)
 replace o5:IsPair g5 TO x y:=o5
 refine wpAny_bind (wpAny_letGo (wpAny_pure (wpAny_pure ?_)))
 refine wpAny_bind (wpAny_seqItems o5 rfl ?_)
 refine wpAny_bind (wpAny_newTuple ?_)
 have sz:g5.objs.size=s.heap.objs.size:=by rw [b5.1,b4.1,b3.1,b2.1,b1.1]
 have z5:IsZip g5 z TI TO .ellipsis:=b5.extBut _ _ D.TOz.symm (b4.extBut _ _ D.i2z.symm (b3.extBut _ _ D.TOz.symm (b2.extBut _ _ D.i1z.symm z1)))
 have k5:∀ c o,c≠z→c≠TO→c≠i1→c≠i2→s.heap.get? c=some o→g5.get? c=some o:=fun c o c1 c2 c3 c4 e=>b5.extBut _ _ c2 (b4.extBut _ _ c4 (b3.extBut _ _ c2 (b2.extBut _ _ c3 (b1.extBut _ _ c1 e))))
 have t2':g5.IsTupleIter i1 l1 (k1+1):=((t2.extBut b3.extBut D.TOi1.symm).extBut b4.extBut D.i12).extBut b5.extBut D.TOi1.symm
 have t4':g5.IsTupleIter i2 l2 (k2+1):=t4.extBut b5.extBut D.TOi2.symm
 have zlt:z < g5.objs.size:=Heap.lt_size z5
 show wpAny _ _ (Builtin.SmallTypes.ownedTupleHandOut (.ref z) (.ref g5.objs.size) >>= _) _ _ _
 refine wpAny_bind ?_
 unfold Builtin.SmallTypes.ownedTupleHandOut
 have z6:IsZip (g5.push { cls:=.type "tuple",data:=.seq #[x,y] }) z TI TO .ellipsis:=Heap.get?_push_of_some _ z5
 refine wpAny_bind (wpAny_setField_rec z6 (by simp) fun g7 z7 b7=>?_)
 replace z7:IsZip g7 z TI TO (rawInt g5.objs.size):=z7
 refine wpAny_setField_rec z7 (by simp) fun g8 z8 b8=>?_
 replace z8:kU g8 z TI TO (rawInt g5.objs.size) false:=z8
 have up:∀ c o,c≠z→g5.get? c=some o→g8.get? c=some o:=fun c o c1 e=>b8.extBut _ _ c1 (b7.extBut _ _ c1 (Heap.get?_push_of_some _ e))
 have p8:IsPair g8 g5.objs.size x y:=b8.extBut _ _ (Nat.ne_of_gt zlt) (b7.extBut _ _ (Nat.ne_of_gt zlt) (Heap.get?_push_size _ rfl))
 have s8:g8.objs.size=g5.objs.size+1:=by rw [b8.1,b7.1,Heap.size_push]
 rw [sz] at z8 p8 s8
 refine wpAny_pure ⟨_,rfl,?_⟩
 show Q (.ref g5.objs.size) _
 rw [sz]
 exact hQ g8 z8 (t2'.at fun o e=>up _ o D.i1z e) (t4'.at fun o e=>up _ o D.i2z e) p8 s8 fun c o c1 c2 c3 c4 e=>up c o c1 (k5 c o c1 c2 c3 c4 e)
end
abbrev jam (h:Heap) (l1:Addr):Heap:=h.push { cls:=.type "tuple_iterator",data:=.fields #[.ref l1,.int 0 0] }
abbrev jal (h:Heap) (l1 l2:Addr):Heap:=(jam h l1).push { cls:=.type "tuple_iterator",data:=.fields #[.ref l2,.int 0 0] }
abbrev jak (h:Heap) (l1 l2:Addr):Heap:=(jal h l1 l2).push { cls:=.type "tuple",data:=.seq #[.ref h.objs.size,.ref (jam h l1).objs.size] }
abbrev jaj (h:Heap) (l1 l2:Addr):Heap:=(jak h l1 l2).push { cls:=.type "tuple",data:=.seq #[.none,.none] }
abbrev Jw (h:Heap) (l1 l2:Addr):Heap:=(jaj h l1 l2).push { cls:=.type "zip",data:=.fields #[.none,.bool false,.bool false,.ref (jal h l1 l2).objs.size,.ref (jak h l1 l2).objs.size] }
theorem jbe (l1 l2:Addr) (xs ys:Array Value) :
  Meets (Builtin.«zip.__new__» ⟨[.type "zip",.ref l1,.ref l2],[]⟩) (fun _ R s=>s.heap.IsTuple l1 xs∧s.heap.IsTuple l2 ys∧R (.ok (.ret (.ref (jaj s.heap l1 l2).objs.size))) { s with heap:=Jw s.heap l1 l2 }):=
 .of_wp fun prog w A R s h=>by
  obtain ⟨hp,g,d,tk,os⟩:=s;obtain ⟨hl1,hl2,h⟩:=h
  have hsub:=sub_zip
  have hL1:Heap.IsTuple (Shared.heap ⟨hp,g,d,tk,os⟩) l1 xs:=hl1
  have hL2:Heap.IsTuple (Shared.heap ⟨hp.push { cls:=.type "tuple_iterator",data:=.fields #[.ref l1,.int 0 0] },g,d,tk,os⟩) l2 ys:=Heap.IsTuple.push hl2 _
  wp_walk using wpAny_pyIter_tuple hL1,wpAny_pyIter_tuple hL2
  exact ⟨_,rfl,h⟩
section
variable {prog:Program} {w:World} {A:Around} {E:Value→Shared→Prop} {s:Shared}
theorem Ke {l1 l2:Addr} {xs ys:Array Value} {Q:Value→Shared→Prop} (hl1:s.heap.IsTuple l1 xs) (hl2:s.heap.IsTuple l2 ys)
  (h:∀ h',IsZip h' (s.heap.objs.size+4) (s.heap.objs.size+2) (s.heap.objs.size+3) .none→IsPair h' (s.heap.objs.size+2) (.ref s.heap.objs.size) (.ref (s.heap.objs.size+1))→
   IsPair h' (s.heap.objs.size+3) .none .none→h'.IsTupleIter s.heap.objs.size l1 0→h'.IsTupleIter (s.heap.objs.size+1) l2 0→h'.objs.size=s.heap.objs.size+5→
   (∀ c o,s.heap.get? c=some o→h'.get? c=some o)→Q (.ref (s.heap.objs.size+4)) { s with heap:=h' }) :
  wpAny (model prog w) A (call (.type "zip") [.ref l1,.ref l2]) Q E s:=by
 refine callType_new F.called_zip (by decide) (F.typeCall_zip_2 _ _) (F.newCall_zip_2 _ _) (fun obj=>F.args_object_init_3 obj _ _) F.entry_zip_new (jbe l1 l2 xs ys) ⟨hl1,hl2,?_⟩
 have z1:(jam s.heap l1).objs.size=s.heap.objs.size+1:=Heap.size_push ..
 have z2:(jal s.heap l1 l2).objs.size=s.heap.objs.size+2:=by rw [Heap.size_push,z1]
 have z3:(jak s.heap l1 l2).objs.size=s.heap.objs.size+3:=by rw [Heap.size_push,z2]
 have z4:(jaj s.heap l1 l2).objs.size=s.heap.objs.size+4:=by rw [Heap.size_push,z3]
 have z5:(Jw s.heap l1 l2).objs.size=s.heap.objs.size+5:=by rw [Heap.size_push,z4]
 have up:∀ (h:Heap) (o:Obj) c u,h.get? c=some u→(h.push o).get? c=some u:=fun h o c u e=>Heap.get?_push_of_some _ e
 have g5:(Jw s.heap l1 l2).get? (jaj s.heap l1 l2).objs.size=some _:=Heap.get?_push_size _ rfl
 have g4:(Jw s.heap l1 l2).get? (jak s.heap l1 l2).objs.size=some _:=up _ _ _ _ (Heap.get?_push_size _ rfl)
 have g3:(Jw s.heap l1 l2).get? (jal s.heap l1 l2).objs.size=some _:=up _ _ _ _ (up _ _ _ _ (Heap.get?_push_size _ rfl))
 have g2:(Jw s.heap l1 l2).get? (jam s.heap l1).objs.size=some _:=up _ _ _ _ (up _ _ _ _ (up _ _ _ _ (Heap.get?_push_size _ rfl)))
 have g1:(Jw s.heap l1 l2).get? s.heap.objs.size=some _:=up _ _ _ _ (up _ _ _ _ (up _ _ _ _ (up _ _ _ _ (Heap.get?_push_size _ rfl))))
 show _∧_
 rw [z2,z3,z4] at g5
 rw [z1,z2] at g3
 rw [z3] at g4
 rw [z1] at g2
 rw [z4]
 exact ⟨⟨_,g5,rfl⟩,h _ g5 g3 g4 ⟨_,g1,rfl,rfl⟩ ⟨_,g2,rfl,rfl⟩ z5 fun c o x=>up _ _ _ _ (up _ _ _ _ (up _ _ _ _ (up _ _ _ _ (up _ _ _ _ x))))⟩
end
structure ZipSt2 (h:Heap) (z TI TO i1 i2 l1 l2:Addr) (i:Nat):Prop where
 ti:IsPair h TI (.ref i1) (.ref i2)
 a:h.IsTupleIter i1 l1 i
 b:h.IsTupleIter i2 l2 i
 c:(IsZip h z TI TO .none∧∃ a b,IsPair h TO a b)∨∃ (T:Addr) (oT:Obj) (bb:Bool),kU h z TI TO (rawInt T) bb∧h.get? T=some oT∧T≠z∧T≠i1∧T≠i2
section
variable {prog:Program} {w:World} {A:Around} {E:Value→Shared→Prop} {s:Shared}
theorem ZG {z TI TO i1 i2 l1 l2:Addr} {i:Nat} {xs ys:Array Value} {x y:Value} {Q:Option Value→Shared→Prop} (D:ZipApart z TI TO i1 i2 l1 l2) (Z:ZipSt2 s.heap z TI TO i1 i2 l1 l2 i) (hl1:s.heap.IsTuple l1 xs) (hl2:s.heap.IsTuple l2 ys) (hx:xs[i]?=some x) (hy:ys[i]?=some y)
  (hQ:∀ h',ZipSt2 h' z TI TO i1 i2 l1 l2 (i+1)→IsPair h' s.heap.objs.size x y→(∀ c o,c≠z→c≠TO→c≠i1→c≠i2→s.heap.get? c=some o→h'.get? c=some o)→Q (some (.ref s.heap.objs.size)) { s with heap:=h' }) :
  wpAny (model prog w) A (pyNext (.ref z)) Q E s:=by
 have lt:∀ {c o},s.heap.get? c=some o→s.heap.objs.size≠c:=fun e=>Nat.ne_of_gt (Heap.lt_size e)
 have l1':s.heap.objs.size≠i1:=by obtain ⟨_,e,_⟩:=Z.a;exact lt e
 have l2':s.heap.objs.size≠i2:=by obtain ⟨_,e,_⟩:=Z.b;exact lt e
 rcases Z.c with ⟨hz,a,b,hTO⟩ | ⟨T,oT,bb,hz,hT,t1,t2,t3⟩
 ·have hT:s.TypeIs (.ref z) "zip":=⟨_,hz,rfl⟩
  unfold pyNext
  refine wpAny_bind (wpAny_attempt (wpAny_callSpecial?_slot (name:=Str.ofString "__next__") hT F.slot_zip_next (wpAny_call_entry F.slot_zip_next hT F.entry_zip_next ?_ (F.args_zip_next_1 _))))
  exact YV D hz Z.ti hTO Z.a Z.b hl1 hl2 hx hy fun h' a1 a2 a3 a4 a5 k=>wpAny_pure (hQ h' ⟨k _ _ D.TIz D.TITO D.TIi1 D.TIi2 Z.ti,a2,a3,.inr ⟨_,_,false,a1,a4,lt hz,l1',l2'⟩⟩ a4 k)
 ·have hT':s.TypeIs (.ref z) "zip":=⟨_,hz,rfl⟩
  unfold pyNext
  refine wpAny_bind (wpAny_attempt (wpAny_callSpecial?_slot (name:=Str.ofString "__next__") hT' F.slot_zip_next (wpAny_call_entry F.slot_zip_next hT' F.entry_zip_next ?_ (F.args_zip_next_1 _))))
  exact YU D.i1z D.i2z D.i12 D.l1z D.l2z D.l2i1 t1 D.TIz hz hT Z.ti Z.a Z.b hl1 hl2 hx hy fun h' a1 a2 a3 a4 a5 k=>wpAny_pure (hQ h' ⟨k _ _ D.TIz D.TIi1 D.TIi2 Z.ti,a2,a3,.inr ⟨T,oT,true,a1,k _ _ t1 t2 t3 hT,t1,t2,t3⟩⟩ a4 fun c o c1 _ c3 c4 e=>k c o c1 c3 c4 e)
theorem jbf {z TI TO i1 i2 l1 l2:Addr} {i:Nat} {xs:Array Value} {Q:Option Value→Shared→Prop} (hh:A.handled=none) (D:ZipApart z TI TO i1 i2 l1 l2) (Z:ZipSt2 s.heap z TI TO i1 i2 l1 l2 i) (hl1:s.heap.IsTuple l1 xs) (hx:xs[i]?=none)
  (hQ:∀ h',(∀ c o,c≠z→c≠i1→s.heap.get? c=some o→h'.get? c=some o)→Q none { s with heap:=h' }):wpAny (model prog w) A (pyNext (.ref z)) Q E s:=by
 have hT':s.TypeIs (.ref z) "zip":=by
  rcases Z.c with ⟨hz,_⟩ | ⟨T,oT,bb,hz,_⟩
  ·exact ⟨_,hz,rfl⟩
  ·exact ⟨_,hz,rfl⟩
 unfold pyNext
 refine wpAny_bind (wpAny_attempt (wpAny_callSpecial?_slot (name:=Str.ofString "__next__") hT' F.slot_zip_next (wpAny_call_entry F.slot_zip_next hT' F.entry_zip_next ?_ (F.args_zip_next_1 _))))
 rcases Z.c with ⟨hz,_⟩ | ⟨T,oT,bb,hz,hT,t1,t2,t3⟩
 ·refine yk hh D.i1z D.l1z hz Z.ti Z.a hl1 hx fun h' e k he=>?_
  obtain ⟨o,ho,hc⟩:=he
  refine wpAny_bind (wpAny_isInstance (T:="StopIteration") (b:=true) ⟨o,ho,hc⟩ isSubtype_stop ?_)
  exact wpAny_pure (hQ _ k)
 ·refine Jz hh D.i1z D.l1z hz hT Z.ti Z.a hl1 hx fun h' e k he=>?_
  obtain ⟨o,ho,hc⟩:=he
  refine wpAny_bind (wpAny_isInstance (T:="StopIteration") (b:=true) ⟨o,ho,hc⟩ isSubtype_stop ?_)
  exact wpAny_pure (hQ _ k)
end
end PySem
namespace L2
open PySem PySem.Spec PyProof.Rows PySem.W
theorem ZipSt2.keepD {h h':Heap} {z TI TO i1 i2 l1 l2 d:Addr} {i:Nat} (Z:ZipSt2 h z TI TO i1 i2 l1 l2 i) (nTI:TI≠d) (n1:i1≠d) (n2:i2≠d) (nz:z≠d) (nTO:TO≠d) (hd:∃ o,h'.get? d=some o) (k:∀ b o,b≠d→h.get? b=some o→h'.get? b=some o):ZipSt2 h' z TI TO i1 i2 l1 l2 i:=by
 refine ⟨k _ _ nTI Z.ti,Z.a.at fun o e=>k _ o n1 e,Z.b.at fun o e=>k _ o n2 e,?_⟩
 rcases Z.c with ⟨hz,a,b,hTO⟩ | ⟨T,oT,bb,hz,hT,t1,t2,t3⟩
 ·exact .inl ⟨k _ _ nz hz,a,b,k _ _ nTO hTO⟩
 ·refine .inr ⟨T,?_⟩
  by_cases e:T=d
  ·obtain ⟨o,ho⟩:=hd
   exact ⟨o,bb,k _ _ nz hz,by rw [e];exact ho,t1,t2,t3⟩
  ·exact ⟨oT,bb,k _ _ nz hz,k _ _ e hT,t1,t2,t3⟩
section
variable {prog:Program} {w:World} {A:Around} {E:Value→Shared→Prop} {R:Result→Shared→Prop}
theorem ZJ {d z TI TO i1 i2 l1 l2:Addr} {xs ys:List Value} {names:List Str} {vs:List V} (hh:A.handled=none) (D:ZipApart z TI TO i1 i2 l1 l2) (nTI:TI≠d) (n1:i1≠d) (n2:i2≠d) (nz:z≠d) (nTO:TO≠d) (m1:l1≠d) (m2:l2≠d)
  (rx:Vals (names.map V.str) xs) (ry:Vals vs ys) (hl:names.length=vs.length) (nd:names.Nodup) (hz:names.length≤sizeLine) :
  ∀ (k i:Nat) (s:Shared) (acc:List (Key×Value)),i+k=names.length→ZipSt2 s.heap z TI TO i1 i2 l1 l2 i→s.heap.IsTuple l1 xs.toArray→s.heap.IsTuple l2 ys.toArray→s.heap.DictOf (j4 prog w) d acc→KV (zKV (names.take i) (vs.take i)) acc→
   (∀ h' tk acc',(∀ b o,b≠d→b≠z→b≠TO→b≠i1→b≠i2→s.heap.get? b=some o→h'.get? b=some o)→h'.DictOf (j4 prog w) d acc'→KV (zKV names vs) acc'→R (.ok (.ret .none)) { s with heap:=h',toks:=tk })→
   ∀ c:Int,codeAny (model prog w) A (.builtin "dict.update.loop" ⟨[.ref d,.ref z,rawInt c,.none],[]⟩) R s:=by
 intro k
 have lx:=rx.length
 have ly:=ry.length
 rw [List.length_map] at lx
 induction k with
 | zero=>
  intro i s acc hk Z ht hl2 hd hkv hR c
  have hin:i=names.length:=by omega
  refine codeAny_builtin zR ?_
  rw [Around.under_plainId qu _]
  show wpAny _ A.in1 (pyNext (.ref z) >>= _) _ _ s
  refine wpAny_bind (jbf (A:=A.in1) hh D Z ht (by simp;omega) fun h1 he1=>?_)
  show wpAny _ A.in1 (Builtin.Dict.addKeywords d [] >>= _) _ _ _
  refine wpAny_bind (wpAny_pure (wpAny_pure ?_))
  obtain ⟨o,es,ep,ho,x⟩:=hd
  subst hin
  rw [List.take_length,hl,List.take_length] at hkv
  exact hR h1 s.toks acc (fun b o _ b2 _ b4 _ e=>he1 b o b2 b4 e) ⟨o,es,ep,he1 d o (Ne.symm nz) (Ne.symm n1) ho,x⟩ hkv
 | succ k ih=>
  intro i s acc hk Z ht hl2 hd hkv hR c
  have hlt:i < names.length:=by omega
  have hxi:(names.map V.str)[i]?=some (.str names[i]):=by rw [List.getElem?_map,List.getElem?_eq_getElem hlt];rfl
  have hvi:vs[i]?=some (vs[i]'(by omega)):=List.getElem?_eq_getElem (by omega)
  obtain ⟨x,ex,rx'⟩:=rx.get hxi
  obtain ⟨y,ey,ry'⟩:=ry.get hvi
  refine codeAny_builtin zR ?_
  rw [Around.under_plainId qu _]
  show wpAny _ A.in1 (pyNext (.ref z) >>= _) _ _ s
  refine wpAny_bind (ZG D Z ht hl2 (x:=x) (y:=y) (by simpa using ex) (by simpa using ey) fun h1 Z1 hp1 k1=>?_)
  have ht1:h1.IsTuple l1 xs.toArray:=ht.at fun o e=>k1 _ o D.l1z D.l1TO D.l1i1 D.l1i2 e
  have hl21:h1.IsTuple l2 ys.toArray:=hl2.at fun o e=>k1 _ o D.l2z D.l2TO D.l2i1 D.l2i2 e
  have hd1:h1.DictOf (j4 prog w) d acc:=by
   obtain ⟨o,es,ep,ho,x⟩:=hd
   exact ⟨o,es,ep,k1 d o (Ne.symm nz) (Ne.symm nTO) (Ne.symm n1) (Ne.symm n2) ho,x⟩
  dsimp only
  refine wpAny_bind (wpAny_holding (wpAny_bind (wpAny_tryCatch (Y9 hp1 ?_))))
  dsimp only
  have hal:acc.length=i:=by
   have:=Paired.length hkv
   unfold zKV at this
   rw [List.length_map,List.length_zip,List.length_take,List.length_take] at this
   omega
  refine wpAny_holding (wpAny_dictSet_pairs (k:=(Sum.inr names[i]:Key)) (JX (k:=Sum.inr names[i]) rx') hd1 (fun h2 hd2 hs2=>?_) (by omega))
  refine wpAny_pure ⟨plainId_quiet qu _,?_⟩
  have hb2:∀ b o,b≠d→h1.get? b=some o→h2.get? b=some o:=fun b o hb e=>(hs2.2 b hb).trans e
  have fresh:(acc.any fun kv=>decide (kv.1=(Sum.inr names[i]:Key)))=false:=by
   rw [List.any_eq_false]
   intro kv hm
   have h1:kv.1∈acc.map (·.1):=List.mem_map.mpr ⟨kv,hm,rfl⟩
   rw [jeT hkv] at h1
   unfold zKV at h1
   rw [List.map_map] at h1
   obtain ⟨q,hq,e⟩:=List.mem_map.mp h1
   intro zz
   have z':kv.1=Sum.inr names[i]:=of_decide_eq_true zz
   rw [← e] at z'
   have hqi:q.1=names[i]:=Sum.inr.inj z'
   have hmem:names[i]∈names.take i:=by
    rw [← hqi]
    exact (List.of_mem_zip hq).1
   obtain ⟨j,hj,hje⟩:=List.mem_iff_getElem.mp hmem
   rw [List.length_take] at hj
   rw [List.getElem_take] at hje
   exact (List.pairwise_iff_getElem.mp nd) j i (by omega) hlt (by omega) hje
  have hst:stored acc (Sum.inr names[i]) y=acc++[((Sum.inr names[i]:Key),y)]:=by
   unfold stored
   rw [fresh,if_neg Bool.false_ne_true]
  rw [hst] at hd2
  have hkv2:KV (zKV (names.take (i+1)) (vs.take (i+1))) (acc++[((Sum.inr names[i]:Key),y)]):=by
   have e1:zKV (names.take (i+1)) (vs.take (i+1))=zKV (names.take i) (vs.take i)++[((Sum.inr names[i]:Key),vs[i]'(by omega))]:=by
    unfold zKV
    rw [List.take_succ,List.getElem?_eq_getElem hlt,List.take_succ,hvi,List.zip_append (by rw [List.length_take,List.length_take];omega),List.map_append]
    rfl
   rw [e1]
   exact jeS hkv ry'
  have hdx:∃ o,h2.get? d=some o:=by obtain ⟨o,es,ep,ho,_⟩:=hd2;exact ⟨o,ho⟩
  exact ih (i+1) { s with heap:=h2,toks:=_ } _ (by omega) (ZipSt2.keepD Z1 nTI n1 n2 nz nTO hdx hb2) (ht1.at fun o e=>hb2 _ o m1 e) (hl21.at fun o e=>hb2 _ o m2 e) hd2 hkv2 (fun h' tk acc' hk' hd' hkv'=>hR h' tk acc' (fun b o b1 b2 b3 b4 b5 e=>hk' b o b1 b2 b3 b4 b5 (hb2 b o b1 (k1 b o b2 b3 b4 b5 e))) hd' hkv') (c+1)
end
def jgq (K:W.Frag) (t:TA):TE:=fun σ H Q=>t σ H fun vs H1=>∃ (a b:Addr) (names:List Str) (ys:List V),vs=[.ref a,.ref b]∧SqT K H1 a (names.map V.str)∧SqT K H1 b ys∧names.length=ys.length∧names.Nodup∧names.length≤1000∧
 ∀ l:Addr,H1 l=none→Q (.ref l) (upd H1 l (.dK (zKV names ys)))
theorem jcV {X:Cx} {p pos p2 pos2:Pos} {e1 e2:Expr} {t:TA} (hc:X.calm=true) (hg:Gl X "dict") (hm:X.mg "dict" = none) (hv:bootBuiltins "dict" = some (.type "dict")) (hg2:Gl X "zip") (hm2:X.mg "zip" = none) (hv2:bootBuiltins "zip" = some (.type "zip")) (ha:PA X [e1,e2] t) (hp1:kn e1=true:=by rfl) (hp2:kn e2=true:=by rfl) :
  PE X (.Call (.Name "dict" p) [.Call (.Name "zip" p2) [e1,e2] [] pos2] [] pos) (jgq X.K t):=by
 intro pins s σ H Q I h
 refine wpAny_Call_Name_kw (zx I hg hm hv ?_)
 refine PyProof.Rows.callWith_type1 ?_ rfl rfl
 show wpAny _ _ (spliced [(false,eval (.Call (.Name "zip" p2) [e1,e2] [] pos2) X.env)]) _ _ s
 refine Calls.spliced_cons ?_
 refine wpAny_Call_Name_kw (zx I hg2 hm2 hv2 ?_)
 refine PyProof.Rows.callWith_type1 (thn (ha pos2 pins s σ H _ I h) fun us s1 z=>?_) (qD hp1 _ _) (yp _ _ [e2] (by simp [hp2]))
 obtain ⟨vs,H1,I1,r1,a,b,names,ys,rfl,hta,hb,hl,nd,hz,q⟩:=z
 clear I h
 obtain ⟨u1,u2,rfl,r1a,r1b⟩:=jch r1
 cases r1a
 cases r1b
 obtain ⟨xs,rx,htup,_⟩:=I1.tuple hta
 obtain ⟨its,ry,hlist,_⟩:=I1.tuple hb
 refine Ke htup hlist fun h' zz zp zo zi1 zi2 zs zk=>?_
 refine Calls.spliced_nil ?_
 have hbig:(h'.objs.size == sysModules)=false:=by
  have:=I1.big
  exact beq_eq_false_iff_ne.mpr (by rw [zs];exact Nat.ne_of_gt (Nat.lt_of_lt_of_le this (Nat.le_add_right _ _)))
 refine callType_codes (Q₁:=fun obj s₁=>obj=.ref h'.objs.size∧s₁={ s1 with heap:=h'.push { cls:=.type "dict",data:=.dict #[] } }) PySem.F.kt_called_dict (PySem.F.kt_typeCall_dict_1 _) PySem.F.entry_dict_init (PySem.kt_code_dict_new _ ⟨rfl,rfl⟩) ?_
 rintro obj s₁ ⟨rfl,rfl⟩
 have hnew:(h'.push { cls:=.type "dict",data:=.dict #[] }).DictOf (j4 X.prog X.w) h'.objs.size []:=Heap.DictOf.new h'
 have hp1:∀ b o,h'.get? b=some o→(h'.push { cls:=.type "dict",data:=.dict #[] }).get? b=some o:=fun b o e=>Heap.get?_push_of_some _ e
 refine ⟨hnew.typeIs,PySem.F.args_dict_init_2 _ _,?_⟩
 unfold Builtin.«dict.__init__»
 refine wpAny_bind ?_
 unfold Builtin.Dict.selfAndRest
 refine wpAny_bind (wpAny_notOrdered_dict hnew.typeIs ?_)
 show wpAny _ _ (pure (h'.objs.size,[Value.ref (s1.heap.objs.size+4)])) _ _ _
 refine wpAny_pure ?_
 show wpAny _ _ (Builtin.Dict.updateFrom "dict.__init__" h'.objs.size (.ref (s1.heap.objs.size+4)) [] .none) _ _ _
 unfold Builtin.Dict.updateFrom
 have ho1:=hp1 _ _ zz
 refine wpAny_bind (wpAny_typeOf (T:="zip") ⟨_,ho1,rfl⟩ ?_)
 rw [if_pos (by decide)]
 refine wpAny_bind (PySem.nokeysZ (show X.A.in1.in1.handled=none from I1.ok.hd hc) ho1 fun h2 t2 k2=>?_)
 rw [if_pos (show (none:Option Value).isNone=true from rfl)]
 have k20:∀ c o,h'.get? c=some o→h2.get? c=some o:=fun c o e=>k2 c o (hp1 c o e)
 refine wpAny_bind (wpAny_rule (wpAny_bind (wpAny_pyIter_zip (show IsZip h2 _ _ _ .none from k20 _ _ zz) ?_)))
 refine wpAny_pure ⟨plainId_quiet qu _,?_⟩
 have hd2:h2.DictOf (j4 X.prog X.w) h'.objs.size []:=by
  obtain ⟨o,es,ep,ho,x⟩:=hnew
  exact ⟨o,es,ep,k2 _ _ ho,x⟩
 have lta:a < s1.heap.objs.size:=by obtain ⟨o,e,_⟩:=htup;exact Heap.lt_size e
 have ltb:b < s1.heap.objs.size:=by obtain ⟨o,e,_⟩:=hlist;exact Heap.lt_size e
 generalize hS:s1.heap.objs.size=S at *
 have D:=Ks lta ltb
 rw [zs] at hd2 hbig ⊢
 refine ZJ (A:=X.A.in1) (xs:=xs) (ys:=its) (names:=names) (vs:=ys) (show X.A.in1.handled=none from I1.ok.hd hc) D (nlt (by omega)) (nlt (by omega)) (nlt (by omega)) (nlt (by omega)) (nlt (by omega)) (Nat.ne_of_lt (Nat.lt_of_lt_of_le lta (Nat.le_add_right _ _))) (Nat.ne_of_lt (Nat.lt_of_lt_of_le ltb (Nat.le_add_right _ _))) rx ry hl nd (Nat.le_of_lt (jv hz)) names.length 0 _ [] (by omega) ⟨k20 _ _ zp,zi1.at fun o e=>k20 _ o e,zi2.at fun o e=>k20 _ o e,.inl ⟨k20 _ _ zz,_,_,k20 _ _ zo⟩⟩ (Heap.IsTuple.at htup fun o e=>k20 _ o (zk _ o e)) (Heap.IsTuple.at hlist fun o e=>k20 _ o (zk _ o e)) hd2 .nil ?_ 0
 intro h3 tk acc' hk hd' hkv'
 refine ⟨rfl,.ref (S+5),_,I1.laid (t':=tk) (fun c o e=>?_) (by omega) (YI (kvs:=zKV names ys) ?_ hbig hkv' hd'),rfl,q _ (I1.hok.fresh (by omega))⟩
 ·have lc:=Heap.lt_size e
  rw [hS] at lc
  have g:∀ k,c≠S+k:=fun k=>Nat.ne_of_lt (Nat.lt_of_lt_of_le lc (Nat.le_add_right _ _))
  exact hk c o (g 5) (g 4) (g 3) (g 0) (g 1) (k20 _ _ (zk _ _ e))
 ·unfold zKV
  rw [List.length_map,List.length_zip,← hl,Nat.min_self]
  exact Nat.le_of_lt (jv hz)
end L2
namespace PySem
section
variable {prog:Program} {w:World} {A:Around} {E:Value→Shared→Prop} {s:Shared}
theorem ZH {z TI TO i1 i2 l1 l2:Addr} {k1 k2:Nat} {xs ys:Array Value} {x y a b:Value} {Q:Value→Shared→Prop} (D:ZipApart z TI TO i1 i2 l1 l2)
  (hz:IsZip s.heap z TI TO .none) (hTI:IsPair s.heap TI (.ref i1) (.ref i2)) (hTO:IsPair s.heap TO a b)
  (h1:s.heap.IsTupleIter i1 l1 k1) (h2:s.heap.IsTupleIter i2 l2 k2) (hl1:s.heap.IsTuple l1 xs) (hl2:s.heap.IsTuple l2 ys) (hx:xs[k1]?=some x) (hy:ys[k2]?=some y)
  (hQ:∀ h',kU h' z TI TO (rawInt s.heap.objs.size) false→h'.IsTupleIter i1 l1 (k1+1)→h'.IsTupleIter i2 l2 (k2+1)→IsPair h' s.heap.objs.size x y→h'.objs.size=s.heap.objs.size+1→IsPair h' TO x y→
   (∀ c o,c≠z→c≠TO→c≠i1→c≠i2→s.heap.get? c=some o→h'.get? c=some o)→Q (.ref s.heap.objs.size) { s with heap:=h' }) :
  wpAny (model prog w) A (Builtin.«zip.__next__» ⟨[.ref z],[]⟩) (fun fin s'=>∃ v,fin=.done (.ret v)∧Q v s') E s:=by
 show wpAny _ _ (field (.ref z) 2 >>= _) _ _ _
 refine wpAny_bind (wpAny_field hz rfl (x:=.bool false) rfl ?_)
 show wpAny _ _ (field (.ref z) 3 >>= _) _ _ _
 refine wpAny_bind (wpAny_field hz rfl (x:=.ref TI) rfl ?_)
 refine wpAny_bind (wpAny_seqItems hTI rfl ?_)
 show wpAny _ _ (Builtin.SmallTypes.ownedTupleIsFree (.ref z) >>= _) _ _ _
 refine wpAny_bind ?_
 unfold Builtin.SmallTypes.ownedTupleIsFree
 refine wpAny_bind (wpAny_field hz rfl (x:=.none) rfl (wpAny_pure ?_))
 simp only [if_true]
 refine wpAny_bind (wpAny_rule ?_)
 refine wpAny_bind (wpAny_field hz rfl (x:=.ref TO) rfl ?_)
 refine wpAny_bind (wpAny_setField_rec hz (by simp) fun g1 z1 b1=>?_)
 replace z1:IsZip g1 z TI TO .ellipsis:=z1
 refine wpAny_bind ?_
 simp only [List.zipIdx_cons,List.zipIdx_nil,List.forIn_cons,List.forIn_nil]
 refine wpAny_bind (wpAny_bind (wpAny_onRaise ?_))
 show wpAny _ _ (Builtin.SmallTypes.nextOf (.ref i1) >>= _) _ _ _
 refine wpAny_bind (kL (h1.extBut b1.extBut D.i1z) (hl1.extBut b1.extBut D.l1z) hx fun g2 t2 b2=>wpAny_pure ?_)
 have o2:IsPair g2 TO a b:=b2.extBut _ _ D.TOi1 (b1.extBut _ _ D.TOz hTO)
 refine wpAny_bind (wpAny_seqItems o2 rfl ?_)
 refine wpAny_bind (wpAny_updateSeq_pair o2 fun g3 o3 b3=>?_)
 replace o3:IsPair g3 TO x b:=o3
 refine wpAny_bind (wpAny_letGo (wpAny_pure ?_))
 refine wpAny_bind (wpAny_bind (wpAny_onRaise ?_))
 show wpAny _ _ (Builtin.SmallTypes.nextOf (.ref i2) >>= _) _ _ _
 refine wpAny_bind (kL (((h2.extBut b1.extBut D.i2z).extBut b2.extBut D.i12.symm).extBut b3.extBut D.TOi2.symm) (((hl2.extBut b1.extBut D.l2z).extBut b2.extBut D.l2i1).extBut b3.extBut D.l2TO) hy fun g4 t4 b4=>wpAny_pure ?_)
 have o4:IsPair g4 TO x b:=b4.extBut _ _ D.TOi2 o3
 refine wpAny_bind (wpAny_seqItems o4 rfl ?_)
 refine wpAny_bind (wpAny_updateSeq_pair o4 fun g5 o5 b5=>?_)
 replace o5:IsPair g5 TO x y:=o5
 refine wpAny_bind (wpAny_letGo (wpAny_pure (wpAny_pure ?_)))
 refine wpAny_bind (wpAny_seqItems o5 rfl ?_)
 refine wpAny_bind (wpAny_newTuple ?_)
 have sz:g5.objs.size=s.heap.objs.size:=by rw [b5.1,b4.1,b3.1,b2.1,b1.1]
 have z5:IsZip g5 z TI TO .ellipsis:=b5.extBut _ _ D.TOz.symm (b4.extBut _ _ D.i2z.symm (b3.extBut _ _ D.TOz.symm (b2.extBut _ _ D.i1z.symm z1)))
 have k5:∀ c o,c≠z→c≠TO→c≠i1→c≠i2→s.heap.get? c=some o→g5.get? c=some o:=fun c o c1 c2 c3 c4 e=>b5.extBut _ _ c2 (b4.extBut _ _ c4 (b3.extBut _ _ c2 (b2.extBut _ _ c3 (b1.extBut _ _ c1 e))))
 have t2':g5.IsTupleIter i1 l1 (k1+1):=((t2.extBut b3.extBut D.TOi1.symm).extBut b4.extBut D.i12).extBut b5.extBut D.TOi1.symm
 have t4':g5.IsTupleIter i2 l2 (k2+1):=t4.extBut b5.extBut D.TOi2.symm
 have zlt:z < g5.objs.size:=Heap.lt_size z5
 show wpAny _ _ (Builtin.SmallTypes.ownedTupleHandOut (.ref z) (.ref g5.objs.size) >>= _) _ _ _
 refine wpAny_bind ?_
 unfold Builtin.SmallTypes.ownedTupleHandOut
 have z6:IsZip (g5.push { cls:=.type "tuple",data:=.seq #[x,y] }) z TI TO .ellipsis:=Heap.get?_push_of_some _ z5
 refine wpAny_bind (wpAny_setField_rec z6 (by simp) fun g7 z7 b7=>?_)
 replace z7:IsZip g7 z TI TO (rawInt g5.objs.size):=z7
 refine wpAny_setField_rec z7 (by simp) fun g8 z8 b8=>?_
 replace z8:kU g8 z TI TO (rawInt g5.objs.size) false:=z8
 have up:∀ c o,c≠z→g5.get? c=some o→g8.get? c=some o:=fun c o c1 e=>b8.extBut _ _ c1 (b7.extBut _ _ c1 (Heap.get?_push_of_some _ e))
 have p8:IsPair g8 g5.objs.size x y:=b8.extBut _ _ (Nat.ne_of_gt zlt) (b7.extBut _ _ (Nat.ne_of_gt zlt) (Heap.get?_push_size _ rfl))
 have s8:g8.objs.size=g5.objs.size+1:=by rw [b8.1,b7.1,Heap.size_push]
 rw [sz] at z8 p8 s8
 refine wpAny_pure ⟨_,rfl,?_⟩
 show Q (.ref g5.objs.size) _
 rw [sz]
 exact hQ g8 z8 (t2'.at fun o e=>up _ o D.i1z e) (t4'.at fun o e=>up _ o D.i2z e) p8 s8 (up _ _ D.TOz o5) fun c o c1 c2 c3 c4 e=>up c o c1 (k5 c o c1 c2 c3 c4 e)
structure ZipFo (h:Heap) (z TI TO i1 i2 l1 l2:Addr) (i:Nat):Prop where
 zz:IsZip h z TI TO .none
 ti:IsPair h TI (.ref i1) (.ref i2)
 to:∃ a b,IsPair h TO a b
 a:h.IsTupleIter i1 l1 i
 b:h.IsTupleIter i2 l2 i
theorem jbg {z TI TO i1 i2 l1 l2:Addr} {i:Nat} {xs ys:Array Value} {x y:Value} {Q:Option Value→Shared→Prop} (D:ZipApart z TI TO i1 i2 l1 l2) (Z:ZipFo s.heap z TI TO i1 i2 l1 l2 i) (hl1:s.heap.IsTuple l1 xs) (hl2:s.heap.IsTuple l2 ys) (hx:xs[i]?=some x) (hy:ys[i]?=some y)
  (hQ:∀ h',IsZip h' z TI TO (rawInt s.heap.objs.size)→h'.IsTupleIter i1 l1 (i+1)→h'.IsTupleIter i2 l2 (i+1)→IsPair h' s.heap.objs.size x y→h'.objs.size=s.heap.objs.size+1→(∃ a b,IsPair h' TO a b)→(∀ c o,c≠z→c≠TO→c≠i1→c≠i2→s.heap.get? c=some o→h'.get? c=some o)→Q (some (.ref s.heap.objs.size)) { s with heap:=h' }) :
  wpAny (model prog w) A (pyNext (.ref z)) Q E s:=by
 have hz:=Z.zz
 obtain ⟨a,b,hTO⟩:=Z.to
 have hT:s.TypeIs (.ref z) "zip":=⟨_,hz,rfl⟩
 unfold pyNext
 refine wpAny_bind (wpAny_attempt (wpAny_callSpecial?_slot (name:=Str.ofString "__next__") hT F.slot_zip_next (wpAny_call_entry F.slot_zip_next hT F.entry_zip_next ?_ (F.args_zip_next_1 _))))
 exact ZH D hz Z.ti hTO Z.a Z.b hl1 hl2 hx hy fun h' a1 a2 a3 a4 a5 a6 k=>wpAny_pure (hQ h' a1 a2 a3 a4 a5 ⟨x,y,a6⟩ k)
theorem jb8 {z TI TO i1 i2 l1 l2:Addr} {i:Nat} {xs:Array Value} {Q:Option Value→Shared→Prop} (hh:A.handled=none) (D:ZipApart z TI TO i1 i2 l1 l2) (Z:ZipFo s.heap z TI TO i1 i2 l1 l2 i) (hl1:s.heap.IsTuple l1 xs) (hx:xs[i]?=none)
  (hQ:∀ h',(∀ c o,c≠z→c≠i1→s.heap.get? c=some o→h'.get? c=some o)→Q none { s with heap:=h' }):wpAny (model prog w) A (pyNext (.ref z)) Q E s:=by
 have hz:=Z.zz
 have hT':s.TypeIs (.ref z) "zip":=⟨_,hz,rfl⟩
 unfold pyNext
 refine wpAny_bind (wpAny_attempt (wpAny_callSpecial?_slot (name:=Str.ofString "__next__") hT' F.slot_zip_next (wpAny_call_entry F.slot_zip_next hT' F.entry_zip_next ?_ (F.args_zip_next_1 _))))
 refine yk hh D.i1z D.l1z hz Z.ti Z.a hl1 hx fun h' e k he=>?_
 obtain ⟨o,ho,hc⟩:=he
 refine wpAny_bind (wpAny_isInstance (T:="StopIteration") (b:=true) ⟨o,ho,hc⟩ isSubtype_stop ?_)
 exact wpAny_pure (hQ _ k)
end
end PySem
namespace L2
open PySem PySem.Spec PyProof.Rows
def jd0 (K:W.Frag) (l1 l2:Addr):It:=
 ⟨fun i H=>∃ xs ys x y,SqT K H l1 xs∧SqT K H l2 ys∧xs[i]?=some x∧ys[i]?=some y,fun i H x H'=>∃ t a b,H t=none∧(∀ xs,SqT K H l1 xs→xs[i]?=some a)∧(∀ ys,SqT K H l2 ys→ys[i]?=some b)∧x=.ref t∧H'=upd H t (.tup [a,b]),fun i H=>∃ xs,SqT K H l1 xs∧xs.length≤i⟩
theorem jcm {P:Program} {w:World} {K:W.Frag} {elts:List Expr} {x1:Nat} {tp:Pos} (l1 l2 z TI TO i1 i2:Addr) (D:ZipApart z TI TO i1 i2 l1 l2):Turn P w K (.Tuple elts x1 tp) (jd0 K l1 l2) [z,TI,TO,i1,i2] z (fun i h=>ZipFo h z TI TO i1 i2 l1 l2 i) where
 mem:=by simp
 obj:=fun i h st b hb=>by
  obtain ⟨zz,ti,⟨a,b',to⟩,⟨o1,e1,c1,d1⟩,⟨o2,e2,c2,d2⟩⟩:=st
  simp only [List.mem_cons,List.mem_nil_iff,or_false] at hb
  rcases hb with rfl | rfl | rfl | rfl | rfl
  ·exact ⟨_,zz,fun v z=>by cases z⟩
  ·exact ⟨_,ti,fun v z=>by cases z⟩
  ·exact ⟨_,to,fun v z=>by cases z⟩
  ·exact ⟨o1,e1,fun v z=>by rw [d1] at z;cases z⟩
  ·exact ⟨o2,e2,fun v z=>by rw [d2] at z;cases z⟩
 keep:=fun i h h' st k=>by
  obtain ⟨zz,ti,⟨a,b',to⟩,⟨o1,e1,c1,d1⟩,⟨o2,e2,c2,d2⟩⟩:=st
  exact ⟨k z (by simp) _ zz,k TI (by simp) _ ti,⟨a,b',k TO (by simp) _ to⟩,⟨o1,k i1 (by simp) o1 e1,c1,d1⟩,⟨o2,k i2 (by simp) o2 e2,c2,d2⟩⟩
 item:=by
  intro X hP hw hK hc i pins s σ H E I hf st hg
  subst hP hw hK
  obtain ⟨xs,ys,x,y,hq1,hq2,hx,hy⟩:=hg
  obtain ⟨its1,rv1,p1,hz1⟩:=I.tuple hq1
  obtain ⟨its2,rv2,p2,hz2⟩:=I.tuple hq2
  obtain ⟨u1,hu1,ru1⟩:=rv1.get hx
  obtain ⟨u2,hu2,ru2⟩:=rv2.get hy
  obtain ⟨a0,a1,a2,a3,a4,a5⟩:=hf z (by simp)
  obtain ⟨b0,b1,b2,b3,b4,b5⟩:=hf TO (by simp)
  obtain ⟨c0,c1,c2,c3,c4,c5⟩:=hf i1 (by simp)
  obtain ⟨d0,d1,d2,d3,d4,d5⟩:=hf i2 (by simp)
  obtain ⟨t0,_⟩:=hf TI (by simp)
  refine jbg D st (show s.heap.IsTuple l1 its1.toArray from p1) (show s.heap.IsTuple l2 its2.toArray from p2) (x:=u1) (y:=u2) (by simpa using hu1) (by simpa using hu2) fun h' o1 o2 o3 o4 o5 o6 ok=>?_
  refine ⟨_,rfl,wpAny_letOwnedTupleGo_zip (s:={ s with heap:=h' }) o1 fun h2 g1 g2=>?_⟩
  have hfr:H s.heap.objs.size=none:=I.hok.fresh (Nat.le_refl _)
  have kp:∀ b o,b≠z→b≠TO→b≠i1→b≠i2→s.heap.get? b=some o→h2.get? b=some o:=fun b o e1 e2 e3 e4 q=>(g2.2 b e1).trans (ok b o e1 e2 e3 e4 q)
  have nt:∀ b o,s.heap.get? b=some o→b≠s.heap.objs.size:=fun b o q=>Nat.ne_of_lt (Heap.lt_size q)
  have ne:∀ b v,H b=some v→b≠z∧b≠TO∧b≠i1∧b≠i2:=fun b v q=>⟨fun t=>(by rw [t,a0] at q;cases q),fun t=>(by rw [t,b0] at q;cases q),fun t=>(by rw [t,c0] at q;cases q),fun t=>(by rw [t,d0] at q;cases q)⟩
  have het:s.heap.objs.size≠z:=fun e=>absurd (Heap.lt_size st.zz) (by rw [← e];exact Nat.lt_irrefl _)
  have kc:∀ b o,b ∉ [z,TO,i1,i2]→s.heap.get? b=some o→h2.get? b=some o:=fun b o hc' q=>kp b o (fun z=>hc' (by simp [z])) (fun z=>hc' (by simp [z])) (fun z=>hc' (by simp [z])) (fun z=>hc' (by simp [z])) q
  have I1:Inv X pins σ (upd H s.heap.objs.size (.tup [x,y])) { s with heap:=h2,gens:=s.gens,drawn:=s.drawn,toks:=s.toks }:=by
   refine I.step (g':=s.gens) (d':=s.drawn) (ch:=[z,TO,i1,i2]) (fun b hb=>?_) (fun b o _ _ hc' q _=>kc b o hc' q) (fun b o _ _ hc' q _=>⟨o.slots,kc b o hc' q⟩)
    (fun b o _ q n=>by rw [jr (nt b o q)];exact n) (fun b o hc' q=>⟨o,kc b o hc' q⟩) (fun b ys q=>by rw [jr (jn q hfr)];exact q) (fun b o z q=>by rw [jr (jn q hfr)];exact q)
    (fun b ps q=>⟨#[],by rw [jr (jn q hfr),q];simp⟩) (fun m hm=>?_) (fun b v q=>?_) I.bare
   ·simp only [List.mem_cons,List.mem_nil_iff,or_false] at hb
    rcases hb with rfl | rfl | rfl | rfl
    ·exact ⟨a3,a1,a4,a5⟩
    ·exact ⟨b3,b1,b4,b5⟩
    ·exact ⟨c3,c1,c4,c5⟩
    ·exact ⟨d3,d1,d4,d5⟩
   ·obtain ⟨o,es,ep,ho,r⟩:=hm
    exact ⟨o,es,ep,kp _ o (Ne.symm a1) (Ne.symm b1) (Ne.symm c1) (Ne.symm d1) ho,r⟩
   ·by_cases hb:b=s.heap.objs.size
    ·subst hb
     rw [jb] at q
     cases q
     refine ⟨?_,[u1,u2],.cons ru1 (.cons ru2 .nil),_,(g2.2 _ het).trans o4,rfl,0,rfl⟩
     show 2≤sizeLine
     rw [sizeLine_eq]
     decide
    ·rw [jr hb] at q
     refine (I.hok b v q).stay (fun c v' hc' q'=>?_) (fun c q'=>by rw [jr (jn q' hfr)];exact q') fun c ys q'=>by rw [jr (jn q' hfr)];exact q'
     rcases hc' with rfl | hc'
     ·obtain ⟨n1,n2,n3,n4⟩:=ne c v q
      exact kp c v' n1 n2 n3 n4 q'
     ·obtain ⟨n1,n2,n3,n4⟩:=ne c _ hc'
      exact kp c v' n1 n2 n3 n4 q'
  have nz:∀ b,b≠z→∀ o,h'.get? b=some o→h2.get? b=some o:=fun b hb o q=>(g2.2 b hb).trans q
  obtain ⟨q1,q2,hTO⟩:=o6
  refine ⟨.ref s.heap.objs.size,_,I1,rfl,⟨_,x,y,hfr,fun ys' hy'=>by rw [I.tuple_inj hy' hq1];exact hx,fun ys' hy'=>by rw [I.tuple_inj hy' hq2];exact hy,rfl,rfl⟩,⟨g1,?_,⟨q1,q2,nz TO D.TOz _ hTO⟩,o2.at fun o e=>nz _ D.i1z o e,o3.at fun o e=>nz _ D.i2z o e⟩,fun b hb=>?_⟩
  ·exact kp TI _ D.TIz D.TITO D.TIi1 D.TIi2 st.ti
  ·have hlt:∀ b,H b=none→(∃ o,s.heap.get? b=some o)→upd H s.heap.objs.size (.tup [x,y]) b=none:=fun b h1 ⟨o,h2⟩=>by rw [jr (nt b o h2)];exact h1
   simp only [List.mem_cons,List.mem_nil_iff,or_false] at hb
   obtain ⟨s1,s2,⟨a',b',s3⟩,⟨p,s4,_⟩,⟨p',s5,_⟩⟩:=st
   rcases hb with rfl | rfl | rfl | rfl | rfl
   ·exact hlt _ a0 ⟨_,s1⟩
   ·exact hlt _ t0 ⟨_,s2⟩
   ·exact hlt _ b0 ⟨_,s3⟩
   ·exact hlt _ c0 ⟨_,s4⟩
   ·exact hlt _ d0 ⟨_,s5⟩
 done:=by
  intro X hP hw hK hc i pins s σ H E I hf st hg
  subst hP hw hK
  obtain ⟨xs,hq,hx⟩:=hg
  obtain ⟨its,rv,p,hz⟩:=I.tuple hq
  obtain ⟨a0,a1,a2,a3,a4,a5⟩:=hf z (by simp)
  obtain ⟨c0,c1,c2,c3,c4,c5⟩:=hf i1 (by simp)
  have hl:=rv.length
  refine jb8 (I.ok.hd hc) D st (show s.heap.IsTuple l1 its.toArray from p) (by simp;omega) fun h' eb=>⟨rfl,?_⟩
  have kc:∀ b o,b ∉ [z,i1]→s.heap.get? b=some o→h'.get? b=some o:=fun b o hc' q=>eb b o (fun z=>hc' (by simp [z])) (fun z=>hc' (by simp [z])) q
  have ne:∀ b v,H b=some v→b≠z∧b≠i1:=fun b v q=>⟨fun t=>(by rw [t,a0] at q;cases q),fun t=>(by rw [t,c0] at q;cases q)⟩
  refine I.step (t':=s.toks) (g':=s.gens) (d':=s.drawn) (ch:=[z,i1]) (fun b hb=>?_) (fun b o _ _ hc' q _=>kc b o hc' q) (fun b o _ _ hc' q _=>⟨o.slots,kc b o hc' q⟩)
    (fun b o _ q n=>n) (fun b o hc' q=>⟨o,kc b o hc' q⟩) (fun b ys q=>q) (fun b o z q=>q) (fun b ps q=>⟨#[],by rw [q];simp⟩) (fun m hm=>?_) (fun b v q=>?_) I.bare
  ·simp only [List.mem_cons,List.mem_nil_iff,or_false] at hb
   rcases hb with rfl | rfl
   ·exact ⟨a3,a1,a4,a5⟩
   ·exact ⟨c3,c1,c4,c5⟩
  ·obtain ⟨o,es,ep,ho,r⟩:=hm
   exact ⟨o,es,ep,eb _ o (Ne.symm a1) (Ne.symm c1) ho,r⟩
  ·refine (I.hok b v q).stay (fun c v' hc' q'=>?_) (fun c q'=>q') fun c ys q'=>q'
   rcases hc' with rfl | hc'
   ·exact eb c v' (ne c v q).1 (ne c v q).2 q'
   ·exact eb c v' (ne c _ hc').1 (ne c _ hc').2 q'
 self:=fun _ _ _ _ _ st h=>wpAny_pyIter_zip st.zz h
section
variable {X:Cx} {elts:List Expr} {x1:Nat} {tp:Pos}
def jgU (K:W.Frag) (ta:TA):TI:=fun σ H R=>ta σ H fun vs H1=>∃ l1 l2,vs=[.ref l1,.ref l2]∧(∃ xs,SqT K H1 l1 xs)∧(∃ ys,SqT K H1 l2 ys)∧R (jd0 K l1 l2) H1
theorem jfH {a b:Expr} {ta:TA} {p pos:Pos} (hg:Gl X "zip") (hm:X.mg "zip" = none) (ha:PA X [a,b] ta) (hp1:kn a=true:=by rfl) (hp2:kn b=true:=by rfl):PI X (.Tuple elts x1 tp) (.Call (.Name "zip" p) [a,b] [] pos) (jgU X.K ta):=by
 intro pins s σ H R I h
 refine Call_ (zx I hg hm jdV (PyProof.Rows.callWith_type1 (thn (ha pos pins s σ H _ I h) fun us s1 ⟨vs,H1,I1,r1,q1⟩=>?_) (qD hp1 _ _) (yp _ _ [b] (by simp [hp2]))))
 obtain ⟨l1,l2,e,⟨xs,hq1⟩,⟨ys,hq2⟩,q⟩:=q1
 subst e
 obtain ⟨u1,u2,rfl,r1a,r1b⟩:=jch r1
 cases r1a
 cases r1b
 obtain ⟨its1,rv1,p1,hz1⟩:=I1.tuple hq1
 obtain ⟨its2,rv2,p2,hz2⟩:=I1.tuple hq2
 have lta:l1 < s1.heap.objs.size:=by obtain ⟨o,e,_⟩:=p1;exact Heap.lt_size e
 have ltb:l2 < s1.heap.objs.size:=by obtain ⟨o,e,_⟩:=p2;exact Heap.lt_size e
 refine Ke (show s1.heap.IsTuple l1 its1.toArray from p1) (show s1.heap.IsTuple l2 its2.toArray from p2) fun h' g1 g2 g3 g4 g5 g6 g7=>?_
 refine wpAny_pyIter_zip (s:={ s1 with heap:=h' }) g1 ?_
 have I2:Inv X pins σ H1 { s1 with heap:=h' }:=I1.kept (t':=s1.toks) g7
 refine ⟨s1.heap.objs.size+4,[s1.heap.objs.size+4,s1.heap.objs.size+2,s1.heap.objs.size+3,s1.heap.objs.size,s1.heap.objs.size+1],_,_,_,rfl,I2,jcm l1 l2 _ _ _ _ _ (Ks lta ltb),⟨g1,g2,⟨_,_,g3⟩,g4,g5⟩,fun b hb=>?_,q⟩
 have hb':s1.heap.objs.size≤b:=by
  simp only [List.mem_cons,List.mem_nil_iff,or_false] at hb
  rcases hb with rfl | rfl | rfl | rfl | rfl
  ·exact Nat.le_add_right _ _
  ·exact Nat.le_add_right _ _
  ·exact Nat.le_add_right _ _
  ·exact Nat.le_refl _
  ·exact Nat.le_add_right _ _
 exact I1.fpOk hb' (I1.hok.fresh hb')
theorem YG {K:W.Frag} {l1 l2:Addr} {xs ys:List V} {g:TG} {tb:TS} {D:Ends} {σ:St} {H:Hp} (Pv:Nat→St→Hp→Prop) (hlen:xs.length=ys.length) (h0:Pv 0 σ H) (hl:∀ i σ H,i≤xs.length→Pv i σ H→SqT K H l1 xs∧SqT K H l2 ys)
  (hs:∀ i x y σ H t,xs[i]?=some x→ys[i]?=some y→Pv i σ H→H t=none→g (.ref t) σ (upd H t (.tup [x,y])) fun σ2 H2=>tb { D with nx:=Pv (i+1),ct:=Pv (i+1),bk:=D.nx } σ2 H2) (hd:∀ σ H,Pv xs.length σ H→D.nx σ H) :
  ∃ W:Nat→Nat→St→Hp→Prop,(∃ m,W 0 m σ H)∧∀ i m σ H,W i m σ H→
   ((jd0 K l1 l2).stop i H∧D.nx σ H)∨((jd0 K l1 l2).go i H∧∃ N:St→Hp→Prop,(∀ σ' H',N σ' H'→∃ m',m' < m∧W (i+1) m' σ' H')∧∀ x H',(jd0 K l1 l2).yld i H x H'→g x σ H' fun σ2 H2=>tb { D with nx:=N,ct:=N,bk:=D.nx } σ2 H2):=by
 refine ⟨fun i m σ H=>m=xs.length - i∧i≤xs.length∧Pv i σ H,⟨xs.length,by simp,Nat.zero_le _,h0⟩,?_⟩
 rintro i m σ H ⟨rfl,hi,p⟩
 obtain ⟨q1,q2⟩:=hl i σ H hi p
 by_cases hlt:i < xs.length
 ·refine .inr ⟨⟨xs,ys,xs[i],ys[i]'(by omega),q1,q2,by simp [hlt],List.getElem?_eq_getElem _⟩,Pv (i+1),fun σ' H' p'=>⟨xs.length - (i+1),by omega,rfl,hlt,p'⟩,fun x H' y=>?_⟩
  obtain ⟨t,a,b,ht,ha,hb,rfl,rfl⟩:=y
  exact hs i a b σ H t (ha xs q1) (hb ys q2) p ht
 ·have:i=xs.length:=by omega
  subst this
  exact .inl ⟨⟨xs,q1,Nat.le_refl _⟩,hd σ H p⟩
end
abbrev TJ:=St→Hp→Str→(Str→Hp→Prop)→Prop
structure QJ (X:Cx) (es:List Expr) (t:TJ):Prop where
 h:∀ (pins:List (Addr×Obj)) (s:Shared) (σ:St) (H:Hp) (out:Str) (Q:Str→Hp→Prop),Inv X pins σ H s→t σ H out Q→Joins (model X.prog X.w) X.A X.xe (evalEach es X.env) out (fun o s'=>∃ H',Inv X pins σ H' s'∧Q o H') s
def jhd:TJ:=fun _ H out Q=>Q out H
def jgT (te:TE) (t:TJ):TJ:=fun σ H out Q=>te σ H fun x H1=>∃ y,x=.str y∧(out++y).length≤sizeLine∧t σ H1 (out++y) Q
section
variable {X:Cx}
theorem jfy:QJ X [] jhd:=⟨fun pins s σ H out Q I h=>Joins_nil ⟨H,I,h⟩⟩
theorem Yn {e:Expr} {es:List Expr} {te:TE} {t:TJ} (he:QE X e te) (ht:QJ X es t):QJ X (e :: es) (jgT te t):=⟨fun pins s σ H out Q I h=>by
 refine Joins_cons (thn (he.h pins s σ H _ I h) fun v s1 ⟨x,H1,I1,r,y,e1,hl,q⟩=>?_)
 subst e1
 obtain ⟨tk,rfl⟩:=r
 exact ⟨y,tk,rfl,hl,ht.h pins s1 σ H1 _ Q I1 q⟩⟩
def jg3 (te:TE):TE:=fun σ H Q=>te σ H fun x H1=>∃ y,x=.str y∧y.length≤sizeLine∧Q (.str y) H1
theorem jan {e:Expr} {te:TE} {pos:Pos} (he:QE X e te):QE X (.FormattedValue e (-1) none pos) (jg3 te):=⟨fun pins s σ H Q I h=>by
 refine wpAny_FormattedValue_plain (thn (he.h pins s σ H _ I h) fun v s1 ⟨x,H1,I1,r,y,e1,hl,q⟩=>?_)
 subst e1
 obtain ⟨tk,rfl⟩:=r
 exact wpAny_formatField_str ⟨.str y,H1,I1,⟨_,rfl⟩,q⟩ ⟨.str y,H1,I1.tok _,⟨_,rfl⟩,q⟩ hl⟩
def jgn (t:TJ):TE:=fun σ H Q=>t σ H Str.empty fun o H1=>o.length≤sizeLine∧Q (.str o) H1
theorem jb4 {v1 v2:Expr} {qc:List Expr} {t:TJ} {pos:Pos} (h:QJ X (v1 :: v2 :: qc) t):QE X (.JoinedStr (v1 :: v2 :: qc) pos) (jgn t):=⟨fun pins s σ H Q I hw=>by
 refine wpAny_JoinedStr ?_
 have hh:=h.h pins s σ H Str.empty _ I hw
 have mono:∀ (l:List Expr) (acc:Str) (s:Shared) (Q Q':Str→Shared→Prop),(∀ o s,Q o s→Q' o s)→Joins (model X.prog X.w) X.A X.xe (evalEach l X.env) acc Q s→Joins (model X.prog X.w) X.A X.xe (evalEach l X.env) acc Q' s:=by
  intro l
  induction l with
  | nil=>intro acc s Q Q' hq h;exact hq _ _ h
  | cons e r ih=>
   intro acc s Q Q' hq h
   refine Joins_cons (thn (show wpAny _ _ (eval e X.env) _ _ _ from h) fun v s1 ⟨y,tk,e1,hl,q⟩=>⟨y,tk,e1,hl,ih _ _ _ _ hq q⟩)
 refine mono _ _ _ _ _ (fun o s' ⟨H',I',hl,q⟩=>⟨hl,.str o,H',I'.tok _,⟨_,rfl⟩,q⟩) hh⟩
end
theorem jbc {X:Cx} {p pos p2 pos2:Pos} {e1 e2:Expr} {t:TA} (hc:X.calm=true) (hg:Gl X "dict") (hm:X.mg "dict" = none) (hv:bootBuiltins "dict" = some (.type "dict")) (hg2:Gl X "zip") (hm2:X.mg "zip" = none) (hv2:bootBuiltins "zip" = some (.type "zip")) (ha:QA X [e1,e2] t) (hp1:kn e1=true:=by rfl) (hp2:kn e2=true:=by rfl) :
  QE X (.Call (.Name "dict" p) [.Call (.Name "zip" p2) [e1,e2] [] pos2] [] pos) (jgq X.K t):=⟨jcV hc hg hm hv hg2 hm2 hv2 ha.h hp1 hp2⟩
theorem K8 {X:Cx} {elts:List Expr} {x1:Nat} {tp:Pos} {a b:Expr} {ta:TA} {p pos:Pos} (hg:Gl X "zip") (hm:X.mg "zip" = none) (ha:QA X [a,b] ta) (hp1:kn a=true:=by rfl) (hp2:kn b=true:=by rfl):QI X (.Tuple elts x1 tp) (.Call (.Name "zip" p) [a,b] [] pos) (jgU X.K ta):=⟨jfH hg hm ha.h hp1 hp2⟩
end L2
namespace LW
open PySem L2
abbrev kY:Stmt:=top 30
abbrev qb:Stmt:=top 33
abbrev zl:Stmt:=top 29
def KL (r:Str):D:=.tup [.str "lose",.str r]
def jdZ (x:Str):D:=.tup [.str "any",.str x]
def jbn (y a:Str):D:=.tup [.str "set",.str y,.tup [.str "is",.str a],.int 0]
def kI (f y:Str):Str:=f++("." : Str)++y
def qv (g:Str) (p:Pc) (rows:List Str) (x:Str):Str:=if x = "" then "" else if x∈p.ps then kI g x else ((p.rs.zip rows).lookup x).getD x
def qV (g:Str) (p:Pc) (rows:List Str) (x0 x:Str):Str:=if x = "out" then x0 else qv g p rows x
def jJ (g:Str) (ps as:List Str):List D:=(ps.zip as).map fun q=>jbn (kI g q.1) q.2
def zJ (g:Str) (p:Pc) (rows:List Str) (x0:Str):List D:=rows.map KL++[jdZ x0]++(p.gv.map (Cl.say (qV g p rows x0))).map yo
def Sm.walk (f:Str) (pr:Str→Pc) (path:List Int) (ways:List (List D)):Sm→List Du×List (List D)
 | .claim C=>(kS f "claim" path ways [C],ways)
 | .call x g as rows=>(kS f "need" path (ways.map (·++jJ g (pr g).ps as)) ((pr g).nd.map (Cl.say (qv g (pr g) rows))),(ways.map (·++jJ g (pr g).ps as)).map (·++zJ g (pr g) rows x))
 | S=>([],ways.map (·++[S.toD]))
structure CalOk (g:Str) (p:Pc):Prop where
 rs:p.rs.Nodup
 psl:p.ps.length≤6
 rsl:p.rs.length≤6
 nd:p.nd.length≤20
 gv:p.gv.length≤20
 gl:g.length≤100
 yl:∀ y∈p.ps,y.length≤100
 ye:∀ y∈p.ps,y≠""
def ProcsAt (G:Hp) (dp:Addr) (gs:List Str) (pr:Str→Pc):Prop:=∃ kvs,G dp=some (.dK kvs)∧∀ g∈gs,∃ v,kP kvs (Sum.inr g)=some v∧Held G (pr g).toD v
theorem ProcsAt.keep {G G':Hp} {dp ml:Addr} {gs:List Str} {pr:Str→Pc} {xs:List V} (k:∀ b o,b≠ml→G b=some o→G' b=some o) (h:G ml=some (.lst xs)) (hp:ProcsAt G dp gs pr):ProcsAt G' dp gs pr:=by
 obtain ⟨kvs,e,hh⟩:=hp
 refine ⟨kvs,k _ _ (fun z=>by rw [z,h] at e;cases e) e,fun g hg=>?_⟩
 obtain ⟨v,e1,e2⟩:=hh g hg
 exact ⟨v,e1,(j5 k h).held e2⟩
theorem ProcsAt.mono {G G':Hp} {dp:Addr} {gs:List Str} {pr:Str→Pc} (s:Same G G') (hp:ProcsAt G dp gs pr):ProcsAt G' dp gs pr:=by
 obtain ⟨kvs,e,hh⟩:=hp
 refine ⟨kvs,s _ _ e,fun g hg=>?_⟩
 obtain ⟨v,e1,e2⟩:=hh g hg
 exact ⟨v,e1,e2.mono s⟩
def Sm.fit (gs:List Str) (pr:Str→Pc):Sm→Prop
 | .call _ g as rows=>g∈gs∧CalOk g (pr g)∧(pr g).ps.length=as.length∧(pr g).rs.length=rows.length
 | _=>True
structure WkAt (CW:Addr) (H:Hp) (wo dx ml dp:Addr) (f:Str) (gs:List Str) (pr:Str→Pc) (ms:List V) (wy:Addr) (ways:List (List D)):Prop where
 hwo:H wo=some (.ins CW dx (jd5 f (.ref dp) ml))
 hml:H ml=some (.lst ms)
 hp:ProcsAt H dp gs pr
 hwy:∃ was,H wy=some (.lst (was.map V.ref))∧WayL H ml ways was
 nwy:wy≠ml
theorem WkAt.mono {CW:Addr} {H H':Hp} {wo dx ml dp:Addr} {f:Str} {gs:List Str} {pr:Str→Pc} {ms:List V} {wy:Addr} {ways:List (List D)} (W:WkAt CW H wo dx ml dp f gs pr ms wy ways) (s:Same H H'):WkAt CW H' wo dx ml dp f gs pr ms wy ways:=by
 obtain ⟨was,e,h⟩:=W.hwy
 exact ⟨s _ _ W.hwo,s _ _ W.hml,W.hp.mono s,⟨was,s _ _ e,h.mono s⟩,W.nwy⟩
theorem WkAt.nwo {CW:Addr} {H:Hp} {wo dx ml dp:Addr} {f:Str} {gs:List Str} {pr:Str→Pc} {ms:List V} {wy:Addr} {ways:List (List D)} (W:WkAt CW H wo dx ml dp f gs pr ms wy ways):wo≠ml:=fun z=>by have:=W.hwo;rw [z,W.hml] at this;cases this
theorem WkAt.keep {CW:Addr} {H H':Hp} {wo dx ml dp:Addr} {f:Str} {gs:List Str} {pr:Str→Pc} {ms ms':List V} {wy:Addr} {ways:List (List D)} (W:WkAt CW H wo dx ml dp f gs pr ms wy ways) (k:∀ b o,b≠ml→H b=some o→H' b=some o) (h:H' ml=some (.lst ms')):WkAt CW H' wo dx ml dp f gs pr ms' wy ways:=by
 obtain ⟨was,e,hw⟩:=W.hwy
 exact ⟨k _ _ W.nwo W.hwo,h,W.hp.keep k W.hml,⟨was,k _ _ W.nwy e,hw.keep k W.hml⟩,W.nwy⟩
def JM:Sp:=fun vs H Q _=>∃ (wy ml rw:Addr) (was:List Addr) (ms rs:List V) (ways:List (List D)) (rows:List D),vs=[.ref wy,.ref rw]∧H wy=some (.lst (was.map V.ref))∧H ml=some (.lst ms)∧WayL H ml ways was∧H rw=some (.lst rs)∧HeldL H rows rs∧ways.length≤40∧(∀ w∈ways,w.length+rows.length≤900)∧∀ l as H',Same H H'→H l=none→H' l=some (.lst (as.map V.ref))→WayL H' ml (ways.map (·++rows)) as→Q (.ref l) H'
def jat (CW:Addr):Sp:=fun vs H Q _=>∃ (wo dx ml dp pt wy:Addr) (sv:V) (f:Str) (gs:List Str) (pr:Str→Pc) (ms:List V) (path:List Int) (ways:List (List D)) (x g:Str) (as rows:List Str),vs=[.ref wo,sv,.ref wy,.ref pt]∧WkAt CW H wo dx ml dp f gs pr ms wy ways∧H pt=some (.tup (path.map V.int))∧Held H (Sm.call x g as rows).toD sv∧(Sm.call x g as rows).fit gs pr∧(Sm.call x g as rows).few∧ms.length+ways.length * 20≤900∧ways.length≤40∧(∀ w∈ways,w.length≤800)∧
 ∀ ms' wls wy' H',(∀ b o,b≠ml→H b=some o→H' b=some o)→WkAt CW H' wo dx ml dp f gs pr (ms++ms') wy' ((Sm.call x g as rows).walk f pr path ways).2→DutsAt H' ((Sm.call x g as rows).walk f pr path ways).1 ms' wls→wls.Nodup→(∀ x∈wls,H x=none)→Q (.ref wy') H'
def jcw (CW:Addr):Sp:=fun vs H Q _=>∃ (wo dx ml dp pt wy:Addr) (sv:V) (f:Str) (gs:List Str) (pr:Str→Pc) (ms:List V) (path:List Int) (ways:List (List D)) (S:Sm),vs=[.ref wo,sv,.ref wy,.ref pt]∧WkAt CW H wo dx ml dp f gs pr ms wy ways∧H pt=some (.tup (path.map V.int))∧Held H S.toD sv∧S.fit gs pr∧S.few∧ms.length+ways.length * 20≤900∧ways.length≤40∧(∀ w∈ways,w.length≤800)∧
 ∀ ms' wls wy' H',(∀ b o,b≠ml→H b=some o→H' b=some o)→WkAt CW H' wo dx ml dp f gs pr (ms++ms') wy' (S.walk f pr path ways).2→DutsAt H' (S.walk f pr path ways).1 ms' wls→wls.Nodup→(∀ x∈wls,H x=none)→Q (.ref wy') H'
theorem jW {H:Hp} {d:D} {v:V} (h:Held H d v):HeldL H [d] [v]:=jc h jl
section
variable {P:Program} {w:World} {K:W.Frag} {mg:Str→Option Value} {base:Heap}
theorem jbE {f:Addr} {fd:FuncData} (F:Fun K "behind_each" "behind_each" qt f fd):FnOk P w K mg base CX0 1 f fd ["ways","rows"] JM:=by
 have sc:FnScope ["ways","rows"] ["ways","rows"] (js qt):=fQ
 refine F.okZ sc (fun vs H Q E h=>?_) (fun cdv A outer s H vs Q E hr h=>?_)
 ·obtain ⟨wy,ml,rw,was,ms,rs,ways,rows,rfl,_⟩:=h
  rfl
 obtain ⟨wy,ml,rw,was,ms,rs,ways,rows,rfl,hwy,hml,hW,hrw,hrows,hl40,hlen,q⟩:=h
 have lwa:=hW.len
 refine ⟨_,(ji (jw (ql ["way"] [1] rfl (kQ (sc:=js qt) (N:=["ways","rows"]) rfl rfl (by decide +kernel)) (kW (zpv 0)) (fun s H ex=>⟨(jt (i:=0) (show List.Nodup (["way","rows"]:List Str) by decide +kernel) rfl oQ),qk,(jm kD (zpv 0) (zpv 1))⟩)))),?_⟩
 refine jR (σ':=[some (.ref wy),some (.ref rw)]) rfl ?_
 refine ⟨_,rfl,wy,rfl,⟨_,SqL.of hwy⟩,fun l hl=>?_⟩
 refine qP (xs:=was.map V.ref) (fun i σ' G=>∃ u as,σ'=[u,some (.ref rw)]∧Same H G∧G l=some (.lst (as.map V.ref))∧as.length=i∧l ∉ as∧WayL G ml ((ways.take i).map (·++rows)) as) ⟨none,[],rfl,jf hl _,jb,rfl,List.not_mem_nil,by rw [List.take_zero];trivial⟩ ?_ ?_ ?_
 ·rintro i σ' G _ ⟨u,as,rfl,sG,_⟩
  exact SqL.of (sG _ _ hwy)
 ·rintro i x σ' G hx ⟨u,as,rfl,sG,hG,las,nl,hA⟩
  have hiw:i < was.length:=by have:=(List.getElem?_eq_some_iff.mp hx).1;rw [List.length_map] at this;exact this
  have hi:i < ways.length:=by omega
  rw [List.getElem?_map,List.getElem?_eq_getElem hiw] at hx
  cases hx
  obtain ⟨nwl,us,hwl,hway⟩:=hW.get (List.getElem?_eq_getElem hi) (List.getElem?_eq_getElem hiw)
  have hb:=hlen _ (List.getElem_mem hi)
  have e1:=hway.length
  have e2:=hrows.length
  unfold kX JD
  refine zy ?_
  refine ⟨_,rfl,_,rfl,_,rw,us,rs,rfl,rfl,sG _ _ hwl,sG _ _ hrw,Nat.le_trans (by omega) (ka (by decide:900≤1000)),fun l2 hl2=>?_⟩
  have s2:=jf hl2 (.lst (us++rs))
  have e3:upd G l2 (.lst (us++rs)) l2=some (.lst (us++rs)):=jb
  have n2:l2≠l:=fun z=>by rw [z,hG] at hl2;cases hl2
  have n3:l2≠ml:=fun z=>by rw [z,sG _ _ hml] at hl2;cases hl2
  generalize upd G l2 (.lst (us++rs))=G2 at *
  have hG2:=s2 _ _ hG
  have k5:∀ b o,b≠l→G2 b=some o→upd G2 l (.lst (as.map V.ref++[.ref l2])) b=some o:=fun b o hb e=>by rw [jr hb];exact e
  have tk5:=j5 k5 hG2
  refine ⟨_,hG2,jv (by rw [List.length_map];omega),_,as++[l2],rfl,fun b o e=>k5 b o (jn e hl) (s2 _ _ (sG _ _ e)),by rw [jb,List.map_append];rfl,by rw [List.length_append,las];rfl,?_,?_⟩
  ·intro z
   rcases List.mem_append.mp z with z | z
   ·exact nl z
   ·exact n2 (List.mem_singleton.mp z).symm
  ·rw [show ways.take (i+1)=ways.take i++[ways[i]] by rw [List.take_succ,List.getElem?_eq_getElem hi];rfl,List.map_append]
   refine WayL.app ?_ ⟨⟨n3,us++rs,k5 _ _ n2 e3,?_⟩,trivial⟩
   ·have hA2:=hA.mono s2
    generalize upd G2 l (.lst (as.map V.ref++[.ref l2]))=G3 at *
    clear hG2 hG hA e3 las
    generalize (ways.take i).map (·++rows)=ws at *
    induction ws generalizing as with
    | nil=>cases as with
     | nil=>trivial
     | cons _ _=>exact hA2.elim
    | cons w ws ih=>cases as with
     | nil=>exact hA2.elim
     | cons a as=>
      obtain ⟨⟨m1,us',m2,m3⟩,m4⟩:=hA2
      exact ⟨⟨m1,us',k5 _ _ (fun z=>nl (by rw [z];exact List.mem_cons_self)) m2,tk5.heldL m3⟩,ih as (fun z=>nl (List.mem_cons_of_mem _ z)) m4⟩
   ·exact tk5.heldL (jE (hway.mono (sG.trans s2)) (hrows.mono (sG.trans s2)))
 rintro σ' G ⟨u,as,rfl,sG,hG,las,nl,hA⟩
 rw [List.length_map,lwa,List.take_length] at hA
 exact q l as G sG hl hG hA
end
end LW
namespace L2
open PySem PySem.Spec PyProof.Rows
def Kc (z:Str) (lo hi:Option Int):Str:=⟨((z.cps.toList.drop (HT.sIx z.length 0 lo)).take (HT.sIx z.length z.length hi - HT.sIx z.length 0 lo)).toArray⟩
theorem JG {a b:Str} (h:a.cps.toList=b.cps.toList):a=b:=by
 cases a;cases b
 congr 1
 exact Array.toList_inj.mp h
theorem Jd (z:Str) (lo hi:Option Int):(Kc z lo hi).cps.toList=(z.cps.toList.drop (HT.sIx z.length 0 lo)).take (HT.sIx z.length z.length hi - HT.sIx z.length 0 lo):=rfl
theorem YM (z:Str) (lo hi:Option Int):(Kc z lo hi).length≤z.length:=by
 show ((z.cps.toList.drop (HT.sIx z.length 0 lo)).take (HT.sIx z.length z.length hi - HT.sIx z.length 0 lo)).toArray.size≤z.length
 rw [List.size_toArray,List.length_take,List.length_drop]
 have:z.cps.toList.length=z.length:=by simp [Str.length]
 omega
theorem jgt (lo hi:Option Int) (n:Nat):Builtin.Str.strSliceIndices lo hi 1 n=(List.range (HT.sIx n n hi - HT.sIx n 0 lo)).map (HT.sIx n 0 lo+·):=by
 have e:Builtin.Str.strSliceIndices lo hi 1 n=sliceRange ((HT.sIx n 0 lo:Nat):Int) ((HT.sIx n n hi:Nat):Int) 1:=by
  unfold Builtin.Str.strSliceIndices
  cases lo with
  | none=>
   cases hi with
   | none=>simp [HT.sIx]
   | some i=>
    simp only [HT.sIx,show (1:Int) > 0 by decide,if_true]
    congr 1
    by_cases h:i < 0
    ·simp only [h,if_true];omega
    ·simp only [h,if_false];omega
  | some j=>
   have ej:max 0 (min (if j < 0 then j+(n:Int) else j) (n:Int))=((HT.sIx n 0 (some j):Nat):Int):=by
    simp only [HT.sIx]
    by_cases h:j < 0
    ·simp only [h,if_true];omega
    ·simp only [h,if_false];omega
   cases hi with
   | none=>
    simp only [show (1:Int) > 0 by decide,if_true,HT.sIx_none]
    rw [ej]
   | some i=>
    have ei:max 0 (min (if i < 0 then i+(n:Int) else i) (n:Int))=((HT.sIx n n (some i):Nat):Int):=by
     simp only [HT.sIx]
     by_cases h:i < 0
     ·simp only [h,if_true];omega
     ·simp only [h,if_false];omega
    simp only [show (1:Int) > 0 by decide,if_true]
    rw [ej,ei]
 rw [e,sliceRange_one]
theorem jcB {X:Cx}:SlR X (fun x lo hi H Q=>∃ z,x=.str z∧z.length≤sizeLine∧Q (.str (Kc z lo hi)) H):=by
 intro pins s σ H x v vl vu lo hi sl Q I rx hs pl pu h
 obtain ⟨z,rfl,hz,q⟩:=h
 obtain ⟨t,rfl⟩:=rx
 obtain ⟨l,hl1,hl2⟩:∃ l:Option (Int×Tok),vl=partValue l∧l.map (·.1)=lo:=by
  cases pl with
  | none=>exact ⟨none,rfl,rfl⟩
  | int i t=>exact ⟨some (i,t),rfl,rfl⟩
 obtain ⟨u,hu1,hu2⟩:∃ l:Option (Int×Tok),vu=partValue l∧l.map (·.1)=hi:=by
  cases pu with
  | none=>exact ⟨none,rfl,rfl⟩
  | int i t=>exact ⟨some (i,t),rfl,rfl⟩
 refine ⟨"str",_,slot_str_getitem.lookup,typeIs_str s z t,?_⟩
 obtain ⟨o,h1,h2,h3⟩:=hs
 have hsl:s.heap.IsSlice sl l u none:=⟨o,h1,h2,by rw [h3,hl1,hu1];rfl⟩
 refine wpAny_getItem_str_slice hsl rfl ?_
 have hp:slicePicked z l u none=(List.range (HT.sIx z.length z.length hi - HT.sIx z.length 0 lo)).map (HT.sIx z.length 0 lo+·):=by
  unfold slicePicked
  rw [hl2,hu2]
  exact jgt lo hi z.length
 have hn:z.cps.toList.length=z.length:=by simp [Str.length]
 unfold sliceMade
 split
 ·rename_i hc
  rw [Bool.and_eq_true] at hc
  have hc2:=eq_of_beq hc.2
  rw [hp,List.length_map,List.length_range] at hc2
  have hle:=HT.sIx_le z.length z.length (Nat.le_refl _) hi
  have hcz:Kc z lo hi=z:=by
   refine JG ?_
   rw [Jd]
   rw [hc2]
   by_cases h0:HT.sIx z.length 0 lo=0
   ·rw [h0,List.drop_zero,← hn,List.take_length]
   ·have:z.length=0:=by omega
    have:z.cps.toList=[]:=List.length_eq_zero_iff.mp (by omega)
    rw [this];simp
  rw [hcz] at q
  exact ⟨.str z,H,I,⟨t,rfl⟩,q⟩
 ·rw [hp,pick_run]
  exact ⟨Nat.le_trans (YM z lo hi) hz,⟨.str (Kc z lo hi),H,I.tok _,⟨_,rfl⟩,q⟩⟩
end L2
namespace LW
open PySem L2
theorem qG (z:Str):z.length=z.cps.toList.length:=by simp [Str.length]
theorem zW (x y:Str):(x++y).cps.toList=x.cps.toList++y.cps.toList:=by
 show (x.cps++y.cps).toList=_
 simp
theorem zD (x y:Str):(x++y).length=x.length+y.length:=by rw [qG,qG,qG,zW,List.length_append]
theorem ze (x:Str):Str.empty++x=x:=JG (by rw [zW];rfl)
theorem jd4 (rows:List Str):∀ (names:List Str) (x:Str),kP (zKV names (rows.map V.str)) (Sum.inr x)=((names.zip rows).lookup x).map V.str:=by
 induction rows with
 | nil=>intro names x;unfold zKV;simp [kP]
 | cons r rows ih=>
  intro names x
  cases names with
  | nil=>unfold zKV;simp [kP]
  | cons n names=>
   have ih:=ih names x
   unfold zKV at ih ⊢
   rw [List.map_cons,List.zip_cons_cons,List.map_cons,List.zip_cons_cons,List.lookup_cons]
   by_cases h:x=n
   ·subst h
    rw [kr rfl]
    simp
   ·rw [ku (fun z=>h (Sum.inr.inj z).symm),ih]
    have:(x == n)=false:=by simpa using h
    rw [this]
structure NmAt (kvs:List (Key×V)) (g:Str) (p:Pc) (rows:List Str) (i:Nat):Prop where
 v:∀ x:Str,kP kvs (Sum.inr x)=if x∈p.ps.take i then some (.str (kI g x)) else ((p.rs.zip rows).lookup x).map V.str
 l:kvs.length≤6+i
theorem NmAt.ok {kvs:List (Key×V)} {g:Str} {p:Pc} {rows:List Str} {i:Nat} (h:NmAt kvs g p rows i) (hi:p.ps.length≤i):NmOk kvs (qv g p rows):=by
 refine ⟨by unfold qv;rw [if_pos rfl],fun x hx=>?_⟩
 rw [h.v,List.take_of_length_le hi]
 unfold qv
 rw [if_neg hx]
 by_cases hp:x∈p.ps
 ·rw [if_pos hp,if_pos hp];rfl
 ·rw [if_neg hp,if_neg hp]
  cases (p.rs.zip rows).lookup x <;> rfl
theorem NmAt.out {kvs:List (Key×V)} {g:Str} {p:Pc} {rows:List Str} {i:Nat} (h:NmAt kvs g p rows i) (hi:p.ps.length≤i) (x0:Str):NmOk (j7 kvs (Sum.inr "out") (.str x0)) (qV g p rows x0):=by
 have ho:=h.ok hi
 have ne:¬ (("" : Str) = "out"):=by decide
 refine ⟨by unfold qV;rw [if_neg ne];exact ho.e,fun x hx=>?_⟩
 rw [qm]
 unfold qV
 by_cases hp:x = "out"
 ·rw [if_pos hp,if_pos (by rw [hp])];rfl
 ·rw [if_neg hp,if_neg (fun z=>hp (Sum.inr.inj z))]
  exact ho.g x hx
theorem WayL.keepL {G G':Hp} {ml:Addr} (k:∀ b xs,G b=some (.lst xs)→G' b=some (.lst xs)) (tk:TK G G'):∀ {ws:List (List D)} {as:List Addr},WayL G ml ws as→WayL G' ml ws as
 | [],[],_=>trivial
 | w :: ws,a :: as,hd=>by
  obtain ⟨⟨n,us,e,hh⟩,hr⟩:=hd
  exact ⟨⟨n,us,k _ _ e,tk.heldL hh⟩,WayL.keepL k tk hr⟩
 | [],_ :: _,hd=>hd.elim
 | _ :: _,[],hd=>hd.elim
theorem DutsAt.keepL {G G':Hp} (k:∀ b xs,G b=some (.lst xs)→G' b=some (.lst xs)) (tk:TK G G'):∀ {ds:List Du} {vs:List V} {wls:List Addr},DutsAt G ds vs wls→DutsAt G' ds vs wls
 | [],[],[],_=>trivial
 | d :: ds,v :: vs,wl :: wls,hd=>by
  obtain ⟨⟨t,pt,us,gv,rfl,h1,h2,h3,h4,h5⟩,h⟩:=hd
  exact ⟨⟨t,pt,us,gv,rfl,tk _ _ h1,tk _ _ h2,k _ _ h3,tk.heldL h4,tk.held h5⟩,DutsAt.keepL k tk h⟩
 | [],[],_ :: _,hd=>hd.elim
 | [],_ :: _,_,hd=>hd.elim
 | _ :: _,[],_,hd=>hd.elim
 | _ :: _,_ :: _,[],hd=>hd.elim
theorem DutsAt.mono {G G':Hp} (s:Same G G') {ds:List Du} {vs:List V} {wls:List Addr} (h:DutsAt G ds vs wls):DutsAt G' ds vs wls:=DutsAt.keepL (fun b xs e=>s _ _ e) (fun b ys e=>s _ _ e) h
theorem zO {G:Hp} {a b:Addr} {xs:List V} {ys:List V} (h1:G a=some (.tup ys)) (h2:G b=some (.lst xs)):a≠b:=fun z=>by rw [z,h2] at h1;cases h1
section
variable {P:Program} {w:World} {K:W.Frag} {mg:Str→Option Value} {base:Heap}
theorem jda {CW:Addr} {f:Addr} {fd:FuncData} (T:ClsW K CW) (F:Fun K "walk_call" "walk_call" qb f fd) (B:Free0 mg) (Z_zip:mg "zip" = none) (F_meet:Fn P w K mg base 1 "meet" ["walk","kind","path","ways","claims"] (jay CW)) (F_behind_each:Fn P w K mg base 1 "behind_each" ["ways","rows"] JM) (F_said:Fn P w K mg base 4 "said" ["claim","names"] jcx) (F_known:Fn P w K mg base 1 "known" ["claims"] Y1):FnOk P w K mg base CX0 5 f fd ["walk","statement","ways","path"] (jat CW):=by
 have sc:FnScope ["walk","statement","ways","path","x","f","args","rows","params","own_rows","needs","gives","names","handed","y","arg","told"] ["walk","statement","ways","path"] (js qb):=fQ
 refine F.okZ sc (fun vs H Q E h=>?_) (fun cdv A outer s H vs Q E hr h=>?_)
 ·obtain ⟨wo,dx,ml,dp,pt,wy,sv,f,gs,pr,ms,path,ways,x,g,as,rows,rfl,_⟩:=h
  rfl
 obtain ⟨wo,dx,ml,dp,pt,wy,sv,f,gs,pr,ms,path,ways,x,g,as,rows,rfl,W,hpt,hS,hfit,hfew,hm,hl40,hw800,q⟩:=h
 have hu:=jaW hr
 refine ⟨_,(jg (zh (jV qR (zpv 1) (jO je) kq) (ko rfl (jA (jt (i:=4) sc.nd rfl oQ) (jA (jt (i:=5) sc.nd rfl oQ) (jA (jt (i:=6) sc.nd rfl oQ) (jA (jt (i:=7) sc.nd rfl oQ) j9))))))
   (jg (zh (jV qR (Jy hu (zX (zpv 0) rfl) (zpv 5) (fun _ _=>rfl)) (jO je) (jO je)) (ko rfl (jA (jt (i:=8) sc.nd rfl oQ) (jA (jt (i:=9) sc.nd rfl oQ) (jA (jt (i:=10) sc.nd rfl oQ) (jA (jt (i:=11) sc.nd rfl oQ) j9))))))
   (jg (jx (i:=12) sc.nd rfl oQ (jbc rfl (by rfl) B.dict_ je0 (by rfl) Z_zip jdV (ja (zpv 9) (ja (zpv 7) jd))))
   (jg (jx (i:=13) sc.nd rfl oQ (jI jd))
   (jg (jZ PassesOwn.never rfl (K8 (by rfl) Z_zip (ja (zpv 8) (ja (zpv 6) jd))) (ko rfl (jA (jt (i:=14) sc.nd rfl oQ) (jA (jt (i:=15) sc.nd rfl oQ) j9))) (jg (zI hu (zpv 12) (zpv 14) (jb4 (Yn (jan (zpv 5)) (Yn jo (Yn (jan (zpv 14)) jfy)))) rfl)
   (ji (jK (kb PySem.F.plainAttrs_list PySem.F.slot_list_append PySem.F.type_list_append jQ (zpv 13) (ja (jy (ja jo (ja (Jy hu (zpv 12) (zpv 14) (fun _ _=>rfl)) (ja (jy (ja jo (ja (zpv 15) jd))) (ja je jd))))) jd))))))
   (jg (jx (i:=2) sc.nd rfl oQ (ju F_behind_each hr (ja (zpv 2) (ja (zpv 13) jd))))
   (jg (jK (ju F_meet hr (ja (zpv 0) (ja jo (ja (zpv 3) (ja (zpv 2) (ja (ql ["need"] [12] rfl (kQ (sc:=js qb) (N:=["walk","statement","ways","path","x","f","args","rows","params","own_rows","needs","gives","names","handed","y","arg","told"]) rfl rfl (by decide +kernel)) (kO (zpv 10)) (fun s H ex=>⟨(jt (i:=0) (show List.Nodup (["need","names"]:List Str) by decide +kernel) rfl oQ),qk,(ju F_said hr (ja (zpv 0) (ja (zpv 1) jd)))⟩)) jd)))))))
   (jg (zI hu (zpv 12) jo (zpv 4) rfl)
   (jg (jx (i:=16) sc.nd rfl oQ (ju F_known hr (ja (ql ["give"] [12] rfl (kQ (sc:=js qb) (N:=["walk","statement","ways","path","x","f","args","rows","params","own_rows","needs","gives","names","handed","y","arg","told"]) rfl rfl (by decide +kernel)) (kO (zpv 11)) (fun s H ex=>⟨(jt (i:=0) (show List.Nodup (["give","names"]:List Str) by decide +kernel) rfl oQ),qk,(ju F_said hr (ja (zpv 0) (ja (zpv 1) jd)))⟩)) jd)))
   (ji (jw (ju F_behind_each hr (ja (zpv 2) (ja (jm kD (jm kD (ql ["r"] [] rfl (kQ (sc:=js qb) (N:=["walk","statement","ways","path","x","f","args","rows","params","own_rows","needs","gives","names","handed","y","arg","told"]) rfl rfl (by decide +kernel)) (kO (zpv 7)) (fun s H ex=>⟨(jt (i:=0) (show List.Nodup (["r"]:List Str) by decide +kernel) rfl oQ),qk,(jy (ja jo (ja (zpv 0) jd)))⟩)) (jI (ja (jy (ja jo (ja (zpv 4) jd))) jd))) (zpv 16)) jd)))))))))))))),?_⟩
 refine jR (σ':=[some (.ref wo),some sv,some (.ref wy),some (.ref pt),none,none,none,none,none,none,none,none,none,none,none,none,none]) rfl ?_
 obtain ⟨a,ba,ca,rfl,ha,hba,hca⟩:=zV hS
 obtain ⟨hg,hcal,hlp,hlr⟩:=hfit
 have hfa:=hfew.1
 have hfr:=hfew.2
 refine ⟨_,rfl,_,rfl,a,_,rfl,SqT.of ha,(fun h=>absurd h.1 (by show ¬ (HT.sIx 5 0 (some 1)=0);decide)),fun t ht=>?_⟩
 have s1:=jf ht (.tup (ki [V.str "call",.str x,.str g,.ref ba,.ref ca] (some 1) none))
 have e1:upd H t (.tup (ki [V.str "call",.str x,.str g,.ref ba,.ref ca] (some 1) none)) t=some (.tup [.str x,.str g,.ref ba,.ref ca]):=jb
 generalize upd H t (.tup (ki [V.str "call",.str x,.str g,.ref ba,.ref ca] (some 1) none))=H1 at *
 refine ⟨t,_,rfl,SqT.of e1,rfl,_,_,rfl,_,_,rfl,_,_,rfl,_,_,rfl,rfl,?_⟩
 refine jR (σ':=[some (.ref wo),some (.ref a),some (.ref wy),some (.ref pt),some (.str x),some (.str g),some (.ref ba),some (.ref ca),none,none,none,none,none,none,none,none,none]) rfl ?_
 have W1:=W.mono s1
 obtain ⟨kvs,hdp,hpr⟩:=W.hp
 obtain ⟨pv',hpv,hP⟩:=hpr g hg
 obtain ⟨pa,ap,ar,an,ag,ab,vn,vg,vb,rfl,hpa,hap,har,han,hn,hag,hgv,hab,hbb⟩:=yX hP
 refine ⟨_,rfl,wo,CW,dx,_,_,rfl,W1.hwo,T.c,T.n2,rfl,_,rfl,dp,_,rfl,(by have:=DGet.k (k:=Sum.inr g) (s1 _ _ hdp);rw [hpv] at this;exact this),?_⟩
 refine ⟨_,rfl,_,rfl,pa,_,rfl,SqT.of (s1 _ _ hpa),(fun h=>absurd h.1 (by show ¬ (HT.sIx 7 0 (some 2)=0);decide)),fun t2 ht2=>?_⟩
 have s2:=jf ht2 (.tup (ki [V.str "proc",.str (pr g).f,.ref ap,.ref ar,.ref an,.ref ag,.ref ab] (some 2) (some 6)))
 have e2:upd H1 t2 (.tup (ki [V.str "proc",.str (pr g).f,.ref ap,.ref ar,.ref an,.ref ag,.ref ab] (some 2) (some 6))) t2=some (.tup [.ref ap,.ref ar,.ref an,.ref ag]):=jb
 generalize upd H1 t2 (.tup (ki [V.str "proc",.str (pr g).f,.ref ap,.ref ar,.ref an,.ref ag,.ref ab] (some 2) (some 6)))=H2 at *
 refine ⟨t2,_,rfl,SqT.of e2,rfl,_,_,rfl,_,_,rfl,_,_,rfl,_,_,rfl,rfl,?_⟩
 refine jR (σ':=[some (.ref wo),some (.ref a),some (.ref wy),some (.ref pt),some (.str x),some (.str g),some (.ref ba),some (.ref ca),some (.ref ap),some (.ref ar),some (.ref an),some (.ref ag),none,none,none,none,none]) rfl ?_
 have s12:=s1.trans s2
 refine ⟨_,rfl,_,rfl,ar,ca,(pr g).rs,rows.map V.str,rfl,SqT.of (s12 _ _ har),SqT.of (s12 _ _ hca),by rw [List.length_map];exact hlr,hcal.rs,Nat.le_trans hcal.rsl (by decide),fun dn hdn=>?_⟩
 have s3:=jf hdn (.dK (zKV (pr g).rs (rows.map V.str)))
 have e3:upd H2 dn (.dK (zKV (pr g).rs (rows.map V.str))) dn=some (.dK (zKV (pr g).rs (rows.map V.str))):=jb
 generalize upd H2 dn (.dK (zKV (pr g).rs (rows.map V.str)))=H3 at *
 have s13:=s12.trans s3
 refine gQ ?_
 refine ⟨sm rfl,fun hl hhl=>?_⟩
 have s4:=jf hhl (.lst [])
 have e4:upd H3 hl (.lst []) hl=some (.lst []):=jb
 generalize upd H3 hl (.lst [])=H4 at *
 have s14:=s13.trans s4
 have e3':=s4 _ _ e3
 have ndh:dn≠hl:=fun z=>by rw [z,e4] at e3';cases e3'
 have hdn0:H dn=none:=s12.free hdn
 have hhl0:H hl=none:=s13.free hhl
 have W4:=W.mono s14
 refine gQ ?_
 refine ⟨_,rfl,_,rfl,ap,ba,rfl,⟨_,SqT.of (s14 _ _ hap)⟩,⟨_,SqT.of (s14 _ _ hba)⟩,?_⟩
 have hnm0:NmAt (zKV (pr g).rs (rows.map V.str)) g (pr g) rows 0:=⟨fun z=>by rw [jd4,List.take_zero];simp,by unfold zKV;rw [List.length_map,List.length_zip,List.length_map];have:=hcal.rsl;omega⟩
 have hlP:(pr g).ps.length≤6:=hcal.psl
 refine YG (xs:=(pr g).ps.map V.str) (ys:=as.map V.str) (fun i σ G=>∃ u14 u15 kvs hs,σ=[some (.ref wo),some (.ref a),some (.ref wy),some (.ref pt),some (.str x),some (.str g),some (.ref ba),some (.ref ca),some (.ref ap),some (.ref ar),some (.ref an),some (.ref ag),some (.ref dn),some (.ref hl),u14,u15,none]∧Same H G∧G dn=some (.dK kvs)∧NmAt kvs g (pr g) rows i∧G hl=some (.lst hs)∧HeldL G (jJ g ((pr g).ps.take i) (as.take i)) hs∧hs.length=i) (by rw [List.length_map,List.length_map];exact hlp) ⟨none,none,_,[],rfl,s14,e3',hnm0,e4,by rw [List.take_zero,List.take_zero];exact jl,rfl⟩ ?_ ?_ ?_
 ·rintro i σ G _ ⟨u14,u15,kvs,hs,rfl,sG,_⟩
  exact ⟨SqT.of (sG _ _ hap),SqT.of (sG _ _ hba)⟩
 ·rintro i vx vy σ G t3 hx hy ⟨u14,u15,kvs,hs,rfl,sG,hGd,hN,hGh,hH,lhs⟩ ht3
  have hip:i < (pr g).ps.length:=by have:=(List.getElem?_eq_some_iff.mp hx).1;rw [List.length_map] at this;exact this
  have hia:i < as.length:=by omega
  rw [List.getElem?_map,List.getElem?_eq_getElem hip] at hx
  rw [List.getElem?_map,List.getElem?_eq_getElem hia] at hy
  cases hx
  cases hy
  have etk:(pr g).ps.take (i+1)=(pr g).ps.take i++[(pr g).ps[i]]:=by rw [List.take_succ,List.getElem?_eq_getElem hip];rfl
  have etk2:as.take (i+1)=as.take i++[as[i]]:=by rw [List.take_succ,List.getElem?_eq_getElem hia];rfl
  have hhd:jJ g ((pr g).ps.take (i+1)) (as.take (i+1))=jJ g ((pr g).ps.take i) (as.take i)++[jbn (kI g (pr g).ps[i]) as[i]]:=by
   unfold jJ
   rw [etk,etk2,List.zip_append (by rw [List.length_take,List.length_take];omega),List.map_append]
   rfl
  have hyl:=hcal.yl _ (List.getElem_mem hip)
  have hgl:=hcal.gl
  rw [hhd]
  have hNv:=hN.v
  have hmem:∀ z,z∈(pr g).ps.take (i+1)↔z∈(pr g).ps.take i∨z=(pr g).ps[i]:=fun z=>by rw [etk,List.mem_append,List.mem_singleton]
  generalize (pr g).ps[i]=y at *
  generalize as[i]=arg at *
  have z1:=jf ht3 (.tup [V.str y,.str arg])
  have y1:upd G t3 (.tup [V.str y,.str arg]) t3=some (.tup [V.str y,.str arg]):=jb
  generalize upd G t3 (.tup [V.str y,.str arg])=G1 at *
  refine ⟨t3,_,rfl,SqT.of y1,rfl,_,_,rfl,_,_,rfl,rfl,?_⟩
  refine jR (σ':=[some (.ref wo),some (.ref a),some (.ref wy),some (.ref pt),some (.str x),some (.str g),some (.ref ba),some (.ref ca),some (.ref ap),some (.ref ar),some (.ref an),some (.ref ag),some (.ref dn),some (.ref hl),some (.str y),some (.str arg),none]) rfl ?_
  have dl:("." : Str).length=1:=by decide +kernel
  refine ⟨_,rfl,g,rfl,Nat.le_trans hgl (ka (by decide)),g,rfl,(by rw [ze];exact Nat.le_trans hgl (ka (by decide))),".",rfl,(by rw [ze,zD,dl];exact Nat.le_trans (Nat.add_le_add_right hgl 1) (ka (by decide))),_,rfl,y,rfl,Nat.le_trans hyl (ka (by decide)),y,rfl,(by rw [ze,zD,zD,dl];exact ka (by omega)),(by rw [ze,zD,zD,dl];exact ka (by omega)),?_⟩
  rw [show Str.empty++g++("." : Str)++y=kI g y by rw [ze];rfl]
  have hGd1:=z1 _ _ hGd
  have hll:=hN.l
  refine ⟨_,rfl,_,rfl,dn,_,rfl,DPut.k (k:=Sum.inr y) hGd1 (jv (by omega)),?_⟩
  have k2:∀ b o,b≠dn→G1 b=some o→upd G1 dn (.dK (j7 kvs (Sum.inr y) (.str (kI g y)))) b=some o:=fun b o hb e=>by rw [jr hb];exact e
  have tk2:TK G1 (upd G1 dn (.dK (j7 kvs (Sum.inr y) (.str (kI g y))))):=fun b ys e=>k2 b _ (fun z=>by rw [z,hGd1] at e;cases e) e
  have y2:upd G1 dn (.dK (j7 kvs (Sum.inr y) (.str (kI g y)))) dn=some (.dK (j7 kvs (Sum.inr y) (.str (kI g y)))):=jb
  have hN':NmAt (j7 kvs (Sum.inr y) (.str (kI g y))) g (pr g) rows (i+1):=⟨fun z=>by
   rw [qm]
   by_cases hz:z=y
   ·rw [if_pos (by rw [hz]),if_pos ((hmem z).mpr (.inr hz)),hz]
   ·rw [if_neg (fun e=>hz (Sum.inr.inj e)),hNv z]
    by_cases hp:z∈(pr g).ps.take i
    ·rw [if_pos hp,if_pos ((hmem z).mpr (.inl hp))]
    ·rw [if_neg hp,if_neg (fun e=>((hmem z).mp e).elim hp hz)],by have:=yH kvs (Sum.inr y) (.str (kI g y));omega⟩
  have hv2:kP (j7 kvs (Sum.inr y) (.str (kI g y))) (Sum.inr y)=some (.str (kI g y)):=by rw [qm,if_pos rfl]
  generalize j7 kvs (Sum.inr y) (.str (kI g y))=kvs2 at *
  generalize upd G1 dn (.dK kvs2)=G2 at *
  have hGh2:=k2 _ _ (Ne.symm ndh) (z1 _ _ hGh)
  refine ⟨_,rfl,.inl ⟨rfl,_,SqL.of hGh2⟩,?_⟩
  refine ⟨_,rfl,_,rfl,dn,_,rfl,(by have:=DGet.k (k:=Sum.inr y) y2;rw [hv2] at this;exact this),?_⟩
  refine ⟨_,rfl,sm rfl,fun t4 ht4=>?_⟩
  have z3:=jf ht4 (.tup [V.str "is",.str arg])
  have y3:upd G2 t4 (.tup [V.str "is",.str arg]) t4=some (.tup [V.str "is",.str arg]):=jb
  generalize upd G2 t4 (.tup [V.str "is",.str arg])=G3 at *
  refine ⟨sm rfl,fun t5 ht5=>?_⟩
  have z4:=jf ht5 (.tup [V.str "set",.str (kI g y),.ref t4,.int 0])
  have y4:upd G3 t5 (.tup [V.str "set",.str (kI g y),.ref t4,.int 0]) t5=some (.tup [V.str "set",.str (kI g y),.ref t4,.int 0]):=jb
  generalize upd G3 t5 (.tup [V.str "set",.str (kI g y),.ref t4,.int 0])=G4 at *
  have z34:=z3.trans z4
  have hGh4:=z34 _ _ hGh2
  have hz:Held G4 (jbn (kI g y) arg) (.ref t5):=jp y4 (jc jk (jc jk (jc (jp (z4 _ _ y3) (jc jk (jc jk jl))) (jc jU jl))))
  have tk:TK G4 (upd G4 hl (.lst (hs++[.ref t5]))):=TK.upd hGh4 (fun _ z=>by cases z)
  refine ⟨hl,_,_,rfl,rfl,hGh4,jv (by omega),_,_,kvs2,hs++[.ref t5],rfl,fun b o e=>?_,?_,hN',jb,?_,by rw [List.length_append,lhs];rfl⟩
  ·rw [jr (jn e hhl0)]
   exact z34 _ _ (k2 _ _ (jn e hdn0) (z1 _ _ (sG _ _ e)))
  ·rw [jr ndh];exact z34 _ _ y2
  ·exact jE (tk.heldL ((tk2.heldL (hH.mono z1)).mono z34)) (jW (tk.held hz))
 clear e4 e3' hnm0
 rintro σ G ⟨u14,u15,kvs2,hs,rfl,sG,hGd,hN,hGh,hH,lhs⟩
 rw [List.length_map] at hN hH lhs
 rw [List.take_length,hlp,List.take_length] at hH
 have WG:=W.mono sG
 have nw:∀ w∈ways,w.length+(jJ g (pr g).ps as).length≤900:=fun w hw=>by
  have:=hw800 w hw
  have e:(jJ g (pr g).ps as).length≤6:=by unfold jJ;rw [List.length_map,List.length_zip];omega
  omega
 have hlhd:(jJ g (pr g).ps as).length≤6:=by unfold jJ;rw [List.length_map,List.length_zip];omega
 obtain ⟨was,hwy,hW⟩:=WG.hwy
 refine ⟨_,rfl,_,rfl,wy,ml,hl,was,ms,hs,ways,jJ g (pr g).ps as,rfl,hwy,WG.hml,hW,hGh,hH,hl40,nw,fun wy1 was1 G1 z1 nwy1 hwy1 hW1=>?_⟩
 have sG1:=sG.trans z1
 have hGd1:=z1 _ _ hGd
 have hoN:=hN.ok (Nat.le_refl _)
 have hnl:=hn.length
 rw [List.length_map] at hnl
 have hgl:=hgv.length
 rw [List.length_map] at hgl
 have hnd20:=hcal.nd
 have hgv20:=hcal.gv
 have nwyml:wy1≠ml:=fun z=>by rw [z,WG.hml] at nwy1;cases nwy1
 refine gQ ?_
 refine ⟨_,rfl,_,rfl,_,rfl,_,rfl,an,rfl,⟨_,SqT.of (sG1 _ _ han)⟩,fun ln hln=>?_⟩
 refine zT (xs:=vn) (fun i σ' G'=>∃ u ks,σ'=[u,some (.ref dn)]∧Same G1 G'∧G' ln=some (.lst ks)∧HeldL G' ((((pr g).nd.take i).map (Cl.say (qv g (pr g) rows))).map Cl.toD) ks) ⟨none,[],rfl,jf hln _,jb,jl⟩ ?_ ?_ ?_
 ·rintro i σ' G' _ ⟨u,ks,rfl,sG',_⟩
  exact SqT.of (sG' _ _ (sG1 _ _ han))
 ·rintro i v σ' G' hx ⟨u,ks,rfl,sG',hG',hk⟩
  have hi:i < (pr g).nd.length:=by have:=(List.getElem?_eq_some_iff.mp hx).1;omega
  obtain ⟨x',hx',hxH⟩:=hn.get (show ((pr g).nd.map Cl.toD)[i]?=some (pr g).nd[i].toD by rw [List.getElem?_map,List.getElem?_eq_getElem hi];rfl)
  rw [hx] at hx'
  cases hx'
  have hkl:=hk.length
  rw [List.length_map,List.length_map,List.length_take] at hkl
  unfold kX JD
  refine zy ?_
  refine ⟨_,rfl,_,rfl,v,(pr g).nd[i],dn,kvs2,_,rfl,hxH.mono (sG1.trans sG'),sG' _ _ hGd1,hoN,fun r G2 z2 hr'=>?_⟩
  have hG2:=z2 _ _ hG'
  have tk:TK G2 (upd G2 ln (.lst (ks++[r]))):=TK.upd hG2 (fun _ z=>by cases z)
  refine ⟨ks,hG2,jv (by omega),_,_,rfl,fun b o e=>?_,jb,?_⟩
  ·rw [jr (jn e hln)];exact z2 _ _ (sG' _ _ e)
  ·rw [show (pr g).nd.take (i+1)=(pr g).nd.take i++[(pr g).nd[i]] by rw [List.take_succ,List.getElem?_eq_getElem hi];rfl,List.map_append,List.map_append]
   exact jE (tk.heldL (hk.mono z2)) (jW (tk.held hr'))
 rintro σ' G2 ⟨u,ks,rfl,z2,hG2,hk⟩
 rw [show (pr g).nd.take vn.length=(pr g).nd by rw [← hnl,List.take_length]] at hk
 have sG2:=sG1.trans z2
 have nln:ln≠ml:=fun z=>by rw [z,z1 _ _ WG.hml] at hln;cases hln
 have W2:=W.mono sG2
 have lw1:(ways.map (·++jJ g (pr g).ps as)).length≤40:=by rw [List.length_map];exact hl40
 refine ⟨wo,dx,ml,pt,wy1,ln,was1,f,"need",.ref dp,ms,ks,path,_,(pr g).nd.map (Cl.say (qv g (pr g) rows)),rfl,W2.hwo,W2.hml,sG2 _ _ hpt,z2 _ _ hwy1,hW1.mono z2,hG2,hk,nwyml,nln,lw1,?_,fun ms' wls G3 k3 hml3 hD3 nd3 new3=>?_⟩
 ·rw [List.length_map,List.length_map]
  have:ways.length * (pr g).nd.length≤ways.length * 20:=Nat.mul_le_mul_left _ hnd20
  omega
 have kA:∀ b o,b≠ml→H b=some o→G3 b=some o:=fun b o hb e=>k3 b o hb (sG2 _ _ e)
 have W3:=W.keep kA hml3
 have ndml:dn≠ml:=fun z=>by rw [z,W.hml] at hdn0;cases hdn0
 have hGd3:=k3 _ _ ndml (z2 _ _ hGd1)
 have hwy3:=k3 _ _ nwyml (z2 _ _ hwy1)
 have hW3:=(hW1.mono z2).keep k3 W2.hml
 have hagm:=zO hag W.hml
 have hcam:=zO hca W.hml
 have hll:=hN.l
 refine ⟨_,rfl,_,rfl,dn,_,rfl,DPut.k (k:=Sum.inr "out") hGd3 (jv (by omega)),?_⟩
 have hoO:=hN.out (Nat.le_refl _) x
 have k4:∀ b o,b≠dn→G3 b=some o→upd G3 dn (.dK (j7 kvs2 (Sum.inr "out") (.str x))) b=some o:=fun b o hb e=>by rw [jr hb];exact e
 have y4:upd G3 dn (.dK (j7 kvs2 (Sum.inr "out") (.str x))) dn=some (.dK (j7 kvs2 (Sum.inr "out") (.str x))):=jb
 generalize j7 kvs2 (Sum.inr "out") (.str x)=kvs3 at *
 generalize upd G3 dn (.dK kvs3)=G4 at *
 have k4l:∀ b xs,G3 b=some (.lst xs)→G4 b=some (.lst xs):=fun b xs e=>k4 b _ (fun z=>by rw [z,hGd3] at e;cases e) e
 have k4t:TK G3 G4:=fun b ys e=>k4 b _ (fun z=>by rw [z,hGd3] at e;cases e) e
 have kB:∀ b o,b≠ml→H b=some o→G4 b=some o:=fun b o hb e=>k4 _ _ (jn e hdn0) (kA b o hb e)
 have hml4:=k4l _ _ hml3
 have hD4:DutsAt G4 (kS f "need" path (ways.map (·++jJ g (pr g).ps as)) ((pr g).nd.map (Cl.say (qv g (pr g) rows)))) ms' wls:=DutsAt.keepL k4l k4t hD3
 have hwy4:=k4l _ _ hwy3
 have hW4:=hW3.keepL k4l k4t
 have hgv4:=(j5 kB W.hml).heldL hgv
 refine ⟨_,rfl,ag,rfl,⟨_,SqT.of (kB _ _ hagm hag)⟩,fun lg hlg=>?_⟩
 refine zT (xs:=vg) (fun i σ' G'=>∃ u ks,σ'=[u,some (.ref dn)]∧Same G4 G'∧G' lg=some (.lst ks)∧HeldL G' ((((pr g).gv.take i).map (Cl.say (qV g (pr g) rows x))).map Cl.toD) ks) ⟨none,[],rfl,jf hlg _,jb,jl⟩ ?_ ?_ ?_
 ·rintro i σ' G' _ ⟨u,ks,rfl,sG',_⟩
  exact SqT.of (sG' _ _ (kB _ _ hagm hag))
 ·rintro i v σ' G' hx ⟨u,ks,rfl,sG',hG',hk⟩
  have hi:i < (pr g).gv.length:=by have:=(List.getElem?_eq_some_iff.mp hx).1;omega
  obtain ⟨x',hx',hxH⟩:=hgv4.get (show ((pr g).gv.map Cl.toD)[i]?=some (pr g).gv[i].toD by rw [List.getElem?_map,List.getElem?_eq_getElem hi];rfl)
  rw [hx] at hx'
  cases hx'
  have hkl:=hk.length
  rw [List.length_map,List.length_map,List.length_take] at hkl
  unfold kX JD
  refine zy ?_
  refine ⟨_,rfl,_,rfl,v,(pr g).gv[i],dn,kvs3,_,rfl,hxH.mono sG',sG' _ _ y4,hoO,fun r G2 z2 hr'=>?_⟩
  have hG2:=z2 _ _ hG'
  have tk:TK G2 (upd G2 lg (.lst (ks++[r]))):=TK.upd hG2 (fun _ z=>by cases z)
  refine ⟨ks,hG2,jv (by omega),_,_,rfl,fun b o e=>?_,jb,?_⟩
  ·rw [jr (jn e hlg)];exact z2 _ _ (sG' _ _ e)
  ·rw [show (pr g).gv.take (i+1)=(pr g).gv.take i++[(pr g).gv[i]] by rw [List.take_succ,List.getElem?_eq_getElem hi];rfl,List.map_append,List.map_append]
   exact jE (tk.heldL (hk.mono z2)) (jW (tk.held hr'))
 rintro σ' G5 ⟨u',ks2,rfl,z5,hG5,hk5⟩
 rw [show (pr g).gv.take vg.length=(pr g).gv by rw [← hgl,List.take_length]] at hk5
 refine ⟨lg,ks2,(pr g).gv.map (Cl.say (qV g (pr g) rows x)),rfl,hG5,hk5,by rw [List.length_map];omega,fun lk ks3 G6 z6 nlk hlk hk6=>?_⟩
 have z56:=z5.trans z6
 refine gQ ?_
 refine ⟨_,rfl,_,rfl,ca,rfl,⟨_,SqT.of (z56 _ _ (kB _ _ hcam hca))⟩,fun lr hlr=>?_⟩
 have z46:=z56
 have hlen6:=hk6.length
 rw [List.length_map,List.length_map] at hlen6
 refine zT (xs:=rows.map V.str) (fun i σ' G'=>∃ u ks,σ'=[u]∧Same G6 G'∧G' lr=some (.lst ks)∧HeldL G' ((rows.take i).map KL) ks) ⟨none,[],rfl,jf hlr _,jb,jl⟩ ?_ ?_ ?_
 ·rintro i σ' G' _ ⟨u,ks,rfl,sG',_⟩
  exact SqT.of (sG' _ _ (z56 _ _ (kB _ _ hcam hca)))
 ·rintro i v σ' G' hx ⟨u,ks,rfl,sG',hG',hk⟩
  have hi:i < rows.length:=by have:=(List.getElem?_eq_some_iff.mp hx).1;rw [List.length_map] at this;exact this
  rw [List.getElem?_map,List.getElem?_eq_getElem hi] at hx
  cases hx
  have hkl:=hk.length
  rw [List.length_map,List.length_take] at hkl
  unfold kX JD
  refine zy ?_
  refine ⟨_,rfl,sm rfl,fun t7 ht7=>?_⟩
  have z2:=jf ht7 (.tup [V.str "lose",.str rows[i]])
  have y2:upd G' t7 (.tup [V.str "lose",.str rows[i]]) t7=some (.tup [V.str "lose",.str rows[i]]):=jb
  generalize upd G' t7 (.tup [V.str "lose",.str rows[i]])=G2 at *
  have hG2:=z2 _ _ hG'
  have tk:TK G2 (upd G2 lr (.lst (ks++[.ref t7]))):=TK.upd hG2 (fun _ z=>by cases z)
  refine ⟨ks,hG2,jv (by omega),_,_,rfl,fun b o e=>?_,jb,?_⟩
  ·rw [jr (jn e hlr)];exact z2 _ _ (sG' _ _ e)
  ·rw [show rows.take (i+1)=rows.take i++[rows[i]] by rw [List.take_succ,List.getElem?_eq_getElem hi];rfl,List.map_append]
   exact jE (tk.heldL (hk.mono z2)) (jW (tk.held (jp y2 (jc jk (jc jk jl)))))
 rintro σ' G7 ⟨u7,ks7,rfl,z7,hG7,hk7⟩
 rw [List.length_map,List.take_length] at hk7
 have hl7:=hk7.length
 rw [List.length_map] at hl7
 refine ⟨_,rfl,sm rfl,fun t8 ht8=>?_⟩
 have z8:=jf ht8 (.tup [V.str "any",.str x])
 have y8:upd G7 t8 (.tup [V.str "any",.str x]) t8=some (.tup [V.str "any",.str x]):=jb
 generalize upd G7 t8 (.tup [V.str "any",.str x])=G8 at *
 refine ⟨sm rfl,fun l9 hl9=>?_⟩
 have z9:=jf hl9 (.lst [V.ref t8])
 have y9:upd G8 l9 (.lst [V.ref t8]) l9=some (.lst [V.ref t8]):=jb
 generalize upd G8 l9 (.lst [V.ref t8])=G9 at *
 have z89:=z8.trans z9
 refine ⟨lr,l9,_,_,rfl,rfl,z89 _ _ hG7,y9,Nat.le_trans (by show ks7.length+1≤1000;omega) (ka (Nat.le_refl 1000)),fun l10 hl10=>?_⟩
 have z10:=jf hl10 (.lst (ks7++[V.ref t8]))
 have y10:upd G9 l10 (.lst (ks7++[V.ref t8])) l10=some (.lst (ks7++[V.ref t8])):=jb
 generalize upd G9 l10 (.lst (ks7++[V.ref t8]))=G10 at *
 have z710:=z7.trans (z89.trans z10)
 refine ⟨_,rfl,l10,lk,_,_,rfl,rfl,y10,z710 _ _ hlk,Nat.le_trans (by rw [List.length_append];show ks7.length+1+_≤1000;omega) (ka (Nat.le_refl 1000)),fun l11 hl11=>?_⟩
 have z11:=jf hl11 (.lst (ks7++[V.ref t8]++ks3))
 have y11:upd G10 l11 (.lst (ks7++[V.ref t8]++ks3)) l11=some (.lst (ks7++[V.ref t8]++ks3)):=jb
 generalize upd G10 l11 (.lst (ks7++[V.ref t8]++ks3))=G11 at *
 have z611:=z710.trans z11
 have z411:=z56.trans z611
 have hrows:HeldL G11 (zJ g (pr g) rows x) (ks7++[V.ref t8]++ks3):=jE (jE (hk7.mono (z89.trans (z10.trans z11))) (jW (jp ((z9.trans (z10.trans z11)) _ _ y8) (jc jk (jc jk jl))))) (hk6.mono z611)
 have hltd:(zJ g (pr g) rows x).length≤30:=by
  have:=hrows.length
  rw [this,List.length_append,List.length_append]
  show ks7.length+1+_≤30
  omega
 refine ⟨wy1,ml,l11,was1,_,_,_,zJ g (pr g) rows x,rfl,z411 _ _ hwy4,z411 _ _ hml4,hW4.mono z411,y11,hrows,lw1,fun w hw=>?_,fun wy2 was2 G12 z12 nwy2 hwy2 hW12=>?_⟩
 ·obtain ⟨w',hw',rfl⟩:=List.mem_map.mp hw
  have:=hw800 w' hw'
  rw [List.length_append]
  omega
 have z412:=z411.trans z12
 have W12:=(W.keep kB hml4).mono z412
 refine q ms' wls wy2 G12 (fun b o hb e=>z412 _ _ (kB b o hb e)) ⟨W12.hwo,W12.hml,W12.hp,⟨was2,hwy2,hW12⟩,?_⟩ (hD4.mono z412) nd3 fun b hb=>sG2.free (new3 b hb)
 exact fun z=>by rw [z,z411 _ _ hml4] at nwy2;cases nwy2
end
theorem JA (f:Str) (pr:Str→Pc) (path:List Int) (ways:List (List D)) (S:Sm):(S.walk f pr path ways).2.length=ways.length:=by
 cases S <;> simp [Sm.walk]
theorem J0 {g:Str} {ps as:List Str} (h:ps.length≤6):(jJ g ps as).length≤6:=by unfold jJ;rw [List.length_map,List.length_zip];omega
theorem jcn {g:Str} {p:Pc} {rows:List Str} {x:Str} (h:rows.length≤6) (h2:p.gv.length≤20):(zJ g p rows x).length≤27:=by
 unfold zJ
 rw [List.length_append,List.length_append,List.length_map,List.length_map,List.length_map]
 show rows.length+1+p.gv.length≤27
 omega
theorem jce {f:Str} {gs:List Str} {pr:Str→Pc} {path:List Int} {ways:List (List D)} {S:Sm} {n:Nat} (hf:S.fit gs pr) (hw:S.few) (h:∀ w∈ways,w.length≤n):∀ w∈(S.walk f pr path ways).2,w.length≤n+33:=by
 intro w hw'
 cases S with
 | claim C=>exact Nat.le_trans (h w hw') (Nat.le_add_right _ _)
 | call x g as rows=>
  obtain ⟨w1,h1,rfl⟩:=List.mem_map.mp (show w∈(ways.map (·++jJ g (pr g).ps as)).map (·++zJ g (pr g) rows x) from hw')
  obtain ⟨w2,h2,rfl⟩:=List.mem_map.mp h1
  have:=h w2 h2
  have:=J0 (g:=g) (as:=as) hf.2.1.psl
  have:=jcn (g:=g) (x:=x) (p:=pr g) hw.2 hf.2.1.gv
  rw [List.length_append,List.length_append]
  omega
 | set x t c=>
  obtain ⟨w1,h1,rfl⟩:=List.mem_map.mp (show w∈ways.map (·++[(Sm.set x t c).toD]) from hw')
  have:=h w1 h1
  rw [List.length_append]
  show _+1≤_
  omega
 | put r x d t c=>
  obtain ⟨w1,h1,rfl⟩:=List.mem_map.mp (show w∈ways.map (·++[(Sm.put r x d t c).toD]) from hw')
  have:=h w1 h1
  rw [List.length_append]
  show _+1≤_
  omega
 | any x=>
  obtain ⟨w1,h1,rfl⟩:=List.mem_map.mp (show w∈ways.map (·++[(Sm.any x).toD]) from hw')
  have:=h w1 h1
  rw [List.length_append]
  show _+1≤_
  omega
theorem jbi {f:Str} {gs:List Str} {pr:Str→Pc} {path:List Int} {ways:List (List D)} {S:Sm} (hf:S.fit gs pr):(S.walk f pr path ways).1.length≤ways.length * 20:=by
 cases S with
 | claim C=>rw [show (Sm.claim C).walk f pr path ways=(kS f "claim" path ways [C],ways) from rfl,qO];exact Nat.mul_le_mul_left _ (show 1≤20 by decide)
 | call x g as rows=>
  show (kS f "need" path (ways.map (·++jJ g (pr g).ps as)) ((pr g).nd.map (Cl.say (qv g (pr g) rows)))).length≤_
  rw [qO,List.length_map,List.length_map]
  exact Nat.mul_le_mul_left _ hf.2.1.nd
 | set x t c=>exact Nat.zero_le _
 | put r x d t c=>exact Nat.zero_le _
 | any x=>exact Nat.zero_le _
def goW (f:Str) (pr:Str→Pc) (ar:List Int):Nat→List (List D)→List Sm→List Du×List (List D)
 | _,ways,[]=>([],ways)
 | k,ways,S :: r=>((S.walk f pr (ar++[(k:Int)]) ways).1++(goW f pr ar (k+1) (S.walk f pr (ar++[(k:Int)]) ways).2 r).1,(goW f pr ar (k+1) (S.walk f pr (ar++[(k:Int)]) ways).2 r).2)
theorem J6 (f:Str) (pr:Str→Pc) (ar:List Int) (S:Sm):∀ (k:Nat) (ways:List (List D)) (l:List Sm),goW f pr ar k ways (l++[S])=((goW f pr ar k ways l).1++(S.walk f pr (ar++[((k+l.length:Nat):Int)]) (goW f pr ar k ways l).2).1,(S.walk f pr (ar++[((k+l.length:Nat):Int)]) (goW f pr ar k ways l).2).2)
 | k,ways,[]=>by simp [goW]
 | k,ways,T :: l=>by
  rw [List.cons_append]
  unfold goW
  rw [J6 f pr ar S (k+1) _ l,List.length_cons,show k+1+l.length=k+(l.length+1) by omega]
  simp only [List.append_assoc]
theorem Jt (f:Str) (pr:Str→Pc) (ar:List Int):∀ (l:List Sm) (k:Nat) (ways:List (List D)),(goW f pr ar k ways l).2.length=ways.length
 | [],_,_=>rfl
 | S :: l,k,ways=>by unfold goW;rw [Jt f pr ar l,JA]
theorem YF {f:Str} {gs:List Str} {pr:Str→Pc} {ar:List Int}:∀ {l:List Sm} {k:Nat} {ways:List (List D)} {n:Nat},(∀ S∈l,S.fit gs pr∧S.few)→(∀ w∈ways,w.length≤n)→∀ w∈(goW f pr ar k ways l).2,w.length≤n+33 * l.length
 | [],k,ways,n,_,h,w,hw=>h w hw
 | S :: l,k,ways,n,hl,h,w,hw=>by
  unfold goW at hw
  obtain ⟨h1,h2⟩:=hl S List.mem_cons_self
  have:=YF (l:=l) (fun T hT=>hl T (List.mem_cons_of_mem _ hT)) (jce (f:=f) (path:=ar++[(k:Int)]) h1 h2 h) w hw
  rw [List.length_cons]
  omega
theorem zc {f:Str} {gs:List Str} {pr:Str→Pc} {ar:List Int}:∀ {l:List Sm} {k:Nat} {ways:List (List D)},(∀ S∈l,S.fit gs pr∧S.few)→(goW f pr ar k ways l).1.length≤l.length * (ways.length * 20)
 | [],k,ways,_=>Nat.zero_le _
 | S :: l,k,ways,hl=>by
  unfold goW
  have h1:=jbi (f:=f) (path:=ar++[(k:Int)]) (ways:=ways) (hl S List.mem_cons_self).1
  have h2:=zc (f:=f) (ar:=ar) (k:=k+1) (ways:=(S.walk f pr (ar++[(k:Int)]) ways).2) (l:=l) fun T hT=>hl T (List.mem_cons_of_mem _ hT)
  rw [JA] at h2
  rw [List.length_append,List.length_cons,Nat.succ_mul]
  omega
def jcz (CW:Addr):Sp:=fun vs H Q _=>∃ (wo dx ml dp ar wy ba:Addr) (f:Str) (gs:List Str) (pr:Str→Pc) (ms bs:List V) (path:List Int) (ways:List (List D)) (bd:List Sm),vs=[.ref wo,.ref ba,.ref wy,.ref ar]∧WkAt CW H wo dx ml dp f gs pr ms wy ways∧H ar=some (.tup (path.map V.int))∧H ba=some (.tup bs)∧HeldL H (bd.map Sm.toD) bs∧(∀ S∈bd,S.fit gs pr∧S.few)∧path.length≤100∧ways.length≤16∧33 * bd.length≤800∧(∀ w∈ways,w.length+33 * bd.length≤800)∧ms.length+bd.length * (ways.length * 20)≤900∧
 ∀ ms' wls wy' H',(∀ b o,b≠ml→H b=some o→H' b=some o)→WkAt CW H' wo dx ml dp f gs pr (ms++ms') wy' (goW f pr path 0 ways bd).2→DutsAt H' (goW f pr path 0 ways bd).1 ms' wls→wls.Nodup→(∀ x∈wls,H x=none)→Q (.ref wy') H'
section
variable {P:Program} {w:World} {K:W.Frag} {mg:Str→Option Value} {base:Heap}
theorem jeJ {CW:Addr} {f:Addr} {fd:FuncData} (F:Fun K "walk_statement" "walk_statement" kY f fd) (F_meet:Fn P w K mg base 1 "meet" ["walk","kind","path","ways","claims"] (Ye CW)) (F_behind_each:Fn P w K mg base 1 "behind_each" ["ways","rows"] JM) (F_walk_call:Fn P w K mg base 5 "walk_call" ["walk","statement","ways","path"] (jat CW)):FnOk P w K mg base CX0 6 f fd ["walk","statement","ways","path"] (jcw CW):=by
 have sc:FnScope ["walk","statement","ways","path","kind"] ["walk","statement","ways","path"] (js kY):=fQ
 refine F.okZ sc (fun vs H Q E h=>?_) (fun cdv A outer s H vs Q E hr h=>?_)
 ·obtain ⟨wo,dx,ml,dp,pt,wy,sv,f,gs,pr,ms,path,ways,S,rfl,_⟩:=h
  rfl
 obtain ⟨wo,dx,ml,dp,pt,wy,sv,f,gs,pr,ms,path,ways,S,rfl,W,hpt,hS,hfit,hfew,hm,hl40,hw800,q⟩:=h
 refine ⟨_,(jg (jx (i:=4) sc.nd rfl oQ (jj jq (zpv 1) je (fun _ _=>rfl)))
   (jg (jL (jz jY (zpv 4) jo (jH _)) (jg (jK (ju F_meet hr (ja (zpv 0) (ja jo (ja (zpv 3) (ja (zpv 2) (ja (jV qR (zpv 1) (jO je) kq) jd)))))))
   (ji (jw (zpv 2)))) jD)
   (jg (jL (jz jY (zpv 4) jo (jH _)) (ji (jw qN)) jD)
   (jg (jL (jz jY (zpv 4) jo (jH _)) (ji (jw qN)) jD)
   (jg (jL (jz jY (zpv 4) jo (jH _)) (ji (jw (ju F_walk_call hr (ja (zpv 0) (ja (zpv 1) (ja (zpv 2) (ja (zpv 3) jd))))))) jD)
   (ji (jw (ju F_behind_each hr (ja (zpv 2) (ja (jI (ja (zpv 1) jd)) jd)))))))))),?_⟩
 refine jR (σ':=[some (.ref wo),some sv,some (.ref wy),some (.ref pt),none]) rfl ?_
 obtain ⟨a,k,r,rfl,ha,h1,h2,h3,h4⟩:=Sm.head hS
 obtain ⟨was,hwy,hW⟩:=W.hwy
 refine ⟨_,rfl,a,_,_,V.str k,rfl,rfl,SqT.of ha,qM (j:=0) rfl,?_⟩
 refine gQ ?_
 refine ⟨_,rfl,rfl,_,rfl,j3 (fun d=>?_) (fun d=>?_)⟩
 ·have ek:k = "claim":=by have:=of_decide_eq_true d;injection this
  obtain ⟨C,rfl⟩:=h4.mp ek
  clear ha h4 h3 h2 h1 d
  obtain ⟨a',u,ea,ha,hu'⟩:=zf hS
  cases ea
  refine ⟨_,rfl,_,rfl,_,rfl,_,rfl,_,rfl,a,_,rfl,SqT.of ha,(fun h=>absurd h.1 (by show ¬ (HT.sIx 2 0 (some 1)=0);decide)),fun t ht=>?_⟩
  have s1:=jf ht (.tup (ki [.str "claim",u] (some 1) none))
  have e1:upd H t (.tup (ki [.str "claim",u] (some 1) none)) t=some (.tup [u]):=jb
  have ntm:t≠ml:=fun z=>by rw [z,W.hml] at ht;cases ht
  generalize upd H t (.tup (ki [.str "claim",u] (some 1) none))=H1 at *
  refine ⟨wo,dx,ml,pt,wy,t,was,f,"claim",.ref dp,ms,[u],path,ways,[C],rfl,s1 _ _ W.hwo,s1 _ _ W.hml,s1 _ _ hpt,s1 _ _ hwy,hW.mono s1,e1,jW (hu'.mono s1),W.nwy,ntm,hl40,by show ms.length+ways.length * 1≤900;omega,fun ms' wls H' k' hm' hD hnd hnew=>?_⟩
  have kk:∀ b o,b≠ml→H b=some o→H' b=some o:=fun b o hb e=>k' b o hb (s1 _ _ e)
  exact ⟨_,rfl,q ms' wls wy H' kk (W.keep kk hm') hD hnd fun x hx=>s1.free (hnew x hx)⟩
 ·have nC:∀ C,S≠.claim C:=fun C z=>d (decide_eq_true (congrArg V.str (h4.mpr ⟨C,z⟩)))
  refine ⟨_,rfl,rfl,_,rfl,j3 (fun d=>absurd (of_decide_eq_true d) (fun z=>h1 (by injection z))) (fun _=>?_)⟩
  refine ⟨_,rfl,rfl,_,rfl,j3 (fun d=>absurd (of_decide_eq_true d) (fun z=>h2 (by injection z))) (fun _=>?_)⟩
  refine ⟨_,rfl,rfl,_,rfl,j3 (fun d=>?_) (fun d=>?_)⟩
  ·have ek:k = "call":=by have:=of_decide_eq_true d;injection this
   obtain ⟨x,g,as,rows,rfl⟩:=h3.mp ek
   exact ⟨_,rfl,_,rfl,_,rfl,_,rfl,wo,dx,ml,dp,pt,wy,_,f,gs,pr,ms,path,ways,x,g,as,rows,rfl,W,hpt,hS,hfit,hfew,hm,hl40,hw800,q⟩
  have nL:∀ x g as rows,S≠.call x g as rows:=fun x g as rows z=>d (decide_eq_true (congrArg V.str (h3.mpr ⟨x,g,as,rows,z⟩)))
  have ew:S.walk f pr path ways=([],ways.map (·++[S.toD])):=by cases S <;> first | rfl | exact absurd rfl (nC _) | exact absurd rfl (nL _ _ _ _)
  refine ⟨_,rfl,_,rfl,sm rfl,fun rl hrl=>?_⟩
  have s1:=jf hrl (.lst [.ref a])
  have e1:upd H rl (.lst [.ref a]) rl=some (.lst [.ref a]):=jb
  generalize upd H rl (.lst [.ref a])=H1 at *
  refine ⟨wy,ml,rl,was,ms,[.ref a],ways,[S.toD],rfl,s1 _ _ hwy,s1 _ _ W.hml,hW.mono s1,e1,jW (hS.mono s1),hl40,fun w hw=>by have:=hw800 w hw;show w.length+1≤900;omega,fun l as H' s2 n1 e2 hW2=>?_⟩
  have s12:=s1.trans s2
  have W2:=W.mono s12
  have hml':=s1 _ _ W.hml
  refine q [] [] l H' (fun b o _ e=>s12 _ _ e) ⟨W2.hwo,by rw [List.append_nil];exact W2.hml,W2.hp,⟨as,e2,by rw [ew];exact hW2⟩,(fun z=>by rw [z,hml'] at n1;cases n1)⟩ (by rw [ew];trivial) List.nodup_nil fun _ z=>by cases z
theorem jeN {CW:Addr} {f:Addr} {fd:FuncData} {td:Tok} (F:Fun K "walk_body" "walk_body" zl f fd) (B:Free0 mg) (Z_enumerate:mg "enumerate" = none) (G_ways:mg "MOST_WAYS" = some (.int 16 td)) (F_walk_statement:Fn P w K mg base 6 "walk_statement" ["walk","statement","ways","path"] (jcw CW)):FnOk P w K mg base CX0 7 f fd ["walk","body","ways","around"] (jcz CW):=by
 have sc:FnScope ["walk","body","ways","around","k","statement"] ["walk","body","ways","around"] (js zl):=fQ
 refine F.okZ sc (fun vs H Q E h=>?_) (fun cdv A outer s H vs Q E hr h=>?_)
 ·obtain ⟨wo,dx,ml,dp,ar,wy,ba,f,gs,pr,ms,bs,path,ways,bd,rfl,_⟩:=h
  rfl
 obtain ⟨wo,dx,ml,dp,ar,wy,ba,f,gs,pr,ms,bs,path,ways,bd,rfl,W,har,hba,hbd,hfit,lp,hl16,hb33,hw,hm,q⟩:=h
 refine ⟨_,(jg (jZ PassesOwn.never rfl (za (by rfl) Z_enumerate (ja (zpv 1) jd)) (ko rfl (jA (jt (i:=4) sc.nd rfl oQ) (jA (jt (i:=5) sc.nd rfl oQ) j9))) (jg (jx (i:=2) sc.nd rfl oQ (ju F_walk_statement hr (ja (zpv 0) (ja (zpv 5) (ja (zpv 2) (ja (jm yJ (zpv 3) (jy (ja (zpv 4) jd))) jd))))))
   (ji (jL (jz jc8 (kj jF (by rfl) B.len_ kH (ja (zpv 2) jd)) (jb3 (v:=.int 16) (by rfl) G_ways ⟨_,rfl⟩) (jH _)) (ji ja9) jD))))
   (ji (jw (zpv 2)))),?_⟩
 refine jR (σ':=[some (.ref wo),some (.ref ba),some (.ref wy),some (.ref ar),none,none]) rfl ?_
 have hbl:=hbd.length
 rw [List.length_map] at hbl
 have nar:=zO har W.hml
 have nba:=zO hba W.hml
 refine ⟨_,rfl,ba,rfl,⟨_,SqT.of hba⟩,?_⟩
 refine zd (xs:=bs) (fun i σ G=>∃ u4 u5 ms' wls wy',σ=[some (.ref wo),some (.ref ba),some (.ref wy'),some (.ref ar),u4,u5]∧(∀ b o,b≠ml→H b=some o→G b=some o)∧WkAt CW G wo dx ml dp f gs pr (ms++ms') wy' (goW f pr path 0 ways (bd.take i)).2∧DutsAt G (goW f pr path 0 ways (bd.take i)).1 ms' wls∧wls.Nodup∧∀ x∈wls,H x=none) ⟨none,none,[],[],wy,rfl,fun _ _ _ e=>e,by rw [List.append_nil,List.take_zero];exact W,by rw [List.take_zero];trivial,List.nodup_nil,fun _ z=>by cases z⟩ ?_ ?_ ?_
 ·rintro i σ G _ ⟨u4,u5,ms',wls,wy',rfl,kG,_⟩
  exact SqT.of (kG _ _ nba hba)
 ·rintro i y σ G t hy ⟨u4,u5,ms',wls,wy',rfl,kG,W',hD,hnd,hnew⟩ ht
  have hi:i < bd.length:=by have:=(List.getElem?_eq_some_iff.mp hy).1;omega
  obtain ⟨y',hy',hyH⟩:=hbd.get (show (bd.map Sm.toD)[i]?=some bd[i].toD by rw [List.getElem?_map,List.getElem?_eq_getElem hi];rfl)
  rw [hy] at hy'
  cases hy'
  obtain ⟨hf1,hf2⟩:=hfit _ (List.getElem_mem hi)
  have hft:∀ S∈bd.take i,S.fit gs pr∧S.few:=fun S hS=>hfit S (List.mem_of_mem_take hS)
  have etk:bd.take (i+1)=bd.take i++[bd[i]]:=by rw [List.take_succ,List.getElem?_eq_getElem hi];rfl
  have ldu:=hD.len
  have lgo:=zc (f:=f) (ar:=path) (k:=0) (ways:=ways) hft
  have lgl:=Jt f pr path (bd.take i) 0 ways
  have lgw:=YF (f:=f) (ar:=path) (k:=0) (ways:=ways) (n:=800 - 33 * bd.length) hft fun w hw'=>by have:=hw w hw';omega
  rw [List.length_take,Nat.min_eq_left (Nat.le_of_lt hi)] at lgo lgw
  have hib:i * (ways.length * 20)+ways.length * 20≤bd.length * (ways.length * 20):=by rw [← Nat.succ_mul];exact Nat.mul_le_mul_right _ hi
  have esn:=J6 f pr path bd[i] 0 ways (bd.take i)
  rw [List.length_take,Nat.min_eq_left (Nat.le_of_lt hi),Nat.zero_add] at esn
  rw [etk,esn]
  generalize goW f pr path 0 ways (bd.take i)=gw at *
  generalize bd[i]=S at *
  have s1:=jf ht (.tup [V.int i,y])
  have e1:upd G t (.tup [V.int i,y]) t=some (.tup [V.int i,y]):=jb
  generalize upd G t (.tup [V.int i,y])=G1 at *
  refine ⟨t,_,rfl,SqT.of e1,rfl,_,_,rfl,_,_,rfl,rfl,?_⟩
  refine jR (σ':=[some (.ref wo),some (.ref ba),some (.ref wy'),some (.ref ar),some (.int i),some y]) rfl ?_
  have k1:∀ b o,b≠ml→H b=some o→G1 b=some o:=fun b o hb e=>s1 _ _ (kG b o hb e)
  refine ⟨_,rfl,_,rfl,_,rfl,_,rfl,_,rfl,sm rfl,fun t1 ht1=>?_⟩
  have s2:=jf ht1 (.tup [V.int i])
  have e2:upd G1 t1 (.tup [V.int i]) t1=some (.tup [V.int i]):=jb
  generalize upd G1 t1 (.tup [V.int i])=G2 at *
  refine ⟨ar,t1,_,_,rfl,rfl,s2 _ _ (k1 _ _ nar har),e2,Nat.le_trans (by rw [List.length_map];exact Nat.le_trans (Nat.add_le_add_right lp 1) (by decide:100+1≤1000)) (ka (Nat.le_refl 1000)),fun t2 G3 s3 e3=>?_⟩
  have s13:=s1.trans (s2.trans s3)
  have k3:∀ b o,b≠ml→H b=some o→G3 b=some o:=fun b o hb e=>s13 _ _ (kG b o hb e)
  have W3:=W'.mono s13
  refine ⟨wo,dx,ml,dp,t2,wy',y,f,gs,pr,ms++ms',path++[(i:Int)],gw.2,S,rfl,W3,by rw [List.map_append];exact e3,(j5 k3 W.hml).held hyH,hf1,hf2,by rw [List.length_append,lgl];omega,by omega,fun w hw'=>by have:=lgw w hw';omega,fun ms2 wls2 wy2 G4 k4 W4 hD4 nd4 new4=>?_⟩
  obtain ⟨was4,hwy4,hW4⟩:=W4.hwy
  have l4:=hW4.len
  rw [JA,lgl] at l4
  refine gQ ?_
  refine ⟨_,rfl,wy2,_,rfl,.inl (SqL.of hwy4),_,_,rfl,rfl,_,rfl,j3 (fun d=>absurd (of_decide_eq_true d) (by rw [List.length_map,l4];show ¬ ((16:Int) < (ways.length:Int));omega)) (fun _=>?_)⟩
  have kA:∀ b o,b≠ml→G b=some o→G4 b=some o:=fun b o hb e=>k4 b o hb (s13 _ _ e)
  have hmw:ml ∉ wls:=fun z=>by have:=hnew _ z;rw [W.hml] at this;cases this
  refine ⟨_,_,ms'++ms2,wls++wls2,wy2,rfl,fun b o hb e=>k4 b o hb (k3 b o hb e),by rw [← List.append_assoc];exact W4,DutsAt.app (DutsAt.keep kA W'.hml hD hmw) hD4,?_,?_⟩
  ·refine List.nodup_append.mpr ⟨hnd,nd4,fun b hb c hc=>?_⟩
   rintro rfl
   have:=qg (hD.mono s13) b hb
   exact this (new4 b hc)
  ·intro b hb
   rcases List.mem_append.mp hb with hb | hb
   ·exact hnew b hb
   ·have hn:=new4 b hb
    have hbm:b≠ml:=fun z=>by rw [z,W3.hml] at hn;cases hn
    rcases hh:H b with _ | o
    ·rfl
    ·rw [k3 b o hbm hh] at hn;cases hn
 rintro σ G ⟨u4,u5,ms',wls,wy',rfl,kG,W',hD,hnd,hnew⟩
 rw [← hbl,List.take_length] at W' hD
 exact ⟨_,rfl,q ms' wls wy' G kG W' hD hnd hnew⟩
end
abbrev zq:Stmt:=top 23
abbrev kM:Stmt:=top 22
abbrev Jq:Stmt:=top 21
def Pc.dus (p:Pc) (pr:Str→Pc) (ns:List Str):List Du:=(goW p.f pr [] 0 [p.wayD ns] p.bd).1++kS p.f "give" [] (goW p.f pr [] 0 [p.wayD ns] p.bd).2 p.gv
structure PcFit (gs:List Str) (pr:Str→Pc) (p:Pc):Prop where
 ok:PcOk p
 fit:∀ S∈p.bd,S.fit gs pr
 bd:p.bd.length≤20
def JJ:Sp:=fun vs H Q _=>∃ (v:V) (dp:Addr) (p:Pc) (gs:List Str) (pr:Str→Pc),vs=[v,.ref dp]∧Held H p.toD v∧PcFit gs pr p∧ProcsAt H dp gs pr∧∀ (ml:Addr) (ms:List V) (wls:List Addr) (ns:List Str) (H':Hp),NumsOf p ns→Same H H'→H ml=none→H' ml=some (.lst ms)→DutsAt H' (p.dus pr ns) ms wls→wls.Nodup→(∀ x∈wls,H x=none)→ml ∉ wls→Q (.ref ml) H'
theorem jcd {p:Pc} {ns:List Str} (hp:PcOk p) (hn:NumsOf p ns):(p.wayD ns).length≤35:=by
 unfold Pc.wayD
 have h1:=List.length_filter_le (fun x=>!decide (x∈p.ps)) ns
 have h2:=hn.few
 have h3:=hp.nd
 rw [List.length_append,List.length_map,List.length_map]
 omega
section
variable {P:Program} {w:World} {K:W.Frag} {mg:Str→Option Value} {base:Heap}
theorem Zc {CW:Addr} {f:Addr} {fd:FuncData} (T:ClsW K CW) (F:Fun K "duties_of" "duties_of" zq f fd) (M_Walk:MkFn P w K mg base 1 "Walk" CW ["self","f","procs"] (jcv CW)) (F_first_way:Fn P w K mg base 6 "first_way" ["proc"] jaB) (F_walk_body:Fn P w K mg base 7 "walk_body" ["walk","body","ways","around"] (jcz CW)) (F_meet:Fn P w K mg base 1 "meet" ["walk","kind","path","ways","claims"] (Ye CW)):FnOk P w K mg base CX0 8 f fd ["proc","procs"] JJ:=by
 have sc:FnScope ["proc","procs","f","gives","body","walk","ways"] ["proc","procs"] (js zq):=fQ
 refine F.okZ sc (fun vs H Q E h=>?_) (fun cdv A outer s H vs Q E hr h=>?_)
 ·obtain ⟨v,dp,p,gs,pr,rfl,_⟩:=h
  rfl
 obtain ⟨v,dp,p,gs,pr,rfl,hv,hpf,hpr,q⟩:=h
 have hp:=hpf.ok
 refine ⟨_,(jg (jbZ (i:=2) (j:=3) (l:=4) rfl sc.nd rfl rfl rfl (by decide) (by decide) (by decide) oQ oQ oQ (ja (jj jq (zpv 0) je (fun _ _=>rfl)) (ja (jj jq (zpv 0) je (fun _ _=>rfl)) (ja (jj jq (zpv 0) je (fun _ _=>rfl)) jd))) (by rfl) oQ oQ oQ)
   (jg (jx (i:=5) sc.nd rfl oQ (jfq M_Walk hr (ja (zpv 2) (ja (zpv 1) jd))))
   (jg (jx (i:=6) sc.nd rfl oQ (ju F_walk_body hr (ja (zpv 5) (ja (zpv 4) (ja (jI (ja (ju F_first_way hr (ja (zpv 0) jd)) jd)) (ja (jy jd) jd))))))
   (jg (jK (ju F_meet hr (ja (zpv 5) (ja jo (ja (jy jd) (ja (zpv 6) (ja (zpv 3) jd)))))))
   (ji (jw (zX (zpv 5) rfl))))))),?_⟩
 refine jR (σ':=[some v,some (.ref dp),none,none,none,none,none]) rfl ?_
 obtain ⟨a,ap,ar0,an,ag,ab,vn,vg,vb,rfl,ha,hap,har0,han,hn,hag,hg,hab,hb⟩:=yX hv
 refine ⟨_,rfl,a,_,_,_,rfl,rfl,SqT.of ha,rfl,_,rfl,a,_,_,_,rfl,rfl,SqT.of ha,rfl,_,rfl,a,_,_,_,rfl,rfl,SqT.of ha,rfl,_,_,_,rfl,?_⟩
 refine jR (σ':=[some (.ref a),some (.ref dp),some (.str p.f),some (.ref ag),some (.ref ab),none,none]) rfl ?_
 refine ⟨_,rfl,_,rfl,fun wo dx hwo hdx ndx=>?_⟩
 have s1:Same H (upd (upd H dx (.own wo)) wo (.ins CW dx [])):=fun b o z=>by rw [jr (jn z hwo),jr (jn z hdx)];exact z
 have c1:upd (upd H dx (.own wo)) wo (.ins CW dx []) wo=some (.ins CW dx []):=jb
 generalize upd (upd H dx (.own wo)) wo (.ins CW dx [])=H1 at *
 refine ⟨wo,dx,p.f,.ref dp,rfl,c1,fun ml H2 k2 hml c2 e2=>⟨rfl,?_⟩⟩
 have s2:Same H H2:=fun b o z=>k2 b o (jn z hwo) (s1 _ _ z)
 have hml0:H ml=none:=s1.free hml
 refine gQ ?_
 refine ⟨_,rfl,_,rfl,_,rfl,.ref a,p,rfl,hv.mono s2,hp,fun wl us ns H3 hns s3 n3 e3 hway=>⟨sm rfl,fun wy hwy=>?_⟩⟩
 have s4:=jf hwy (.lst [.ref wl])
 have e4:upd H3 wy (.lst [.ref wl]) wy=some (.lst [.ref wl]):=jb
 generalize upd H3 wy (.lst [.ref wl])=H4 at *
 refine ⟨sm rfl,fun ar har=>?_⟩
 have s5:=jf har (.tup [])
 have e5:upd H4 ar (.tup []) ar=some (.tup []):=jb
 generalize upd H4 ar (.tup [])=H5 at *
 have s25:=s3.trans (s4.trans s5)
 have s05:=s2.trans s25
 have lus:=hway.length
 have lway:=jcd hp hns
 have lbd:=hp.bd
 have lgv:=hp.gv
 have hml3:=s3 _ _ e2
 have lb20:=hpf.bd
 have nwlm:wl≠ml:=fun z=>by rw [z,e2] at n3;cases n3
 refine ⟨wo,dx,ml,dp,ar,wy,ab,p.f,gs,pr,[],vb,[],[p.wayD ns],p.bd,rfl,⟨s25 _ _ c2,s25 _ _ e2,hpr.mono s05,⟨[wl],s5 _ _ e4,⟨⟨nwlm,us,s5 _ _ (s4 _ _ e3),hway.mono (s4.trans s5)⟩,trivial⟩⟩,(fun z=>by rw [z,hml3] at hwy;cases hwy)⟩,e5,s05 _ _ hab,hb.mono s05,fun S hS=>⟨hpf.fit S hS,hp.sm S hS⟩,Nat.zero_le _,(show 1≤16 by decide),by omega,fun w hw=>by rw [List.mem_singleton.mp hw];omega,by show 0+p.bd.length * (1 * 20)≤900;omega,fun ms' wls wy' H6 k6 W6 hD hnd hnew=>?_⟩
 rw [List.nil_append] at W6
 have ldu:=hD.len
 have lgo:=zc (f:=p.f) (ar:=[]) (k:=0) (ways:=[p.wayD ns]) (l:=p.bd) (gs:=gs) (pr:=pr) fun S hS=>⟨hpf.fit S hS,hp.sm S hS⟩
 have lgl:=Jt p.f pr [] p.bd 0 [p.wayD ns]
 rw [show [p.wayD ns].length=1 from rfl] at lgo lgl
 have s06:Same H H6:=fun b o z=>k6 b o (jn z hml0) (s05 _ _ z)
 refine gQ ?_
 refine ⟨_,rfl,sm rfl,fun pt hpt=>?_⟩
 have s7:=jf hpt (.tup [])
 have e7:upd H6 pt (.tup []) pt=some (.tup []):=jb
 generalize upd H6 pt (.tup [])=H7 at *
 have W7:=W6.mono s7
 obtain ⟨was7,hwy7,hW7⟩:=W7.hwy
 have s07:=s06.trans s7
 have nag:=zO (s07 _ _ hag) W7.hml
 refine ⟨_,rfl,_,rfl,wo,dx,ml,pt,wy',ag,was7,p.f,"give",.ref dp,ms',vg,[],_,p.gv,rfl,W7.hwo,W7.hml,e7,hwy7,hW7,s07 _ _ hag,hg.mono s07,W7.nwy,nag,by omega,by rw [lgl];omega,fun ms2 wls2 H8 k8 hm8 hD8 nd8 new8=>?_⟩
 have s08:Same H H8:=fun b o z=>k8 b o (jn z hml0) (s07 _ _ z)
 have nwo:wo≠ml:=fun z=>by have:=W7.hwo;rw [z,W7.hml] at this;cases this
 have hm5:H5 ml=some (.lst []):=s25 _ _ e2
 have hmlw:ml ∉ wls:=fun z=>by have:=hnew _ z;rw [hm5] at this;cases this
 have hmlw2:ml ∉ wls2:=fun z=>by have:=new8 _ z;rw [W7.hml] at this;cases this
 refine ⟨_,rfl,wo,CW,dx,_,_,rfl,k8 _ _ nwo W7.hwo,T.c,T.n3,rfl,q ml _ (wls++wls2) ns H8 hns s08 hml0 hm8 ?_ ?_ ?_ ?_⟩
 ·exact DutsAt.app (DutsAt.keep (G:=H6) (G':=H8) (fun b o hb e=>k8 b o hb (s7 _ _ e)) W6.hml hD hmlw) hD8
 ·refine List.nodup_append.mpr ⟨hnd,nd8,fun x hx y hy=>?_⟩
  rintro rfl
  have h1:=qg hD x hx
  rcases hh:H6 x with _ | o
  ·exact h1 hh
  ·have:=new8 x hy
   rw [s7 _ _ hh] at this
   cases this
 ·intro x hx
  rcases List.mem_append.mp hx with hx | hx
  ·exact s05.free (hnew x hx)
  ·exact s07.free (new8 x hx)
 ·intro z
  rcases List.mem_append.mp z with z | z
  ·exact hmlw z
  ·exact hmlw2 z
def jaw:Sp:=fun vs H Q _=>∃ (a:Addr) (us:List V) (prog:List Pc) (pr:Str→Pc),vs=[.ref a]∧H a=some (.tup us)∧HeldL H (prog.map Pc.toD) us∧prog.length≤100∧(prog.map Pc.f).Nodup∧(∀ p∈prog,pr p.f=p)∧∀ d H',Same H H'→H d=none→ProcsAt H' d (prog.map Pc.f) pr→Q (.ref d) H'
theorem jdg {f:Addr} {fd:FuncData} (F:Fun K "procs_by_name" "procs_by_name" kM f fd):FnOk P w K mg base CX0 1 f fd ["program"] jaw:=by
 have sc:FnScope ["program"] ["program"] (js kM):=fQ
 refine F.okZ sc (fun vs H Q E h=>?_) (fun cdv A outer s H vs Q E hr h=>?_)
 ·obtain ⟨a,us,prog,pr,rfl,_⟩:=h
  rfl
 obtain ⟨a,us,prog,pr,rfl,ha,hpv,hl,hnd,hpr,q⟩:=h
 have hpl:=hpv.length
 rw [List.length_map] at hpl
 refine ⟨_,(ji (jw (jbd ["proc"] [] rfl (kQ (sc:=js kM) (N:=["program"]) rfl rfl (by decide +kernel)) (kO (zpv 0)) (fun s H ex=>⟨(jt (i:=0) (show List.Nodup (["proc"]:List Str) by decide +kernel) rfl oQ),qk,(jj (Js (K:=K)) (zpv 0) je (fun _ _=>rfl)),(zpv 0)⟩)))),?_⟩
 refine ⟨_,rfl,a,rfl,⟨_,SqT.of ha⟩,fun d hd=>?_⟩
 refine jbS (xs:=us) (fun i σ' G=>(∃ u,σ'=[u])∧Same H G∧∃ kv,G d=some (.dK kv)∧kv.length≤i∧∀ p∈prog.take i,∃ v,kP kv (Sum.inr p.f)=some v∧Held H p.toD v) ⟨⟨none,rfl⟩,jf hd _,[],jb,Nat.le_refl _,fun p hp=>by cases hp⟩ ?_ ?_ ?_
 ·rintro i σ' G _ ⟨_,sG,_⟩
  exact SqT.of (sG _ _ ha)
 ·rintro i x σ' G hx ⟨⟨u,rfl⟩,sG,kv,eG,hkl,hkv⟩
  have hi:i < prog.length:=by have:=(List.getElem?_eq_some_iff.mp hx).1;omega
  obtain ⟨x',hx',hxH⟩:=hpv.get (show (prog.map Pc.toD)[i]?=some prog[i].toD by rw [List.getElem?_map,List.getElem?_eq_getElem hi];rfl)
  rw [hx] at hx'
  cases hx'
  have hxH0:=hxH
  obtain ⟨b,ap,ar,an,ag,ab,vn,vg,vb,rfl,hb,_⟩:=yX hxH
  unfold kX JD
  refine zy ?_
  refine ⟨_,rfl,b,_,_,_,rfl,rfl,SqT.of (sG _ _ hb),rfl,_,rfl,kv,Sum.inr prog[i].f,rfl,eG,jv (by omega),⟨_,rfl⟩,fun b o e=>?_,_,jb,?_,fun p hp=>?_⟩
  ·rw [jr (jn e hd)];exact sG _ _ e
  ·exact Nat.le_trans (yH _ _ _) (by omega)
  ·rw [show prog.take (i+1)=prog.take i++[prog[i]] by rw [List.take_succ,List.getElem?_eq_getElem hi];rfl] at hp
   rcases List.mem_append.mp hp with hp | hp
   ·obtain ⟨v,e1,e2⟩:=hkv p hp
    refine ⟨v,?_,e2⟩
    rw [qm,if_neg,e1]
    intro e
    have e:=Sum.inr.inj e
    obtain ⟨j,hj,hje⟩:=List.mem_iff_getElem.mp hp
    rw [List.length_take] at hj
    rw [List.getElem_take] at hje
    have:=(List.pairwise_iff_getElem.mp hnd) j i (by rw [List.length_map];omega) (by rw [List.length_map];omega) (by omega)
    rw [List.getElem_map,List.getElem_map,hje] at this
    exact this e
   ·rw [List.mem_singleton.mp hp]
    exact ⟨_,by rw [qm,if_pos rfl],hxH0⟩
 ·rintro σ' G ⟨_,sG,kv,eG,_,hkv⟩
  rw [← hpl,List.take_length] at hkv
  refine q d G sG hd ⟨kv,eG,fun g hg=>?_⟩
  obtain ⟨p,hp,rfl⟩:=List.mem_map.mp hg
  obtain ⟨v,e1,e2⟩:=hkv p hp
  exact ⟨v,e1,by rw [hpr p hp];exact e2.mono sG⟩
end
def Y2:Sp:=fun vs H Q _=>∃ (a:Addr) (us:List V) (prog:List Pc) (pr:Str→Pc) (num:Pc→List Str),vs=[.ref a]∧H a=some (.tup us)∧HeldL H (prog.map Pc.toD) us∧prog.length≤2∧(prog.map Pc.f).Nodup∧(∀ p∈prog,pr p.f=p∧PcFit (prog.map Pc.f) pr p∧NumsOf p (num p))∧∀ (ml:Addr) (ms:List V) (wls:List Addr) (H':Hp),Same H H'→H ml=none→H' ml=some (.lst ms)→DutsAt H' (prog.flatMap fun p=>p.dus pr (num p)) ms wls→wls.Nodup→(∀ x∈wls,H x=none)→ml ∉ wls→Q (.ref ml) H'
theorem NumsOf.uniq {p:Pc} {ns ns':List Str} (h:NumsOf p ns) (h':NumsOf p ns'):ns=ns':=yY h.up h'.up fun x=>by rw [h.mem,h'.mem]
theorem J8 {gs:List Str} {pr:Str→Pc} {p:Pc} {ns:List Str} (hp:PcFit gs pr p):(p.dus pr ns).length≤420:=by
 unfold Pc.dus
 have h1:=zc (f:=p.f) (ar:=[]) (k:=0) (ways:=[p.wayD ns]) (l:=p.bd) (gs:=gs) (pr:=pr) fun S hS=>⟨hp.fit S hS,hp.ok.sm S hS⟩
 have h2:=hp.bd
 have h3:=hp.ok.gv
 have lgl:=Jt p.f pr [] p.bd 0 [p.wayD ns]
 rw [show [p.wayD ns].length=1 from rfl] at h1 lgl
 rw [List.length_append,qO,lgl]
 omega
theorem jdM {gs:List Str} {pr:Str→Pc} {num:Pc→List Str}:∀ {l:List Pc},(∀ p∈l,PcFit gs pr p)→(l.flatMap fun p=>p.dus pr (num p)).length≤420 * l.length
 | [],_=>Nat.zero_le _
 | p :: l,h=>by
  have h1:=J8 (ns:=num p) (h p List.mem_cons_self)
  have h2:=jdM (num:=num) (l:=l) fun x hx=>h x (List.mem_cons_of_mem _ hx)
  rw [List.flatMap_cons,List.length_append,List.length_cons]
  omega
section
variable {P:Program} {w:World} {K:W.Frag} {mg:Str→Option Value} {base:Heap}
theorem jbA {f:Addr} {fd:FuncData} (F:Fun K "duties" "duties" Jq f fd) (F_procs_by_name:Fn P w K mg base 1 "procs_by_name" ["program"] jaw) (F_duties_of:Fn P w K mg base 8 "duties_of" ["proc","procs"] JJ):FnOk P w K mg base CX0 9 f fd ["program"] Y2:=by
 have sc:FnScope ["program","procs","told","proc"] ["program"] (js Jq):=fQ
 refine F.okZ sc (fun vs H Q E h=>?_) (fun cdv A outer s H vs Q E hr h=>?_)
 ·obtain ⟨a,us,prog,pr,num,rfl,_⟩:=h
  rfl
 obtain ⟨a,us,prog,pr,num,rfl,ha,hpv,hl5,hnp,hok,q⟩:=h
 refine ⟨_,(jg (jx (i:=1) sc.nd rfl oQ (ju F_procs_by_name hr (ja (zpv 0) jd)))
   (jg (jx (i:=2) sc.nd rfl oQ (jI jd))
   (jg (jZ PassesOwn.never rfl (kO (zpv 0)) (jt (i:=3) sc.nd rfl oQ) (ji (jK (kb PySem.F.plainAttrs_list PySem.F.slot_list_extend PySem.F.type_list_extend yc (zpv 2) (ja (ju F_duties_of hr (ja (zpv 3) (ja (zpv 1) jd))) jd)))))
   (ji (jw (zpv 2)))))),?_⟩
 refine jR (σ':=[some (.ref a),none,none,none]) rfl ?_
 have hul:=hpv.length
 rw [List.length_map] at hul
 refine ⟨_,rfl,a,us,prog,pr,rfl,ha,hpv,by omega,hnp,fun p hp=>(hok p hp).1,fun d H1 s1 hd hP=>?_⟩
 refine gQ ?_
 refine ⟨sm rfl,fun l hl=>?_⟩
 have s2:=jf hl (.lst [])
 have e2:upd H1 l (.lst []) l=some (.lst []):=jb
 generalize upd H1 l (.lst [])=H2 at *
 have hl0:=s1.free hl
 refine gQ ?_
 have s12:=s1.trans s2
 refine ⟨_,rfl,a,rfl,⟨_,SqT.of (s12 _ _ ha)⟩,?_⟩
 refine zA (xs:=us) (fun i σ G=>∃ u3 ms wls,σ=[some (.ref a),some (.ref d),some (.ref l),u3]∧Same H G∧ProcsAt G d (prog.map Pc.f) pr∧G l=some (.lst ms)∧DutsAt G ((prog.take i).flatMap fun p=>p.dus pr (num p)) ms wls∧wls.Nodup∧(∀ x∈wls,H x=none)∧l ∉ wls) ⟨none,[],[],rfl,s12,hP.mono s2,e2,by rw [List.take_zero];trivial,List.nodup_nil,(fun _ z=>by cases z),List.not_mem_nil⟩ ?_ ?_ ?_
 ·rintro i σ G _ ⟨u3,ms,wls,rfl,sG,_⟩
  exact SqT.of (sG _ _ ha)
 ·rintro i x σ G hx ⟨u3,ms,wls,rfl,sG,hPG,hG,hD,hnd,hnew,hnl⟩
  have hi:i < prog.length:=by have:=(List.getElem?_eq_some_iff.mp hx).1;omega
  obtain ⟨x',hx',hxH⟩:=hpv.get (show (prog.map Pc.toD)[i]?=some prog[i].toD by rw [List.getElem?_map,List.getElem?_eq_getElem hi];rfl)
  rw [hx] at hx'
  cases hx'
  obtain ⟨_,hp,hn⟩:=hok _ (List.getElem_mem hi)
  have etk:prog.take (i+1)=prog.take i++[prog[i]]:=by rw [List.take_succ,List.getElem?_eq_getElem hi];rfl
  have ld:=hD.len
  have ld2:=jdM (num:=num) (l:=prog.take i) fun p hp=>(hok p (List.mem_of_mem_take hp)).2.1
  rw [List.length_take] at ld2
  refine gQ ?_
  refine ⟨_,rfl,.inl ⟨rfl,_,SqL.of hG⟩,_,rfl,_,rfl,x,d,prog[i],prog.map Pc.f,pr,rfl,hxH.mono sG,hp,hPG,fun ml ms2 wls2 ns G2 hns s3 n3 e3 hD2 nd2 new2 nml=>?_⟩
  have en:=hns.uniq hn
  subst en
  have ld3:=hD2.len
  have ld4:=J8 (ns:=num prog[i]) hp
  have hG2:=s3 _ _ hG
  refine ⟨l,ml,_,_,rfl,rfl,hG2,e3,Nat.le_trans (by omega) (ka (Nat.le_refl 1000)),?_⟩
  have k4:∀ b o,b≠l→G2 b=some o→upd G2 l (.lst (ms++ms2)) b=some o:=fun b o hb e=>by rw [jr hb];exact e
  have hnl2:l ∉ wls2:=fun z=>by have:=new2 _ z;rw [hG] at this;cases this
  refine ⟨_,ms++ms2,wls++wls2,rfl,fun b o e=>k4 b o (jn e hl0) (s3 _ _ (sG _ _ e)),(hPG.mono s3).keep k4 hG2,jb,?_,?_,?_,?_⟩
  ·rw [etk,List.flatMap_append]
   refine DutsAt.app (DutsAt.keep (G:=G) (fun b o hb e=>k4 b o hb (s3 _ _ e)) hG hD hnl) ?_
   rw [show ([prog[i]].flatMap fun p=>p.dus pr (num p))=prog[i].dus pr (num prog[i]) by simp]
   exact DutsAt.keep k4 hG2 hD2 hnl2
  ·refine List.nodup_append.mpr ⟨hnd,nd2,fun x hx y hy=>?_⟩
   rintro rfl
   exact qg hD x hx (new2 x hy)
  ·intro x hx
   rcases List.mem_append.mp hx with hx | hx
   ·exact hnew x hx
   ·exact sG.free (new2 x hx)
  ·intro z
   rcases List.mem_append.mp z with z | z
   ·exact hnl z
   ·exact hnl2 z
 rintro σ G ⟨u3,ms,wls,rfl,sG,hPG,hG,hD,hnd,hnew,hnl⟩
 rw [← hul,List.take_length] at hD
 exact ⟨_,rfl,q l ms wls G sG hl0 hG hD hnd hnew hnl⟩
end
abbrev jaL:Stmt:=top 35
abbrev jea:Stmt:=top 38
abbrev Yj:Stmt:=top 39
abbrev jaI:Stmt:=top 40
theorem jdY {ns:List Int} {k:Int} (h0:0≤k) (h:k < (ns.length:Int)):atI (ns.map V.int) k=some (.int (ns.getD k.toNat 0)):=by
 have hk:k.toNat < ns.length:=by omega
 have:=qM (xs:=ns.map V.int) (j:=k.toNat) (v:=.int (ns.getD k.toNat 0)) (by rw [List.getElem?_map,List.getD_eq_getElem?_getD,List.getElem?_eq_getElem hk];rfl)
 rw [show ((k.toNat:Nat):Int)=k by omega] at this
 exact this
theorem je2 {xs:List Str} {i:Int} (h0:0≤i) (h:i < (xs.length:Int)):atI (xs.map V.str) i=some (.str (xs.getD i.toNat "")):=by
 have hk:i.toNat < xs.length:=by omega
 have:=qM (xs:=xs.map V.str) (j:=i.toNat) (v:=.str (xs.getD i.toNat "")) (by rw [List.getElem?_map,List.getD_eq_getElem?_getD,List.getElem?_eq_getElem hk];rfl)
 rw [show ((i.toNat:Nat):Int)=i by omega] at this
 exact this
def qF:Str:="abcdefghijklmnopqrstuvwxyz"
theorem Yz:qF.cps.toList=(List.range 26).map (·+97):=by decide +kernel
def Z6 (i:Int):Nat:=i.toNat+97
theorem KM {i:Int} (h0:0≤i) (h1:i < 26):atI qF.cps.toList i=some (Z6 i):=by
 have hk:i.toNat < 26:=by omega
 have:=qM (xs:=qF.cps.toList) (j:=i.toNat) (v:=Z6 i) (by rw [Yz,List.getElem?_map,List.getElem?_range hk];rfl)
 rw [show ((i.toNat:Nat):Int)=i by omega] at this
 exact this
def JL (K:W.Frag):Sp:=fun vs H Q _=>∃ (a:Addr) (ns:List Int) (k:Int),vs=[.ref a,.int k]∧SqL K H a (ns.map V.int)∧0≤k∧k≤1000∧∀ c:Int,Q (.int c) H
def jaC:Sp:=fun vs H Q _=>∃ c:Int,vs=[.int c]∧∀ d:Int,Q (.int d) H
section
variable {P:Program} {w:World} {K:W.Frag} {mg:Str→Option Value} {base:Heap}
theorem jfU {f:Addr} {fd:FuncData} (F:Fun K "_law_far" "_law_far" jea f fd):FnOk P w K mg base CX0 1 f fd ["_law_cell_here"] jaC:=by
 have sc:FnScope ["_law_cell_here"] ["_law_cell_here"] (js jea):=fQ
 refine F.okZ sc (fun vs H Q E h=>?_) (fun cdv A outer s H vs Q E hr h=>?_)
 ·obtain ⟨c,rfl,_⟩:=h
  rfl
 obtain ⟨c,rfl,q⟩:=h
 refine ⟨_,(jg (jL (jz jY (jm jS (zpv 0) je) je (jH _)) (ji (jw (jm jc6 (jm jS (jm jN (zpv 0) je) (jm kd (jm q8 je (jm jc7 je je)) je)) (jm jc7 je je)))) jD)
   (ji (jw (jm jc6 (jm jS (jm jN (zpv 0) je) je) je)))),?_⟩
 have z1:((10:Int) ^ (18:Int).toNat)=1000000000000000000:=by decide
 refine ⟨_,rfl,_,_,rfl,rfl,(by show (0:Int) < 3;decide),rfl,_,rfl,j3 (fun _=>?_) (fun _=>?_)⟩
 ·exact ⟨_,rfl,_,_,rfl,rfl,⟨by decide,by decide⟩,_,_,rfl,rfl,⟨by decide,by decide,by decide⟩,_,_,rfl,rfl,.inl ⟨by decide,by decide⟩,_,_,rfl,rfl,_,_,rfl,rfl,(by show (0:Int) < 2 * (10:Int) ^ (18:Int).toNat+1;rw [z1];decide),_,_,rfl,rfl,⟨by decide,by decide,by decide⟩,_,_,rfl,rfl,q _⟩
 ·exact ⟨_,rfl,_,_,rfl,rfl,⟨by decide,by decide⟩,_,_,rfl,rfl,(by show (0:Int) < 11;decide),_,_,rfl,rfl,q _⟩
theorem jeM {f:Addr} {fd:FuncData} (F:Fun K "_law_cell" "_law_cell" jaL f fd) (B:Free0 mg):FnOk P w K mg base CX0 1 f fd ["_law_script","_law_k"] (JL K):=by
 have sc:FnScope ["_law_script","_law_k","_law_number"] ["_law_script","_law_k"] (js jaL):=fQ
 refine F.okZ sc (fun vs H Q E h=>?_) (fun cdv A outer s H vs Q E hr h=>?_)
 ·obtain ⟨a,ns,k,rfl,_⟩:=h
  rfl
 obtain ⟨a,ns,k,rfl,hS,h0,h1,q⟩:=h
 have hl:(ns.map V.int).length=ns.length:=List.length_map _
 refine ⟨_,(jg (jL (jz jfi (zpv 1) (kj jF (by rfl) B.len_ kH (ja (zpv 0) jd)) (jH _)) (ji (jw (jj jX (zpv 0) (zpv 1) (fun _ _=>rfl)))) jD)
   (jg (jx (i:=2) sc.nd rfl oQ (jm kd (jm q8 (zpv 1) je) je))
   (jg (qC (jL (jz jc8 (kj jF (by rfl) B.len_ kH (ja (zpv 0) jd)) je (jH _)) (ji (jx (i:=2) sc.nd rfl oQ (jm jS (jm kd (jm q8 (jj jX (zpv 0) (jm jS (jm q8 (zpv 1) je) (kj jF (by rfl) B.len_ kH (ja (zpv 0) jd))) (fun _ _=>rfl)) je) (jm q8 (zpv 1) je)) je))) jD))
   (jg (jx (i:=2) sc.nd rfl oQ (jm kd (jm jS (jm q8 (zpv 2) (zpv 2)) je) je))
   (ji (jw (jm jS (jm q8 (zpv 2) (zpv 2)) je))))))),?_⟩
 refine jR (σ':=[some (.ref a),some (.int k),none]) rfl ?_
 refine ⟨_,rfl,_,rfl,a,_,rfl,.inl hS,_,_,rfl,rfl,_,rfl,j3 (fun c=>?_) (fun c=>?_)⟩
 ·have c':k < (ns.length:Int):=by
   have:=of_decide_eq_true c
   rw [hl] at this
   exact this
  exact ⟨_,rfl,_,rfl,a,_,_,_,rfl,rfl,hS,jdY h0 c',q _⟩
 ·refine ⟨_,rfl,_,_,rfl,rfl,.inr ⟨by decide,by decide⟩,_,_,rfl,rfl,?_⟩
  refine gQ ?_
  refine ⟨fun σ' G=>∃ z:Int,σ'=[some (.ref a),some (.int k),some (.int z)]∧G=H∧0≤z∧z < 2147483647,?_,?_⟩
  ·refine ⟨_,rfl,a,_,rfl,.inl hS,_,_,rfl,rfl,_,rfl,j3 (fun d=>?_) (fun d=>?_)⟩
   ·have d':0 < ns.length:=by
     have:=of_decide_eq_true d
     rw [hl] at this
     omega
    have hm0:0≤k * 7 % (ns.length:Int):=Int.emod_nonneg _ (by omega)
    have hm1:k * 7 % (ns.length:Int) < (ns.length:Int):=Int.emod_lt_of_pos _ (by omega)
    have hat:atI (ns.map V.int) (k * 7 % (((ns.map V.int).length:Nat):Int))=some (.int (ns.getD (k * 7 % (ns.length:Int)).toNat 0)):=by
     rw [hl]
     exact jdY hm0 hm1
    refine ⟨_,rfl,_,rfl,_,_,rfl,rfl,.inr ⟨by decide,by decide⟩,_,rfl,a,_,rfl,.inl hS,_,_,rfl,rfl,(by rw [hl];omega),a,_,_,_,rfl,rfl,hS,hat,_,_,rfl,rfl,.inr ⟨by decide,by decide⟩,_,rfl,_,_,rfl,rfl,.inr ⟨by decide,by decide⟩,_,_,rfl,rfl,_,_,rfl,rfl,(by show (0:Int) < 2147483647;decide),?_⟩
    exact ⟨_,rfl,rfl,Int.emod_nonneg _ (by decide),Int.emod_lt_of_pos _ (by decide)⟩
   ·exact ⟨_,rfl,rfl,by omega,by omega⟩
  ·rintro σ' G ⟨z,rfl,rfl,z0,z1⟩
   refine ⟨_,rfl,_,rfl,_,_,rfl,rfl,.inl ⟨by omega,by omega⟩,_,_,rfl,rfl,(by show (0:Int) < 2147483629;decide),_,_,rfl,rfl,?_⟩
   refine gQ ?_
   have y0:=Int.emod_nonneg (z * z) (b:=2147483629) (by decide)
   have y1:=Int.emod_lt_of_pos (z * z) (b:=2147483629) (by decide)
   exact ⟨_,rfl,_,rfl,_,_,rfl,rfl,.inl ⟨by omega,by omega⟩,_,_,rfl,rfl,(by show (0:Int) < 2147483587;decide),q _⟩
end
abbrev InE (xs:List Str) (x:Str):Prop:=x∈xs∨x = ""
def Tm.In (xs rs:List Str):Tm→Prop
 | .is x=>InE xs x
 | .at_ r x _=>r∈rs∧InE xs x
def yD:Sp:=fun vs H Q _=>∃ (c:Int) (a:Addr) (xs:List Str),vs=[.int c,.ref a]∧H a=some (.lst (xs.map V.str))∧xs.length≤100∧∀ (u:V) (x:Str) (d:Int) (H':Hp),InE xs x→Same H H'→Held H' (plD x d) u→Q u H'
def Yd:Sp:=fun vs H Q _=>∃ (c:Int) (a b:Addr) (xs rs:List Str),vs=[.int c,.ref a,.ref b]∧H a=some (.lst (xs.map V.str))∧H b=some (.lst (rs.map V.str))∧xs.length≤100∧∀ (u:V) (t:Tm) (H':Hp),t.In xs rs→Same H H'→Held H' t.toD u→Q u H'
theorem YQ {xs:List Str} {c:Int}:∃ x,InE xs x∧atI (xs.map V.str++[V.str ("" : Str)]) (c % (((xs.map V.str).length:Int)+1))=some (.str x):=by
 have h0:=Int.emod_nonneg c (b:=((xs.map V.str).length:Int)+1) (by omega)
 have h1:=Int.emod_lt_of_pos c (b:=((xs.map V.str).length:Int)+1) (by omega)
 rw [List.length_map] at h0 h1 ⊢
 have e:xs.map V.str++[V.str ("" : Str)]=(xs++[("" : Str)]).map V.str:=by rw [List.map_append];rfl
 have hl:(c % ((xs.length:Int)+1)).toNat < (xs++[("" : Str)]).length:=by rw [List.length_append];show _ < xs.length+1;omega
 refine ⟨(xs++[("" : Str)])[(c % ((xs.length:Int)+1)).toNat],?_,?_⟩
 ·have:=List.getElem_mem hl
  rcases List.mem_append.mp this with h | h
  ·exact .inl h
  ·exact .inr (List.mem_singleton.mp h)
 ·rw [e]
  have:=qM (xs:=(xs++[("" : Str)]).map V.str) (j:=(c % ((xs.length:Int)+1)).toNat) (v:=.str (xs++[("" : Str)])[(c % ((xs.length:Int)+1)).toNat]) (by rw [List.getElem?_map,List.getElem?_eq_getElem hl];rfl)
  rw [show (((c % ((xs.length:Int)+1)).toNat:Nat):Int)=c % ((xs.length:Int)+1) by omega] at this
  exact this
theorem jag {xs:List Str} {c:Int} (h:0 < xs.length):∃ x,x∈xs∧atI (xs.map V.str) (c % ((xs.map V.str).length:Int))=some (.str x):=by
 rw [List.length_map]
 have h0:=Int.emod_nonneg c (b:=(xs.length:Int)) (by omega)
 have h1:=Int.emod_lt_of_pos c (b:=(xs.length:Int)) (by omega)
 have hl:(c % (xs.length:Int)).toNat < xs.length:=by omega
 refine ⟨xs[(c % (xs.length:Int)).toNat],List.getElem_mem hl,?_⟩
 have:=qM (xs:=xs.map V.str) (j:=(c % (xs.length:Int)).toNat) (v:=.str xs[(c % (xs.length:Int)).toNat]) (by rw [List.getElem?_map,List.getElem?_eq_getElem hl];rfl)
 rw [show (((c % (xs.length:Int)).toNat:Nat):Int)=c % (xs.length:Int) by omega] at this
 exact this
section
variable {P:Program} {w:World} {K:W.Frag} {mg:Str→Option Value} {base:Heap}
theorem jbw {f:Addr} {fd:FuncData} (F:Fun K "_law_place" "_law_place" Yj f fd) (B:Free0 mg) (F_far:Fn P w K mg base 1 "_law_far" ["_law_cell_here"] jaC):FnOk P w K mg base CX0 2 f fd ["_law_cell_here","_law_nums"] yD:=by
 have sc:FnScope ["_law_cell_here","_law_nums"] ["_law_cell_here","_law_nums"] (js Yj):=fQ
 refine F.okZ sc (fun vs H Q E h=>?_) (fun cdv A outer s H vs Q E hr h=>?_)
 ·obtain ⟨c,a,xs,rfl,_⟩:=h
  rfl
 obtain ⟨c,a,xs,rfl,ha,hx,q⟩:=h
 refine ⟨_,(ji (jw (jy (ja (jj jX (jm kD (zpv 1) (jI (ja jo jd))) (jm jS (zpv 0) (jm kd (kj jF (by rfl) B.len_ kH (ja (zpv 1) jd)) je)) (fun _ _=>rfl)) (ja (ju F_far hr (ja (jm jN (zpv 0) je) jd)) jd))))),?_⟩
 refine jR (σ':=[some (.int c),some (.ref a)]) rfl ?_
 refine ⟨_,rfl,sm rfl,fun l1 hl1=>?_⟩
 have s1:=jf hl1 (.lst [V.str ("" : Str)])
 have e1:upd H l1 (.lst [V.str ("" : Str)]) l1=some (.lst [V.str ("" : Str)]):=jb
 generalize upd H l1 (.lst [V.str ("" : Str)])=H1 at *
 refine ⟨a,l1,_,_,rfl,rfl,s1 _ _ ha,e1,Nat.le_trans (by rw [List.length_map];exact Nat.le_trans (Nat.add_le_add_right hx 1) (by decide:100+1≤1000)) (ka (Nat.le_refl 1000)),fun l2 hl2=>?_⟩
 have s2:=jf hl2 (.lst (xs.map V.str++[V.str ("" : Str)]))
 have e2:upd H1 l2 (.lst (xs.map V.str++[V.str ("" : Str)])) l2=some (.lst (xs.map V.str++[V.str ("" : Str)])):=jb
 generalize upd H1 l2 (.lst (xs.map V.str++[V.str ("" : Str)]))=H2 at *
 have s12:=s1.trans s2
 obtain ⟨x,hxi,hat⟩:=YQ (xs:=xs) (c:=c)
 refine ⟨_,rfl,_,rfl,a,_,rfl,.inl (SqL.of (s12 _ _ ha)),_,_,rfl,rfl,_,_,rfl,rfl,(by show (0:Int) < ((xs.map V.str).length:Int)+1;omega),l2,_,_,_,rfl,rfl,SqL.of e2,hat,?_⟩
 refine ⟨_,rfl,_,_,rfl,rfl,⟨by decide,by decide⟩,_,rfl,fun d=>⟨sm rfl,fun t ht=>?_⟩⟩
 exact q (.ref t) x d _ hxi (s12.trans (jf ht _)) (jp jb (jc jk (jc jU jl)))
theorem jdd {f:Addr} {fd:FuncData} (F:Fun K "_law_term" "_law_term" jaI f fd) (B:Free0 mg) (F_place:Fn P w K mg base 2 "_law_place" ["_law_cell_here","_law_nums"] yD):FnOk P w K mg base CX0 3 f fd ["_law_cell_here","_law_nums","_law_rows"] Yd:=by
 have sc:FnScope ["_law_cell_here","_law_nums","_law_rows"] ["_law_cell_here","_law_nums","_law_rows"] (js jaI):=fQ
 refine F.okZ sc (fun vs H Q E h=>?_) (fun cdv A outer s H vs Q E hr h=>?_)
 ·obtain ⟨c,a,b,xs,rs,rfl,_⟩:=h
  rfl
 obtain ⟨c,a,b,xs,rs,rfl,ha,hb,hx,q⟩:=h
 refine ⟨_,(jg (qC (jL (K6 (jz jY (jm jS (zpv 0) je) je (jH _)) (Jx (jz jc8 (kj jF (by rfl) B.len_ kH (ja (zpv 2) jd)) je (jH _)))).pt (ji (jw (jy (ja jo (ja (jj jX (zpv 2) (jm jS (jm jN (zpv 0) je) (kj jF (by rfl) B.len_ kH (ja (zpv 2) jd))) (fun _ _=>rfl)) (ja (ju F_place hr (ja (jm jN (zpv 0) je) (ja (zpv 1) jd))) jd)))))) jD))
   (ji (jw (jy (ja jo (ja (jj jX (jm kD (zpv 1) (jI (ja jo jd))) (jm jS (jm jN (zpv 0) je) (jm kd (kj jF (by rfl) B.len_ kH (ja (zpv 1) jd)) je)) (fun _ _=>rfl)) jd)))))),?_⟩
 refine jR (σ':=[some (.int c),some (.ref a),some (.ref b)]) rfl ?_
 refine ⟨fun σ' G=>σ'=[some (.int c),some (.ref a),some (.ref b)]∧G=H,?_,?_⟩
 ·refine ⟨_,rfl,_,_,rfl,rfl,(by show (0:Int) < 4;decide),rfl,_,rfl,j3 (fun _=>?_) (fun _=>qH ⟨rfl,rfl⟩)⟩
  refine ⟨_,rfl,b,_,rfl,.inl (SqL.of hb),_,_,rfl,rfl,_,rfl,j3 (fun d=>?_) (fun _=>⟨rfl,rfl⟩)⟩
  have d':0 < rs.length:=by
   have:=of_decide_eq_true d
   rw [List.length_map] at this
   omega
  obtain ⟨r,hr',hat⟩:=jag (c:=c / 4) d'
  refine ⟨_,rfl,_,rfl,_,_,rfl,rfl,⟨by decide,by decide⟩,_,rfl,b,_,rfl,.inl (SqL.of hb),_,_,rfl,rfl,(by rw [List.length_map];omega),b,_,_,_,rfl,rfl,SqL.of hb,hat,?_⟩
  refine ⟨_,rfl,_,_,rfl,rfl,⟨by decide,by decide⟩,_,rfl,_,a,xs,rfl,ha,hx,fun u x d H1 hxi s1 hu=>⟨sm rfl,fun t ht=>?_⟩⟩
  have s2:=jf ht (.tup [V.str "at",.str r,u])
  exact q (.ref t) (.at_ r x d) _ ⟨hr',hxi⟩ (s1.trans s2) (jp jb (jc jk (jc jk (jc (hu.mono s2) jl))))
 ·rintro σ' G ⟨rfl,rfl⟩
  refine ⟨_,rfl,sm rfl,fun l1 hl1=>?_⟩
  have s1:=jf hl1 (.lst [V.str ("" : Str)])
  have e1:upd G l1 (.lst [V.str ("" : Str)]) l1=some (.lst [V.str ("" : Str)]):=jb
  generalize upd G l1 (.lst [V.str ("" : Str)])=H1 at *
  refine ⟨a,l1,_,_,rfl,rfl,s1 _ _ ha,e1,Nat.le_trans (by rw [List.length_map];exact Nat.le_trans (Nat.add_le_add_right hx 1) (by decide:100+1≤1000)) (ka (Nat.le_refl 1000)),fun l2 hl2=>?_⟩
  have s2:=jf hl2 (.lst (xs.map V.str++[V.str ("" : Str)]))
  have e2:upd H1 l2 (.lst (xs.map V.str++[V.str ("" : Str)])) l2=some (.lst (xs.map V.str++[V.str ("" : Str)])):=jb
  generalize upd H1 l2 (.lst (xs.map V.str++[V.str ("" : Str)]))=H2 at *
  have s12:=s1.trans s2
  obtain ⟨x,hxi,hat⟩:=YQ (xs:=xs) (c:=c / 4)
  refine ⟨_,rfl,_,_,rfl,rfl,⟨by decide,by decide⟩,_,rfl,a,_,rfl,.inl (SqL.of (s12 _ _ ha)),_,_,rfl,rfl,_,_,rfl,rfl,(by show (0:Int) < ((xs.map V.str).length:Int)+1;omega),l2,_,_,_,rfl,rfl,SqL.of e2,hat,?_⟩
  refine ⟨sm rfl,fun t ht=>?_⟩
  exact q (.ref t) (.is x) _ hxi (s12.trans (jf ht _)) (jp jb (jc jk (jc jk jl)))
end
abbrev Yl:Stmt:=top 41
def Bd.In (xs rs:List Str):Bd→Prop
 | .is x=>InE xs x
 | .row r=>r∈rs
def Cl.In (xs rs:List Str):Cl→Prop
 | .least a b _=>a.In xs rs∧b.In xs rs
 | .each t _ u _ r way b _=>InE xs t∧InE xs u∧r∈rs∧(way = ">="∨way = "<=")∧b.In xs rs
 | .rise t _ u _ r=>InE xs t∧InE xs u∧r∈rs
def JK:Sp:=fun vs H Q _=>∃ (c:Int) (a b:Addr) (xs rs:List Str),vs=[.int c,.ref a,.ref b]∧H a=some (.lst (xs.map V.str))∧H b=some (.lst (rs.map V.str))∧xs.length≤100∧∀ (u:V) (C:Cl) (H':Hp),C.In xs rs→Same H H'→Held H' C.toD u→Q u H'
theorem jdX {x y:V} {c:Int}:∃ z,(z=x∨z=y)∧atI [x,y] (c % 2)=some z:=by
 have h0:=Int.emod_nonneg c (b:=2) (by decide)
 have h1:=Int.emod_lt_of_pos c (b:=2) (by decide)
 by_cases h:c % 2=0
 ·rw [h];exact ⟨x,.inl rfl,rfl⟩
 ·rw [show c % 2=1 by omega];exact ⟨y,.inr rfl,rfl⟩
section
variable {P:Program} {w:World} {K:W.Frag} {mg:Str→Option Value} {base:Heap}
theorem jbC {f:Addr} {fd:FuncData} (F:Fun K "_law_claim" "_law_claim" Yl f fd) (B:Free0 mg) (F_far:Fn P w K mg base 1 "_law_far" ["_law_cell_here"] jaC) (F_place:Fn P w K mg base 2 "_law_place" ["_law_cell_here","_law_nums"] yD) (F_term:Fn P w K mg base 3 "_law_term" ["_law_cell_here","_law_nums","_law_rows"] Yd):FnOk P w K mg base CX0 4 f fd ["_law_cell_here","_law_nums","_law_rows"] JK:=by
 have sc:FnScope ["_law_cell_here","_law_nums","_law_rows","_law_which","_law_one","_law_r","_law_t","_law_u","_law_b"] ["_law_cell_here","_law_nums","_law_rows"] (js Yl):=fQ
 refine F.okZ sc (fun vs H Q E h=>?_) (fun cdv A outer s H vs Q E hr h=>?_)
 ·obtain ⟨c,a,b,xs,rs,rfl,_⟩:=h
  rfl
 obtain ⟨c0,a,b,xs,rs,rfl,ha,hb,hx,q⟩:=h
 refine ⟨_,(jg (jx (i:=3) sc.nd rfl oQ (jm jS (zpv 0) je))
   (jg (jx (i:=0) sc.nd rfl oQ (jm jN (zpv 0) je))
   (jg (qC (jL (ZF (jz jfi (zpv 3) je (jH _)) (K5 (jz jY (kj jF (by rfl) B.len_ kH (ja (zpv 2) jd)) je (jH _)))).pt (jg (jx (i:=4) sc.nd rfl oQ (ju F_term hr (ja (zpv 0) (ja (zpv 1) (ja (zpv 2) jd)))))
   (ji (jw (jy (ja jo (ja (zpv 4) (ja (ju F_term hr (ja (jm kd (jm jN (zpv 0) je) je) (ja (zpv 1) (ja (zpv 2) jd)))) (ja (ju F_far hr (ja (jm jN (zpv 0) je) jd)) jd)))))))) jD))
   (jg (jx (i:=5) sc.nd rfl oQ (jj jX (zpv 2) (jm jS (zpv 0) (kj jF (by rfl) B.len_ kH (ja (zpv 2) jd))) (fun _ _=>rfl)))
   (jg (jx (i:=6) sc.nd rfl oQ (ju F_place hr (ja (jm jN (zpv 0) je) (ja (zpv 1) jd))))
   (jg (jx (i:=7) sc.nd rfl oQ (ju F_place hr (ja (jm jN (zpv 0) je) (ja (zpv 1) jd))))
   (jg (jL (jz jY (zpv 3) je (jH _)) (ji (jw (jy (ja jo (ja (zpv 6) (ja (zpv 7) (ja (zpv 5) jd))))))) jD)
   (jg (jx (i:=8) sc.nd rfl oQ (jj jX (jI (ja (jy (ja jo (ja (jj jX (jm kD (zpv 1) (jI (ja jo jd))) (jm jS (jm jN (zpv 0) je) (jm kd (kj jF (by rfl) B.len_ kH (ja (zpv 1) jd)) je)) (fun _ _=>rfl)) jd))) (ja (jy (ja jo (ja (jj jX (zpv 2) (jm jS (jm jN (zpv 0) je) (kj jF (by rfl) B.len_ kH (ja (zpv 2) jd))) (fun _ _=>rfl)) jd))) jd))) (jm jS (jm jN (zpv 0) je) je) (fun _ _=>rfl)))
   (ji (jw (jy (ja jo (ja (zpv 6) (ja (zpv 7) (ja (zpv 5) (ja (jj jX (jI (ja jo (ja jo jd))) (jm jS (jm jN (zpv 0) je) je) (fun _ _=>rfl)) (ja (zpv 8) (ja (ju F_far hr (ja (jm jN (zpv 0) je) jd)) jd)))))))))))))))))),?_⟩
 refine jR (σ':=[some (.int c0),some (.ref a),some (.ref b),none,none,none,none,none,none]) rfl ?_
 refine ⟨_,rfl,_,_,rfl,rfl,(by show (0:Int) < 4;decide),?_⟩
 refine gQ ?_
 refine ⟨_,rfl,_,_,rfl,rfl,⟨by decide,by decide⟩,?_⟩
 refine gQ ?_
 generalize c0 % 4=wh
 generalize c0 / 4=c
 refine ⟨fun σ' G=>σ'=[some (.int c),some (.ref a),some (.ref b),some (.int wh),none,none,none,none,none]∧G=H∧0 < rs.length,?_,?_⟩
 ·refine ⟨_,rfl,_,_,rfl,rfl,_,rfl,j3 (fun _=>zy ?_) (fun _=>⟨_,rfl,b,_,rfl,.inl (SqL.of hb),rfl,_,rfl,j3 (fun _=>?_) (fun d=>⟨rfl,rfl,?_⟩)⟩)⟩
  rotate_right
  ·rw [List.length_map] at d
   rcases Nat.eq_zero_or_pos rs.length with z | z
   ·exact absurd (decide_eq_true (by rw [z];rfl)) d
   ·exact z
  all_goals
   refine ⟨_,rfl,_,rfl,_,rfl,c,a,b,xs,rs,rfl,ha,hb,hx,fun u1 t1 H1 i1 s1 h1=>?_⟩
   refine jR (σ':=[some (.int c),some (.ref a),some (.ref b),some (.int wh),some u1,none,none,none,none]) rfl ?_
   refine ⟨_,rfl,_,rfl,_,_,rfl,rfl,⟨by decide,by decide⟩,_,_,rfl,rfl,_,rfl,_,rfl,_,a,b,xs,rs,rfl,s1 _ _ ha,s1 _ _ hb,hx,fun u2 t2 H2 i2 s2 h2=>?_⟩
   refine ⟨_,rfl,_,_,rfl,rfl,⟨by decide,by decide⟩,_,rfl,fun d=>⟨sm rfl,fun t ht=>?_⟩⟩
   have s3:=jf ht (.tup [V.str "least",u1,u2,.int d])
   exact q (.ref t) (.least t1 t2 d) _ ⟨i1,i2⟩ (s1.trans (s2.trans s3)) (jp jb (jc jk (jc (h1.mono (s2.trans s3)) (jc (h2.mono s3) (jc jU jl)))))
 ·rintro σ' G ⟨rfl,rfl,hpos⟩
  have hposI:(0:Int) < ((rs.map V.str).length:Int):=by rw [List.length_map];omega
  obtain ⟨r,hr',hat1⟩:=jag (c:=c) hpos
  refine ⟨_,rfl,_,rfl,_,rfl,b,_,rfl,.inl (SqL.of hb),_,_,rfl,rfl,hposI,b,_,_,_,rfl,rfl,SqL.of hb,hat1,?_⟩
  refine gQ ?_
  refine ⟨_,rfl,_,_,rfl,rfl,⟨by decide,by decide⟩,_,rfl,_,a,xs,rfl,ha,hx,fun vt x dt H1 i1 s1 h1=>?_⟩
  refine gQ ?_
  refine ⟨_,rfl,_,_,rfl,rfl,⟨by decide,by decide⟩,_,rfl,_,a,xs,rfl,s1 _ _ ha,hx,fun vu y du H2 i2 s2 h2=>?_⟩
  refine gQ ?_
  have s12:=s1.trans s2
  refine ⟨_,rfl,rfl,_,rfl,j3 (fun _=>?_) (fun _=>?_)⟩
  ·refine ⟨_,rfl,_,rfl,_,rfl,sm rfl,fun t ht=>?_⟩
   have s3:=jf ht (.tup [V.str "rise",vt,vu,.str r])
   exact q (.ref t) (.rise x dt y du r) _ ⟨i1,i2,hr'⟩ (s12.trans s3) (jp jb (jc jk (jc (h1.mono (s2.trans s3)) (jc (h2.mono s3) (jc jk jl)))))
  have ha2:=s12 _ _ ha
  have hb2:=s12 _ _ hb
  refine ⟨_,rfl,sm rfl,fun l1 hl1=>?_⟩
  have s3:=jf hl1 (.lst [V.str ("" : Str)])
  have e3:upd H2 l1 (.lst [V.str ("" : Str)]) l1=some (.lst [V.str ("" : Str)]):=jb
  generalize upd H2 l1 (.lst [V.str ("" : Str)])=H3 at *
  refine ⟨a,l1,_,_,rfl,rfl,s3 _ _ ha2,e3,Nat.le_trans (by rw [List.length_map];exact Nat.le_trans (Nat.add_le_add_right hx 1) (by decide:100+1≤1000)) (ka (Nat.le_refl 1000)),fun l2 hl2=>?_⟩
  have s4:=jf hl2 (.lst (xs.map V.str++[V.str ("" : Str)]))
  have e4:upd H3 l2 (.lst (xs.map V.str++[V.str ("" : Str)])) l2=some (.lst (xs.map V.str++[V.str ("" : Str)])):=jb
  generalize upd H3 l2 (.lst (xs.map V.str++[V.str ("" : Str)]))=H4 at *
  have s34:=s3.trans s4
  obtain ⟨bx,hbx,hat2⟩:=YQ (xs:=xs) (c:=c / 11)
  refine ⟨_,rfl,_,_,rfl,rfl,⟨by decide,by decide⟩,_,rfl,a,_,rfl,.inl (SqL.of (s34 _ _ ha2)),_,_,rfl,rfl,_,_,rfl,rfl,(by show (0:Int) < ((xs.map V.str).length:Int)+1;omega),l2,_,_,_,rfl,rfl,SqL.of e4,hat2,?_⟩
  refine ⟨sm rfl,fun t1 ht1=>?_⟩
  have s5:=jf ht1 (.tup [V.str "is",.str bx])
  have e5:upd H4 t1 (.tup [V.str "is",.str bx]) t1=some (.tup [V.str "is",.str bx]):=jb
  generalize upd H4 t1 (.tup [V.str "is",.str bx])=H5 at *
  have s35:=s34.trans s5
  obtain ⟨br,hbr,hat3⟩:=jag (c:=c / 13) hpos
  refine ⟨_,rfl,_,rfl,_,_,rfl,rfl,⟨by decide,by decide⟩,_,rfl,b,_,rfl,.inl (SqL.of (s35 _ _ hb2)),_,_,rfl,rfl,hposI,b,_,_,_,rfl,rfl,SqL.of (s35 _ _ hb2),hat3,?_⟩
  refine ⟨sm rfl,fun t2 ht2=>?_⟩
  have s6:=jf ht2 (.tup [V.str "row",.str br])
  have e6:upd H5 t2 (.tup [V.str "row",.str br]) t2=some (.tup [V.str "row",.str br]):=jb
  generalize upd H5 t2 (.tup [V.str "row",.str br])=H6 at *
  refine ⟨sm rfl,fun lb hlb=>?_⟩
  have s7:=jf hlb (.lst [V.ref t1,.ref t2])
  have e7:upd H6 lb (.lst [V.ref t1,.ref t2]) lb=some (.lst [V.ref t1,.ref t2]):=jb
  generalize upd H6 lb (.lst [V.ref t1,.ref t2])=H7 at *
  obtain ⟨vb,hvb,hat4⟩:=jdX (x:=.ref t1) (y:=.ref t2) (c:=c / 3)
  refine ⟨_,rfl,_,_,rfl,rfl,⟨by decide,by decide⟩,_,_,rfl,rfl,(by show (0:Int) < 2;decide),lb,_,_,_,rfl,rfl,SqL.of e7,hat4,?_⟩
  refine gQ ?_
  have hB:∃ bd:Bd,bd.In xs rs∧Held H7 bd.toD vb:=by
   rcases hvb with rfl | rfl
   ·exact ⟨.is bx,hbx,jp ((s6.trans s7) _ _ e5) (jc jk (jc jk jl))⟩
   ·exact ⟨.row br,hbr,jp (s7 _ _ e6) (jc jk (jc jk jl))⟩
  obtain ⟨bd,hbd,hBd⟩:=hB
  have s27:=s35.trans (s6.trans s7)
  refine ⟨_,rfl,_,rfl,_,rfl,sm rfl,fun lw hlw=>?_⟩
  have s8:=jf hlw (.lst [V.str ">=",.str "<="])
  have e8:upd H7 lw (.lst [V.str ">=",.str "<="]) lw=some (.lst [V.str ">=",.str "<="]):=jb
  generalize upd H7 lw (.lst [V.str ">=",.str "<="])=H8 at *
  obtain ⟨vw,hvw,hat5⟩:=jdX (x:=.str ">=") (y:=.str "<=") (c:=c / 7)
  refine ⟨_,rfl,_,_,rfl,rfl,⟨by decide,by decide⟩,_,_,rfl,rfl,(by show (0:Int) < 2;decide),lw,_,_,_,rfl,rfl,SqL.of e8,hat5,?_⟩
  refine ⟨_,rfl,_,rfl,_,_,rfl,rfl,⟨by decide,by decide⟩,_,rfl,fun d=>⟨sm rfl,fun t ht=>?_⟩⟩
  have hW:∃ wy:Str,vw=.str wy∧(wy = ">="∨wy = "<="):=by
   rcases hvw with rfl | rfl
   ·exact ⟨_,rfl,.inl rfl⟩
   ·exact ⟨_,rfl,.inr rfl⟩
  obtain ⟨wy,rfl,hwy⟩:=hW
  have s9:=jf ht (.tup [V.str "each",vt,vu,.str r,.str wy,vb,.int d])
  have s29:=s27.trans (s8.trans s9)
  exact q (.ref t) (.each x dt y du r wy bd d) _ ⟨i1,i2,hr',hwy,hbd⟩ (s12.trans s29) (jp jb (jc jk (jc (h1.mono (s2.trans s29)) (jc (h2.mono s29) (jc jk (jc jk (jc (hBd.mono (s8.trans s9)) (jc jU jl))))))))
end
abbrev JP:Stmt:=top 42
mutual
def lvD:D→List Str
 | .int _=>[]
 | .str x=>[x]
 | .tup ds=>lvL ds
def lvL:List D→List Str
 | []=>[]
 | d :: ds=>lvD d++lvL ds
end
theorem jT:lvL []=[]:=by unfold lvL;rfl
theorem jG (d:D) (ds:List D):lvL (d :: ds)=lvD d++lvL ds:=by rw [lvL]
theorem Jr:∀ (ds es:List D),lvL (ds++es)=lvL ds++lvL es
 | [],es=>by rw [List.nil_append,jT,List.nil_append]
 | d :: ds,es=>by rw [List.cons_append,jG,jG,Jr ds es,List.append_assoc]
theorem Yx (d:D):lvL [d]=lvD d:=by rw [jG,jT,List.append_nil]
def DepL:Nat→List D→Prop
 | 0,_=>False
 | n+1,ds=>∀ d∈ds,∀ es,d=.tup es→DepL n es
def yB (xs:List Str) (l:List Str):List Str:=l.filter fun x=>decide (x∈xs)
theorem jcj (xs l m:List Str):yB xs (l++m)=yB xs l++yB xs m:=List.filter_append ..
theorem JC (xs l:List Str):(yB xs l).length≤l.length:=List.length_filter_le _ _
def JH (n:Nat):Sp:=fun vs H Q _=>∃ (a b:Addr) (us:List V) (ds:List D) (xs:List Str),vs=[.ref a,.ref b]∧H a=some (.tup us)∧HeldL H ds us∧DepL n ds∧H b=some (.lst (xs.map V.str))∧(lvL ds).length≤900∧jdr H Q (yB xs (lvL ds))
theorem jaV (i:Int):∀ ys:List Str,inV (.int i) (ys.map V.str)=false
 | []=>rfl
 | y :: ys=>by
  have ih:=jaV i ys
  unfold inV at ih ⊢
  rw [List.map_cons,List.any_cons,ih]
  rfl
theorem jgR {ds:List D} {i:Nat} (hi:i < ds.length):(lvL (ds.take i)).length+(lvD ds[i]).length≤(lvL ds).length:=by
 have e:ds=ds.take i++([ds[i]]++ds.drop (i+1)):=by
  rw [← List.append_assoc,show ds.take i++[ds[i]]=ds.take (i+1) by rw [List.take_succ,List.getElem?_eq_getElem hi];rfl,List.take_append_drop]
 have:(lvL ds).length=(lvL (ds.take i)).length+((lvD ds[i]).length+(lvL (ds.drop (i+1))).length):=by
  rw [← Yx ds[i],← List.length_append,← List.length_append,← Jr,← Jr,← e]
 omega
section
variable {P:Program} {w:World} {K:W.Frag} {mg:Str→Option Value} {base:Heap}
theorem jeI {k n:Nat} {f:Addr} {fd:FuncData} (F:Fun K "_law_used" "_law_used" JP f fd) (B:Free0 mg) (F_used:Fn P w K mg base k "_law_used" ["_law_thing","_law_nums"] (JH n)):FnOk P w K mg base CX0 (k+1) f fd ["_law_thing","_law_nums"] (JH (n+1)):=by
 have sc:FnScope ["_law_thing","_law_nums","_law_found","_law_one"] ["_law_thing","_law_nums"] (js JP):=fQ
 refine F.okZ sc (fun vs H Q E h=>?_) (fun cdv A outer s H vs Q E hr h=>?_)
 ·obtain ⟨a,b,us,ds,xs,rfl,_⟩:=h
  rfl
 obtain ⟨a,b,us,ds,xs,rfl,ha,hds,dep,hb,hlen,q⟩:=h
 refine ⟨_,(jg (jx (i:=2) sc.nd rfl oQ (jI jd))
   (jg (jZ PassesOwn.never rfl (kO (zpv 0)) (jt (i:=3) sc.nd rfl oQ) (ji (jL (jd2 (kj ZD (by rfl) B.isinstance_ Kq (ja (zpv 3) (ja (jb7 (v:=.ty "tuple") (by rfl) B.tuple_ qw (by rfl)) jd)))) (ji (jx (i:=2) sc.nd rfl oQ (jm kD (zpv 2) (ju F_used hr (ja (zpv 3) (ja (zpv 1) jd)) (h4:=Nat.le_refl _))))) (ji (jL (jz (yr (K:=K)) (zpv 3) (zpv 1) rfl) (ji (jK (kb PySem.F.plainAttrs_list PySem.F.slot_list_append PySem.F.type_list_append jQ (zpv 2) (ja (zpv 3) jd)))) jD)))))
   (ji (jw (zpv 2))))),?_⟩
 refine jR (σ':=[some (.ref a),some (.ref b),none,none]) rfl ?_
 refine ⟨sm rfl,fun l hl=>?_⟩
 have s1:=jf hl (.lst [])
 have e1:upd H l (.lst []) l=some (.lst []):=jb
 generalize upd H l (.lst [])=H1 at *
 refine gQ ?_
 have hul:=hds.length
 refine ⟨_,rfl,a,rfl,⟨_,SqT.of (s1 _ _ ha)⟩,?_⟩
 refine zA (xs:=us) (fun i σ G=>∃ l u3,σ=[some (.ref a),some (.ref b),some (.ref l),u3]∧Same H G∧H l=none∧G l=some (.lst ((yB xs (lvL (ds.take i))).map V.str))) ⟨l,none,rfl,s1,hl,by rw [List.take_zero,e1];unfold lvL;rfl⟩ ?_ ?_ ?_
 ·rintro i σ G _ ⟨l,u3,rfl,sG,_⟩
  exact SqT.of (sG _ _ ha)
 ·rintro i x σ G hx ⟨l,u3,rfl,sG,hl,hG⟩
  have hi:i < ds.length:=by have:=(List.getElem?_eq_some_iff.mp hx).1;omega
  obtain ⟨x',hx',hxH⟩:=hds.get (List.getElem?_eq_getElem hi)
  rw [hx] at hx'
  cases hx'
  have etk:lvL (ds.take (i+1))=lvL (ds.take i)++lvD ds[i]:=by rw [show ds.take (i+1)=ds.take i++[ds[i]] by rw [List.take_succ,List.getElem?_eq_getElem hi];rfl,Jr,Yx]
  have hle:=jgR hi
  have hu1:=JC xs (lvL (ds.take i))
  have hdep:=dep ds[i] (List.getElem_mem hi)
  refine gQ ?_
  rw [etk,jcj,List.map_append]
  generalize ds[i]=d at *
  cases d with
  | int z=>
   cases kE hxH
   refine ⟨_,rfl,_,_,_,_,rfl,TyOf.int z,jfZ K,_,rfl,qH ?_⟩
   refine ⟨_,rfl,_,rfl,b,_,rfl,.inl (SqL.of (sG _ _ hb)),rfl,qf _,_,rfl,?_⟩
   rw [show (if false=true then !inV (V.int z) (List.map V.str xs) else inV (V.int z) (List.map V.str xs))=false from jaV z xs]
   refine qH ⟨l,_,rfl,sG,hl,?_⟩
   rw [hG];unfold lvD;simp [yB]
  | str z=>
   cases jB hxH
   refine ⟨_,rfl,_,_,_,_,rfl,TyOf.str z,jfY K,_,rfl,qH ?_⟩
   refine ⟨_,rfl,_,rfl,b,_,rfl,.inl (SqL.of (sG _ _ hb)),rfl,qf _,_,rfl,j3 (fun d=>?_) (fun d=>?_)⟩
   ·have d':inV (.str z) (xs.map V.str)=true:=d
    rw [kz] at d'
    refine ⟨_,rfl,.inl ⟨rfl,_,SqL.of hG⟩,_,rfl,l,_,_,rfl,rfl,hG,jv (by rw [List.length_map];omega),l,_,rfl,fun c o e=>?_,hl,?_⟩
    ·rw [jr (jn e hl)];exact sG _ _ e
    ·rw [jb];unfold lvD;simp [yB,of_decide_eq_true d']
   ·have d':¬ inV (.str z) (xs.map V.str)=true:=d
    rw [kz] at d'
    refine ⟨l,_,rfl,sG,hl,?_⟩
    have nz:¬ z∈xs:=fun h=>d' (decide_eq_true h)
    rw [hG];unfold lvD;simp [yB,nz]
  | tup es=>
   obtain ⟨t,ys,rfl,ht,hes⟩:=jC hxH
   have hlv:lvD (.tup es)=lvL es:=by unfold lvD;rfl
   rw [hlv] at hle ⊢
   refine ⟨_,rfl,_,_,_,_,rfl,TyOf.tup (sG _ _ ht),jfX K,_,rfl,zy ?_⟩
   refine ⟨_,rfl,_,rfl,_,rfl,t,b,ys,es,xs,rfl,sG _ _ ht,hes.mono sG,hdep es rfl,sG _ _ hb,by omega,fun l2 G2 s2 n2 e2=>?_⟩
   have hu2:=JC xs (lvL es)
   refine ⟨l,l2,_,_,rfl,rfl,s2 _ _ hG,e2,Nat.le_trans (by rw [List.length_map,List.length_map];omega) (ka (Nat.le_refl 1000)),fun l3 hl3=>?_⟩
   exact ⟨l3,_,rfl,sG.trans (s2.trans (jf hl3 _)),sG.free (s2.free hl3),jb⟩
 rintro σ G ⟨l,u3,rfl,sG,hl,hG⟩
 rw [← hul,List.take_length] at hG
 exact ⟨_,rfl,q l G sG hl hG⟩
end
abbrev jaH:Stmt:=top 36
def JS (n a:Nat) (m o:Nat):List Nat:=List.replicate a m++o :: List.replicate (n - 1 - a) m
def wN (c:Int):Nat:=(1+c % 7).toNat
def qx (c:Int):Int:=c / 7 % 1000000007
def wA (c:Int):Nat:=(qx c / 26 % (1+c % 7)).toNat
def wM (c:Int):Nat:=Z6 (qx c % 26)
def wO (c:Int):Nat:=Z6 (qx c / 182 % 26)
def zE (c:Int):Str:=⟨(JS (wN c) (wA c) (wM c) (wO c)).toArray⟩
def kw4:List Str:=["is","at","if","to"]
def kK (c:Int):Str:=if zE c∈kw4 then zE c++("x" : Str) else zE c
def jcu:Sp:=fun vs H Q _=>∃ c:Int,vs=[.int c]∧∀ H',Same H H'→Q (.str (kK c)) H'
theorem Zp (m:Nat):∀ (n:Nat) (b:Array Nat),(List.foldl (fun x1 x2=>x1++x2) b (List.replicate n #[m])).toList=b.toList++List.replicate n m
 | 0,b=>by simp
 | n+1,b=>by rw [List.replicate_succ,List.foldl_cons,Zp m n,List.replicate_succ];simp
theorem Ze (m:Nat) {j:Int} (h:1≤j):(Txt.mul ⟨#[m]⟩ j).cps.toList=List.replicate j.toNat m:=by
 unfold Txt.mul
 rw [if_neg (by omega)]
 split
 ·rename_i hc
  rw [Bool.or_eq_true] at hc
  rcases hc with hc | hc
  ·rw [eq_of_beq hc];rfl
  ·cases hc
 ·rw [Zp];rfl
theorem YX (c:Int):1≤wN c∧wN c≤7∧((wN c:Nat):Int)=1+c % 7:=by
 unfold wN
 have h0:=Int.emod_nonneg c (b:=7) (by decide)
 have h1:=Int.emod_lt_of_pos c (b:=7) (by decide)
 omega
theorem YY (c:Int):wA c < wN c∧((wA c:Nat):Int)=qx c / 26 % (1+c % 7):=by
 obtain ⟨h1,h2,h3⟩:=YX c
 unfold wA
 have h0:=Int.emod_nonneg (qx c / 26) (b:=1+c % 7) (by omega)
 have h4:=Int.emod_lt_of_pos (qx c / 26) (b:=1+c % 7) (by omega)
 omega
theorem jca (c:Int) (y:Str) (hy:y=Txt.mul ⟨#[wM c]⟩ (1+c % 7)):Kc y none (some (qx c / 26 % (1+c % 7)))++⟨#[wO c]⟩++Kc y (some (qx c / 26 % (1+c % 7)+1)) none=zE c:=by
 obtain ⟨h1,h2,h3⟩:=YX c
 obtain ⟨h4,h5⟩:=YY c
 have hl:y.cps.toList=List.replicate (wN c) (wM c):=by rw [hy,Ze _ (by omega)];rfl
 have hn:y.length=wN c:=by rw [qG,hl,List.length_replicate]
 refine JG ?_
 rw [zW,zW,Jd,Jd,hl,hn,← h5]
 rw [show ((wA c:Int)+1)=((wA c+1:Nat):Int) by omega,HT.sIx_none,HT.sIx_none,HT.sIx_nat,HT.sIx_nat]
 rw [Nat.min_eq_left (Nat.le_of_lt h4),Nat.min_eq_left (by omega),List.drop_zero,Nat.sub_zero,List.take_replicate,List.drop_replicate,List.take_replicate,Nat.min_eq_left (Nat.le_of_lt h4)]
 unfold zE JS
 rw [show min (wN c - (wA c+1)) (wN c - (wA c+1))=wN c - 1 - wA c by omega]
 simp
theorem zY (c:Int):(zE c).length=wN c:=by
 obtain ⟨h1,h2,h3⟩:=YX c
 obtain ⟨h4,h5⟩:=YY c
 rw [qG]
 unfold zE JS
 simp
 omega
section
variable {P:Program} {w:World} {K:W.Frag} {mg:Str→Option Value} {base:Heap}
theorem jeG {f:Addr} {fd:FuncData} (F:Fun K "_law_word" "_law_word" jaH f fd) (B:Free0 mg):FnOk P w K mg base CX0 1 f fd ["_law_cell_here"] jcu:=by
 have sc:FnScope ["_law_cell_here","_law_letters","_law_size","_law_left","_law_word_here","_law_at"] ["_law_cell_here"] (js jaH):=fQ
 refine F.okZ sc (fun vs H Q E h=>?_) (fun cdv A outer s H vs Q E hr h=>?_)
 ·obtain ⟨c,rfl,_⟩:=h
  rfl
 obtain ⟨c,rfl,q⟩:=h
 refine ⟨_,(jg (jx (i:=1) sc.nd rfl oQ jo)
   (jg (jx (i:=2) sc.nd rfl oQ (jm kd je (jm jS (zpv 0) je)))
   (jg (jx (i:=3) sc.nd rfl oQ (jm jS (jm jN (zpv 0) je) je))
   (jg (jx (i:=4) sc.nd rfl oQ (jm ZV (jj jdy (zpv 1) (jm jS (zpv 3) je) (fun _ _=>rfl)) (zpv 2)))
   (jg (jx (i:=5) sc.nd rfl oQ (jm jS (jm jN (zpv 3) je) (zpv 2)))
   (jg (jx (i:=4) sc.nd rfl oQ (jm qT (jm qT (jV jcB (zpv 4) kq (jO (zpv 5))) (jj jdy (zpv 1) (jm jS (jm jN (zpv 3) je) je) (fun _ _=>rfl))) (jV jcB (zpv 4) (jO (jm kd (zpv 5) je)) kq)))
   (jg (jL (jz (yr (K:=K)) (zpv 4) (jI (ja jo (ja jo (ja jo (ja jo jd))))) rfl) (ji (jw (jm qT (zpv 4) jo))) jD)
   (ji (jw (zpv 4)))))))))),?_⟩
 refine jR (σ':=[some (.int c),none,none,none,none,none]) rfl ?_
 obtain ⟨h1,h2,h3⟩:=YX c
 obtain ⟨h4,h5⟩:=YY c
 have hll:qF.length≤sizeLine:=Nat.le_of_lt (jv (by decide +kernel))
 refine gQ ?_
 refine ⟨_,rfl,_,_,rfl,rfl,(by show (0:Int) < 7;decide),_,_,rfl,rfl,?_⟩
 refine gQ ?_
 refine ⟨_,rfl,_,_,rfl,rfl,⟨by decide,by decide⟩,_,_,rfl,rfl,(by show (0:Int) < 1000000007;decide),?_⟩
 refine gQ ?_
 have hm:atI qF.cps.toList (qx c % 26)=some (wM c):=KM (Int.emod_nonneg _ (by decide)) (Int.emod_lt_of_pos _ (by decide))
 have ho:atI qF.cps.toList (qx c / 182 % 26)=some (wO c):=KM (Int.emod_nonneg _ (by decide)) (Int.emod_lt_of_pos _ (by decide))
 refine ⟨_,rfl,_,rfl,_,_,rfl,rfl,(by show (0:Int) < 26;decide),qF,_,_,rfl,rfl,hll,hm,?_⟩
 refine ⟨_,rfl,_,_,rfl,rfl,(by show 1≤16;decide),by omega,by omega,?_⟩
 have hy:=jca c _ rfl
 have hyl:(Txt.mul ⟨#[wM c]⟩ (1+c % 7)).length≤7:=by rw [qG,Ze _ (by omega),List.length_replicate];omega
 generalize Txt.mul ⟨#[wM c]⟩ (1+c % 7)=y at *
 refine gQ ?_
 refine ⟨_,rfl,_,_,rfl,rfl,⟨by decide,by decide⟩,_,rfl,_,_,rfl,rfl,(by show (0:Int) < 1+c % 7;omega),?_⟩
 refine gQ ?_
 refine ⟨_,rfl,_,rfl,_,rfl,y,rfl,Nat.le_of_lt (jv (by omega)),?_⟩
 refine ⟨_,rfl,_,rfl,_,_,rfl,rfl,⟨by decide,by decide⟩,_,_,rfl,rfl,(by show (0:Int) < 26;decide),qF,_,_,rfl,rfl,hll,ho,?_⟩
 have k1:=YM y none (some (qx c / 26 % (1+c % 7)))
 have k2:=YM y (some (qx c / 26 % (1+c % 7)+1)) none
 have k3:(⟨#[wO c]⟩:Str).length=1:=rfl
 refine ⟨_,_,rfl,rfl,Nat.le_of_lt (jv (by rw [k3];unfold qx at k1;omega)),?_⟩
 refine ⟨_,rfl,_,rfl,_,_,rfl,rfl,_,rfl,y,rfl,Nat.le_of_lt (jv (by omega)),?_⟩
 have k4:(Kc y none (some (qx c / 26 % (1+c % 7)))++(⟨#[wO c]⟩:Str)).length=(Kc y none (some (qx c / 26 % (1+c % 7)))).length+1:=by
  rw [qG,zW,List.length_append,← qG];rfl
 refine ⟨_,_,rfl,rfl,Nat.le_of_lt (jv (by unfold qx at k1 k2 k4;omega)),?_⟩
 have hy':Kc y none (some (c / 7 % 1000000007 / 26 % (1+c % 7)))++⟨#[wO c]⟩++Kc y (some (c / 7 % 1000000007 / 26 % (1+c % 7)+1)) none=zE c:=hy
 rw [hy']
 refine gQ ?_
 refine ⟨_,rfl,sm rfl,fun l hl=>?_⟩
 have e1:upd H l (.lst [V.str "is",.str "at",.str "if",.str "to"]) l=some (.lst (kw4.map V.str)):=jb
 have s1:=jf hl (.lst [V.str "is",.str "at",.str "if",.str "to"])
 generalize upd H l (.lst [V.str "is",.str "at",.str "if",.str "to"])=H1 at *
 refine ⟨l,_,rfl,.inl (SqL.of e1),rfl,qf _,_,rfl,j3 (fun d=>?_) (fun d=>?_)⟩
 ·have d':inV (.str (zE c)) (kw4.map V.str)=true:=d
  rw [kz] at d'
  refine ⟨_,rfl,_,_,rfl,rfl,Nat.le_of_lt (jv (by rw [zY];show wN c+1≤1000;omega)),?_⟩
  have:=q H1 s1
  unfold kK at this
  rw [if_pos (of_decide_eq_true d')] at this
  exact this
 ·have d':¬ inV (.str (zE c)) (kw4.map V.str)=true:=d
  rw [kz] at d'
  have:=q H1 s1
  unfold kK at this
  rw [if_neg (fun h=>d' (decide_eq_true h))] at this
  exact ⟨_,rfl,this⟩
end
abbrev Yi:Stmt:=top 37
def gB:List Nat→Bool
 | []=>false
 | [_]=>true
 | [x,y]=>decide (97≤x) && decide (97≤y)
 | x :: y :: z :: _=>decide (x=y) || decide (x=z) || decide (y=z)
def jdu (l:List Nat):Option Nat:=if l[0]?=l[1]? then l[0]? else l[2]?
theorem jgK {n a m o:Nat} (h:a < n) (h3:3≤n):∃ r,JS n a m o=o :: m :: m :: r∨JS n a m o=m :: o :: m :: r∨JS n a m o=m :: m :: o :: r∨JS n a m o=m :: m :: m :: r:=by
 unfold JS
 match a,h with
 | 0,h=>
  refine ⟨List.replicate (n - 3) m,.inl ?_⟩
  rw [show n - 1 - 0=(n - 3)+1+1 by omega,List.replicate_succ,List.replicate_succ];rfl
 | 1,h=>
  refine ⟨List.replicate (n - 3) m,.inr (.inl ?_)⟩
  rw [show n - 1 - 1=(n - 3)+1 by omega,List.replicate_succ];rfl
 | 2,h=>exact ⟨_,.inr (.inr (.inl rfl))⟩
 | a+3,h=>exact ⟨_,.inr (.inr (.inr rfl))⟩
theorem jgJ {n a m o:Nat} (h:a < n) (hm:97≤m) (ho:97≤o):gB (JS n a m o)=true:=by
 by_cases h3:3≤n
 ·obtain ⟨r,e | e | e | e⟩:=jgK (m:=m) (o:=o) h h3 <;> rw [e] <;> simp [gB]
 ·have:n=1∨n=2:=by omega
  rcases this with rfl | rfl
  ·have:a=0:=by omega
   subst this
   rfl
  ·have:a=0∨a=1:=by omega
   rcases this with rfl | rfl
   ·show (decide (97≤o) && decide (97≤m))=true
    simp [hm,ho]
   ·show (decide (97≤m) && decide (97≤o))=true
    simp [hm,ho]
theorem jc1 {n a m o:Nat} (h:a < n) (h3:3≤n):jdu (JS n a m o)=some m:=by
 obtain ⟨r,e | e | e | e⟩:=jgK (m:=m) (o:=o) h h3 <;> rw [e] <;> unfold jdu
 ·simp
 ·simp
 ·simp
 ·simp
def kwL:List Str:=["is","at","row","least","each","rise",">=","<=","set","put","any","claim","call"]
def noL:List Str:=("" : Str) :: ("out" : Str) :: kwL
theorem jgQ:∀ k∈noL,k∈kw4∨gB k.cps.toList=false:=by decide +kernel
theorem jgP:∀ k∈kw4,k++("x" : Str) ∉ noL:=by decide +kernel
theorem jbh (c:Int):kK c ∉ noL:=by
 unfold kK
 split
 ·rename_i h
  exact jgP _ h
 ·rename_i h
  intro h2
  rcases jgQ _ h2 with h3 | h3
  ·exact h h3
  ·have:=jgJ (m:=wM c) (o:=wO c) (YY c).1 (by unfold wM Z6;omega) (by unfold wO Z6;omega)
   rw [show (zE c).cps.toList=JS (wN c) (wA c) (wM c) (wO c) from rfl,this] at h3
   cases h3
theorem ZI (c:Int):(kK c).length≤8:=by
 obtain ⟨h1,h2,h3⟩:=YX c
 unfold kK
 split
 ·rw [zD,zY];show wN c+1≤8;omega
 ·rw [zY];omega
theorem jeR:∀ k∈kw4,k.length=2:=by decide +kernel
theorem Kt {c:Int} (h:c % 7=6):jdu (kK c).cps.toList=some (wM c):=by
 have hn:wN c=7:=by unfold wN;omega
 have:zE c ∉ kw4:=fun h=>by
  have:=jeR _ h
  rw [zY] at this
  omega
 unfold kK
 rw [if_neg this]
 exact jc1 (YY c).1 (by omega)
theorem jb9 (c0:Int) (ws:List Str) (hl:ws.length≤11) (h:∀ c,c0≤c→c < c0+250→kK c∈ws):False:=by
 have h0:=Int.emod_nonneg c0 (b:=7) (by decide)
 have h1:=Int.emod_lt_of_pos c0 (b:=7) (by decide)
 have key:∃ B R:Int,B % 7=6∧c0≤B∧B≤c0+100∧0≤R∧∀ i:Nat,i < 12→qx (B+7 * (i:Int))=R+(i:Int):=by
  unfold qx
  by_cases hr:c0 / 7 % 1000000007+12≤1000000007
  ·refine ⟨c0+6 - c0 % 7,c0 / 7 % 1000000007,by omega,by omega,by omega,by omega,fun i hi=>?_⟩
   have:(c0+6 - c0 % 7+7 * (i:Int)) / 7=c0 / 7+(i:Int):=by omega
   rw [this]
   omega
  ·refine ⟨c0+90 - c0 % 7,c0 / 7 % 1000000007+12 - 1000000007,by omega,by omega,by omega,by omega,fun i hi=>?_⟩
   have:(c0+90 - c0 % 7+7 * (i:Int)) / 7=c0 / 7+12+(i:Int):=by omega
   rw [this]
   omega
 obtain ⟨B,R,b1,b2,b3,r0,hB⟩:=key
 have nd:((List.range 12).map fun i:Nat=>kK (B+7 * (i:Int))).Nodup:=by
  refine List.pairwise_map.mpr ?_
  refine List.Pairwise.imp_of_mem ?_ (List.nodup_range (n:=12))
  intro i j hi hj hne e
  have hi:=List.mem_range.mp hi
  have hj:=List.mem_range.mp hj
  have e1:=Kt (c:=B+7 * (i:Int)) (by omega)
  have e2:=Kt (c:=B+7 * (j:Int)) (by omega)
  rw [e,e2] at e1
  have e3:=Option.some.inj e1
  unfold wM Z6 at e3
  rw [hB i hi,hB j hj] at e3
  have:=Int.emod_nonneg (R+(i:Int)) (b:=26) (by decide)
  have:=Int.emod_nonneg (R+(j:Int)) (b:=26) (by decide)
  omega
 have:=yt (m:=ws) nd (fun x hx=>by
  obtain ⟨i,hi,rfl⟩:=List.mem_map.mp hx
  have hi:=List.mem_range.mp hi
  exact h _ (by omega) (by omega))
 rw [List.length_map,List.length_range] at this
 omega
def jas (K:W.Frag):Sp:=fun vs H Q _=>∃ (a:Addr) (ns:List Int),vs=[.ref a,.int 10,.int 12]∧(∀ H',Same H H'→SqL K H' a (ns.map V.int))∧∀ (l:Addr) (ws:List Str) (H':Hp),ws.length=12→ws.Nodup→(∀ x∈ws,x ∉ noL∧x.length≤8)→Same H H'→H' l=some (.lst (ws.map V.str))→Q (.ref l) H'
section
variable {P:Program} {w:World} {K:W.Frag} {mg:Str→Option Value} {base:Heap}
theorem jc9 {f:Addr} {fd:FuncData} (F:Fun K "_law_words" "_law_words" Yi f fd) (B:Free0 mg) (F_cell:Fn P w K mg base 1 "_law_cell" ["_law_script","_law_k"] (JL K)) (F_word:Fn P w K mg base 1 "_law_word" ["_law_cell_here"] jcu):FnOk P w K mg base CX0 2 f fd ["_law_script","_law_start","_law_many"] (jas K):=by
 have sc:FnScope ["_law_script","_law_start","_law_many","_law_words_here","_law_k","_law_cell_here"] ["_law_script","_law_start","_law_many"] (js Yi):=fQ
 refine F.okZ sc (fun vs H Q E h=>?_) (fun cdv A outer s H vs Q E hr h=>?_)
 ·obtain ⟨a,ns,rfl,_⟩:=h
  rfl
 obtain ⟨a,ns,rfl,hS,q⟩:=h
 refine ⟨_,(jg (jx (i:=3) sc.nd rfl oQ (jI jd))
   (jg (jZ PassesOwn.never rfl (qQ (by rfl) B.range_ (ja (zpv 2) jd)) (jt (i:=4) sc.nd rfl oQ) (jg (jx (i:=5) sc.nd rfl oQ (ju F_cell hr (ja (zpv 0) (ja (jm kd (zpv 1) (zpv 4)) jd))))
   (jg (ja8 PassesOwn.never (jz (yr (K:=K)) (ju F_word hr (ja (zpv 5) jd)) (zpv 3) rfl) (ji (jx (i:=5) sc.nd rfl oQ (jm kd (zpv 5) je))))
   (ji (jK (kb PySem.F.plainAttrs_list PySem.F.slot_list_append PySem.F.type_list_append jQ (zpv 3) (ja (ju F_word hr (ja (zpv 5) jd)) jd)))))))
   (ji (jw (zpv 3))))),?_⟩
 refine jR (σ':=[some (.ref a),some (.int 10),some (.int 12),none,none,none]) rfl ?_
 refine ⟨sm rfl,fun l hl=>?_⟩
 have s1:=jf hl (.lst [])
 have e1:upd H l (.lst []) l=some (.lst []):=jb
 generalize upd H l (.lst [])=H1 at *
 refine gQ ?_
 refine ⟨_,rfl,12,rfl,by decide,by decide,?_⟩
 refine yf (n:=12) (fun i σ G=>∃ (u4 u5:Option V) (ws:List Str),σ=[some (.ref a),some (.int 10),some (.int 12),some (.ref l),u4,u5]∧Same H G∧G l=some (.lst (ws.map V.str))∧ws.length=i∧ws.Nodup∧∀ x∈ws,x ∉ noL∧x.length≤8) ⟨none,none,[],rfl,s1,e1,rfl,List.nodup_nil,fun _ z=>by cases z⟩ ?_ ?_
 ·rintro i σ G hi ⟨u4,u5,ws,rfl,sG,hG,lw,nd,ok⟩
  refine gQ ?_
  refine ⟨_,rfl,_,rfl,_,rfl,_,_,rfl,rfl,a,ns,_,rfl,hS _ sG,by omega,by omega,fun c0=>?_⟩
  refine gQ ?_
  refine jcb (fun σ G'=>∃ (c:Int),σ=[some (.ref a),some (.int 10),some (.int 12),some (.ref l),some (.int (0+(i:Int))),some (.int c)]∧Same G G'∧c0≤c∧∀ c',c0≤c'→c' < c→kK c'∈ws)
   (fun σ _=>match σ with | [_,_,_,_,_,some (.int c)]=>(c0+250 - c).toNat | _=>0) ?_ ?_ ?_
  ·exact ⟨c0,rfl,Same.refl _,Int.le_refl _,fun _ _ _=>by omega⟩
  ·rintro σ G' ⟨c,rfl,sG',hc,hall⟩
   refine ⟨_,rfl,c,rfl,fun G2 s2=>?_⟩
   have sG2:=sG'.trans s2
   refine ⟨_,rfl,l,_,rfl,.inl (SqL.of (sG2 _ _ hG)),rfl,qf _,_,rfl,j3 (fun d=>?_) (fun d=>?_)⟩
   ·have d':inV (.str (kK c)) (ws.map V.str)=true:=d
    rw [kz] at d'
    have d'':=of_decide_eq_true d'
    have hall':∀ c',c0≤c'→c' < c+1→kK c'∈ws:=fun c' h1 h2=>by
     by_cases h:c' < c
     ·exact hall c' h1 h
     ·rw [show c'=c by omega];exact d''
    have hlt:c < c0+250:=by
     by_cases h:c < c0+250
     ·exact h
     ·exact (jb9 c0 ws (by omega) fun c' h1 h2=>hall c' h1 (by omega)).elim
    refine ⟨_,rfl,_,_,rfl,rfl,⟨c+1,rfl,sG2,by omega,hall'⟩,?_⟩
    show (c0+250 - (c+1)).toNat < (c0+250 - c).toNat
    omega
   ·have d':¬ inV (.str (kK c)) (ws.map V.str)=true:=d
    rw [kz] at d'
    have hn:kK c ∉ ws:=fun h=>d' (decide_eq_true h)
    refine ⟨_,rfl,.inl ⟨rfl,_,SqL.of (sG2 _ _ hG)⟩,_,rfl,c,rfl,fun G3 s3=>?_⟩
    have sG3:=sG2.trans s3
    refine ⟨l,_,_,rfl,rfl,sG3 _ _ hG,jv (by rw [List.length_map];omega),_,_,ws++[kK c],rfl,fun z o e=>?_,?_,by rw [List.length_append,lw];rfl,?_,fun x hx=>?_⟩
    ·rw [jr (jn e hl)];exact sG3 _ _ (sG _ _ e)
    ·rw [jb,List.map_append];rfl
    ·refine List.nodup_append.mpr ⟨nd,by simp,fun x hx y hy=>?_⟩
     rw [List.mem_singleton.mp hy]
     intro e
     rw [e] at hx
     exact hn hx
    ·rcases List.mem_append.mp hx with hx | hx
     ·exact ok x hx
     ·rw [List.mem_singleton.mp hx];exact ⟨jbh c,ZI c⟩
  ·intro σ G1 Q1 Q2 hm h
   obtain ⟨v1,e1,c,e2,h⟩:=h
   refine ⟨v1,e1,c,e2,fun G2 s2=>?_⟩
   obtain ⟨v2,e3,l',xs,e4,e5,e6,e7,k,e8,h⟩:=h G2 s2
   exact ⟨v2,e3,l',xs,e4,e5,e6,e7,k,e8,hm _ _ h⟩
 rintro σ G ⟨u4,u5,ws,rfl,sG,hG,lw,nd,ok⟩
 exact ⟨_,rfl,q l ws G lw nd ok sG hG⟩
end
abbrev jaK:Stmt:=top 43
def Pc.hdD (p:Pc):D:=.tup [.str "proc",.str p.f,.tup (p.ps.map D.str),.tup (p.rs.map D.str),.tup (p.nd.map Cl.toD),.tup (p.gv.map Cl.toD)]
structure HdIn (p:Pc) (f:Str) (ps rs:List Str):Prop where
 ef:p.f=f
 eps:p.ps=ps
 ers:p.rs=rs
 nd:p.nd.length≤4∧∀ C∈p.nd,C.In ps rs
 gv:p.gv.length≤4∧∀ C∈p.gv,C.In (ps++[("out" : Str)]) rs
 bd:p.bd=[]
def jcy (K:W.Frag):Sp:=fun vs H Q _=>∃ (a b c:Addr) (ns:List Int) (at':Int) (f:Str) (ps rs:List Str),vs=[.ref a,.int at',.str f,.ref b,.ref c]∧(∀ H',Same H H'→SqL K H' a (ns.map V.int))∧0≤at'∧at'≤100∧H b=some (.lst (ps.map V.str))∧H c=some (.lst (rs.map V.str))∧ps.length≤10∧rs.length≤10∧∀ (u:V) (p:Pc) (H':Hp),HdIn p f ps rs→Same H H'→Held H' p.hdD u→Q u H'
theorem kF {H:Hp}:∀ xs:List Str,HeldL H (xs.map D.str) (xs.map V.str)
 | []=>jl
 | _ :: xs=>jc jk (kF xs)
section
variable {P:Program} {w:World} {K:W.Frag} {mg:Str→Option Value} {base:Heap}
theorem jeL {f:Addr} {fd:FuncData} (F:Fun K "_law_head" "_law_head" jaK f fd) (B:Free0 mg) (F_cell:Fn P w K mg base 1 "_law_cell" ["_law_script","_law_k"] (JL K)) (F_claim:Fn P w K mg base 4 "_law_claim" ["_law_cell_here","_law_nums","_law_rows"] JK):FnOk P w K mg base CX0 5 f fd ["_law_script","_law_at","_law_f","_law_params","_law_rows"] (jcy K):=by
 have sc:FnScope ["_law_script","_law_at","_law_f","_law_params","_law_rows","_law_needs","_law_gives","_law_k"] ["_law_script","_law_at","_law_f","_law_params","_law_rows"] (js jaK):=fQ
 refine F.okZ sc (fun vs H Q E h=>?_) (fun cdv A outer s H vs Q E hr h=>?_)
 ·obtain ⟨a,b,c,ns,at',f,ps,rs,rfl,_⟩:=h
  rfl
 obtain ⟨a,b,c,ns,at',f,ps,rs,rfl,hS,ha0,ha1,hb,hc,lps,lrs,q⟩:=h
 refine ⟨_,(jg (jx (i:=5) sc.nd rfl oQ (jI jd))
   (jg (jx (i:=6) sc.nd rfl oQ (jI jd))
   (jg (jZ PassesOwn.never rfl (qQ (by rfl) B.range_ (ja (jm jS (ju F_cell hr (ja (zpv 0) (ja (zpv 1) jd))) je) jd)) (jt (i:=7) sc.nd rfl oQ) (ji (jK (kb PySem.F.plainAttrs_list PySem.F.slot_list_append PySem.F.type_list_append jQ (zpv 5) (ja (ju F_claim hr (ja (ju F_cell hr (ja (zpv 0) (ja (jm kd (jm kd (zpv 1) je) (zpv 7)) jd))) (ja (zpv 3) (ja (zpv 4) jd)))) jd)))))
   (jg (jZ PassesOwn.never rfl (qQ (by rfl) B.range_ (ja (jm jS (ju F_cell hr (ja (zpv 0) (ja (jm kd (zpv 1) je) jd))) je) jd)) (jt (i:=7) sc.nd rfl oQ) (ji (jK (kb PySem.F.plainAttrs_list PySem.F.slot_list_append PySem.F.type_list_append jQ (zpv 6) (ja (ju F_claim hr (ja (ju F_cell hr (ja (zpv 0) (ja (jm kd (jm kd (zpv 1) je) (zpv 7)) jd))) (ja (jm kD (zpv 3) (jI (ja jo jd))) (ja (zpv 4) jd)))) jd)))))
   (ji (jw (jy (ja jo (ja (zpv 2) (ja (kJ ke (by rfl) B.tuple_ qw (ja (zpv 3) jd)) (ja (kJ ke (by rfl) B.tuple_ qw (ja (zpv 4) jd)) (ja (kJ ke (by rfl) B.tuple_ qw (ja (zpv 5) jd)) (ja (kJ ke (by rfl) B.tuple_ qw (ja (zpv 6) jd)) jd))))))))))))),?_⟩
 refine jR (σ':=[some (.ref a),some (.int at'),some (.str f),some (.ref b),some (.ref c),none,none,none]) rfl ?_
 refine ⟨sm rfl,fun nl hnl=>?_⟩
 have s1:=jf hnl (.lst [])
 have e1:upd H nl (.lst []) nl=some (.lst []):=jb
 generalize upd H nl (.lst [])=H1 at *
 refine gQ ?_
 refine ⟨sm rfl,fun gl hgl=>?_⟩
 have s2:=jf hgl (.lst [])
 have e2:upd H1 gl (.lst []) gl=some (.lst []):=jb
 generalize upd H1 gl (.lst [])=H2 at *
 have s12:=s1.trans s2
 have ngn:gl≠nl:=fun z=>by rw [z,e1] at hgl;cases hgl
 have hgl0:H gl=none:=s1.free hgl
 have hnl2:=s2 _ _ e1
 refine gQ ?_
 refine ⟨_,rfl,_,rfl,a,ns,_,rfl,hS _ s12,ha0,by omega,fun c2=>⟨_,_,rfl,rfl,(by show (0:Int) < 5;decide),?_⟩⟩
 obtain ⟨k2,hk2⟩:∃ k2,k2=c2 % 5:=⟨_,rfl⟩
 have k20:0≤k2:=by rw [hk2];exact Int.emod_nonneg _ (by decide)
 have k21:k2≤4:=by
  have:=Int.emod_lt_of_pos c2 (b:=5) (by decide)
  omega
 refine ⟨k2,by rw [hk2],by omega,by omega,?_⟩
 refine yf (n:=k2.toNat) (fun i σ G=>∃ (u7:Option V) (us:List V) (Cs:List Cl),σ=[some (.ref a),some (.int at'),some (.str f),some (.ref b),some (.ref c),some (.ref nl),some (.ref gl),u7]∧Same H G∧G gl=some (.lst [])∧G nl=some (.lst us)∧HeldL G (Cs.map Cl.toD) us∧Cs.length=i∧∀ C∈Cs,C.In ps rs) ⟨none,[],[],rfl,s12,e2,hnl2,jl,rfl,fun _ z=>by cases z⟩ ?_ ?_
 ·rintro i σ G hi ⟨u7,us,Cs,rfl,sG,hGg,hG,hC,lC,iC⟩
  have lus:=hC.length
  rw [List.length_map] at lus
  refine gQ ?_
  refine ⟨_,rfl,.inl ⟨rfl,_,SqL.of hG⟩,?_⟩
  refine ⟨_,rfl,_,rfl,_,_,rfl,rfl,_,rfl,_,_,rfl,rfl,a,ns,_,rfl,hS _ sG,by omega,by omega,fun cc=>?_⟩
  refine ⟨_,rfl,_,rfl,cc,b,c,ps,rs,rfl,sG _ _ hb,sG _ _ hc,by omega,fun u C G2 hCi s9 hu=>?_⟩
  have hG2:=s9 _ _ hG
  have tk:TK G2 (upd G2 nl (.lst (us++[u]))):=TK.upd hG2 (fun _ z=>by cases z)
  refine ⟨nl,_,_,rfl,rfl,hG2,jv (by omega),_,us++[u],Cs++[C],rfl,fun z o e=>?_,?_,jb,?_,by rw [List.length_append,lC];rfl,fun C' hC'=>?_⟩
  ·rw [jr (jn e hnl)];exact s9 _ _ (sG _ _ e)
  ·rw [jr ngn];exact s9 _ _ hGg
  ·rw [List.map_append];exact jE (tk.heldL (hC.mono s9)) (jW (tk.held hu))
  ·rcases List.mem_append.mp hC' with h | h
   ·exact iC C' h
   ·rw [List.mem_singleton.mp h];exact hCi
 rintro σ G ⟨u7,nus,Ns,rfl,sG,hGg,hGn,hN,lN,iN⟩
 refine ⟨_,rfl,_,rfl,_,_,rfl,rfl,a,ns,_,rfl,hS _ sG,by omega,by omega,fun c3=>⟨_,_,rfl,rfl,(by show (0:Int) < 5;decide),?_⟩⟩
 obtain ⟨k3,hk3⟩:∃ k3,k3=c3 % 5:=⟨_,rfl⟩
 have k30:0≤k3:=by rw [hk3];exact Int.emod_nonneg _ (by decide)
 have k31:k3≤4:=by
  have:=Int.emod_lt_of_pos c3 (b:=5) (by decide)
  omega
 refine ⟨k3,by rw [hk3],by omega,by omega,?_⟩
 refine yf (n:=k3.toNat) (fun i σ G'=>∃ (u7:Option V) (us:List V) (Cs:List Cl),σ=[some (.ref a),some (.int at'),some (.str f),some (.ref b),some (.ref c),some (.ref nl),some (.ref gl),u7]∧Same H G'∧G' nl=some (.lst nus)∧HeldL G' (Ns.map Cl.toD) nus∧G' gl=some (.lst us)∧HeldL G' (Cs.map Cl.toD) us∧Cs.length=i∧∀ C∈Cs,C.In (ps++[("out" : Str)]) rs) ⟨u7,[],[],rfl,sG,hGn,hN,hGg,jl,rfl,fun _ z=>by cases z⟩ ?_ ?_
 ·clear hGn hN hGg sG
  rintro i σ G hi ⟨u7,us,Cs,rfl,sG,hGn,hN,hG,hC,lC,iC⟩
  have lus:=hC.length
  rw [List.length_map] at lus
  refine gQ ?_
  refine ⟨_,rfl,.inl ⟨rfl,_,SqL.of hG⟩,?_⟩
  refine ⟨_,rfl,_,rfl,_,_,rfl,rfl,_,rfl,_,_,rfl,rfl,a,ns,_,rfl,hS _ sG,by omega,by omega,fun cc=>?_⟩
  refine ⟨_,rfl,sm rfl,fun q1 hq1=>?_⟩
  have t1:=jf hq1 (.lst [V.str "out"])
  have f1:upd G q1 (.lst [V.str "out"]) q1=some (.lst [V.str "out"]):=jb
  generalize upd G q1 (.lst [V.str "out"])=G1 at *
  refine ⟨b,q1,_,_,rfl,rfl,t1 _ _ (sG _ _ hb),f1,Nat.le_trans (by rw [List.length_map];exact Nat.le_trans (Nat.add_le_add_right lps 1) (by decide:10+1≤1000)) (ka (Nat.le_refl 1000)),fun q2 hq2=>?_⟩
  rw [show ps.map V.str++[V.str "out"]=(ps++[("out" : Str)]).map V.str by rw [List.map_append];rfl]
  have t2:=jf hq2 (.lst ((ps++[("out" : Str)]).map V.str))
  have f2':upd G1 q2 (.lst ((ps++[("out" : Str)]).map V.str)) q2=some (.lst ((ps++[("out" : Str)]).map V.str)):=jb
  generalize upd G1 q2 (.lst ((ps++[("out" : Str)]).map V.str))=G1' at *
  have t12:=t1.trans t2
  refine ⟨_,rfl,cc,q2,c,ps++[("out" : Str)],rs,rfl,f2',t12 _ _ (sG _ _ hc),by rw [List.length_append];show ps.length+1≤100;omega,fun u C G2 hCi t3 hu=>?_⟩
  have s9:=t12.trans t3
  have hG2:=s9 _ _ hG
  have tk:TK G2 (upd G2 gl (.lst (us++[u]))):=TK.upd hG2 (fun _ z=>by cases z)
  refine ⟨gl,_,_,rfl,rfl,hG2,jv (by omega),_,us++[u],Cs++[C],rfl,fun z o e=>?_,?_,tk.heldL (hN.mono s9),jb,?_,by rw [List.length_append,lC];rfl,fun C' hC'=>?_⟩
  ·rw [jr (jn e hgl0)];exact s9 _ _ (sG _ _ e)
  ·rw [jr (Ne.symm ngn)];exact s9 _ _ hGn
  ·rw [List.map_append];exact jE (tk.heldL (hC.mono s9)) (jW (tk.held hu))
  ·rcases List.mem_append.mp hC' with h | h
   ·exact iC C' h
   ·rw [List.mem_singleton.mp h];exact hCi
 clear hGn hN hGg sG
 rintro σ G ⟨u7',gus,Gs,rfl,sG,hGn,hN,hGg,hGv,lG,iG⟩
 refine ⟨_,rfl,_,rfl,b,_,rfl,.inl ⟨SqL.of (sG _ _ hb),fun r1 hr1=>?_⟩⟩
 have x1:=jf hr1 (.tup (ps.map V.str))
 have y1:upd G r1 (.tup (ps.map V.str)) r1=some (.tup (ps.map V.str)):=jb
 generalize upd G r1 (.tup (ps.map V.str))=J1 at *
 refine ⟨_,rfl,c,_,rfl,.inl ⟨SqL.of (x1 _ _ (sG _ _ hc)),fun r2 hr2=>?_⟩⟩
 have x2:=jf hr2 (.tup (rs.map V.str))
 have y2:upd J1 r2 (.tup (rs.map V.str)) r2=some (.tup (rs.map V.str)):=jb
 generalize upd J1 r2 (.tup (rs.map V.str))=J2 at *
 have x12:=x1.trans x2
 refine ⟨_,rfl,nl,_,rfl,.inl ⟨SqL.of (x12 _ _ hGn),fun r3 hr3=>?_⟩⟩
 have x3:=jf hr3 (.tup nus)
 have y3:upd J2 r3 (.tup nus) r3=some (.tup nus):=jb
 generalize upd J2 r3 (.tup nus)=J3 at *
 have x13:=x12.trans x3
 refine ⟨_,rfl,gl,_,rfl,.inl ⟨SqL.of (x13 _ _ hGg),fun r4 hr4=>?_⟩⟩
 have x4:=jf hr4 (.tup gus)
 have y4:upd J3 r4 (.tup gus) r4=some (.tup gus):=jb
 generalize upd J3 r4 (.tup gus)=J4 at *
 have x14:=x13.trans x4
 refine ⟨sm rfl,fun r6 hr6=>?_⟩
 have x6:=jf hr6 (.tup [V.str "proc",.str f,.ref r1,.ref r2,.ref r3,.ref r4])
 have z4:=x4.trans x6
 have z3:=x3.trans z4
 have z2:=x2.trans z3
 have z1:=x1.trans z2
 refine q (.ref r6) ⟨f,ps,rs,Ns,Gs,[]⟩ _ ⟨rfl,rfl,rfl,⟨by show Ns.length≤4;omega,iN⟩,⟨by show Gs.length≤4;omega,iG⟩,rfl⟩ (sG.trans z1) ?_
 exact jp jb (jc jk (jc jk (jc (jp (z2 _ _ y1) (kF _)) (jc (jp (z3 _ _ y2) (kF _)) (jc (jp (z4 _ _ y3) (hN.mono z1)) (jc (jp (x6 _ _ y4) (hGv.mono z1)) jl))))))
end
abbrev Yk:Stmt:=top 46
abbrev yW:Stmt:=top 47
def NmL (kvs:List (Key×V)) (N:Str→Str):Prop:=∀ x:Str,(kP kvs (Sum.inr x)).getD (.str x)=.str (N x)
def JI:Sp:=fun vs H Q _=>∃ (x:Str) (m:Addr) (kvs:List (Key×V)) (N:Str→Str),vs=[.ref m,.str x]∧H m=some (.dK kvs)∧NmL kvs N∧Q (.str (N x)) H
inductive Sg where
 | tm (t:Tm) | bd (b:Bd)
def Sg.toD:Sg→D
 | .tm t=>t.toD
 | .bd b=>b.toD
def Sg.say (N:Str→Str):Sg→Sg
 | .tm t=>.tm (t.say N)
 | .bd b=>.bd (b.say N)
def jau:Sp:=fun vs H Q _=>∃ (v:V) (p:Sg) (m:Addr) (kvs:List (Key×V)) (N:Str→Str),vs=[v,.ref m]∧Held H p.toD v∧H m=some (.dK kvs)∧NmL kvs N∧∀ r H',Same H H'→Held H' (p.say N).toD r→Q r H'
def jav:Sp:=fun vs H Q _=>∃ (v:V) (p:Cl) (m:Addr) (kvs:List (Key×V)) (N:Str→Str),vs=[v,.ref m]∧Held H p.toD v∧H m=some (.dK kvs)∧NmL kvs N∧∀ r H',Same H H'→Held H' (p.say N).toD r→Q r H'
section
variable {P:Program} {w:World} {K:W.Frag} {mg:Str→Option Value} {base:Heap}
theorem jby {f:Addr} {fd:FuncData} (F:Fun K "_law_named" "_law_named" Yk f fd):FnOk P w K mg base CX0 1 f fd ["_law_names","_law_word_here"] JI:=by
 have sc:FnScope ["_law_names","_law_word_here"] ["_law_names","_law_word_here"] (js Yk):=fQ
 refine F.okZ sc (fun vs H Q E h=>?_) (fun cdv A outer s H vs Q E hr h=>?_)
 ·obtain ⟨x,m,kvs,N,rfl,_⟩:=h
  rfl
 obtain ⟨x,m,kvs,N,rfl,hm,o,q⟩:=h
 have hu:=jaW hr
 refine ⟨_,(ji (jw (Kr hu (zpv 0) (zpv 1) (zpv 1) ⟨rfl,rfl,rfl,rfl⟩))),?_⟩
 refine ⟨_,rfl,m,rfl,.inl ⟨kvs,.inl hm⟩,_,rfl,_,rfl,_,DGet.k (k:=Sum.inr x) hm,?_⟩
 rw [o x]
 exact q
theorem jde {f:Addr} {fd:FuncData} (F:Fun K "_law_said" "_law_said" yW f fd) (F_named:Fn P w K mg base 1 "_law_named" ["_law_names","_law_word_here"] JI):FnOk P w K mg base CX0 2 f fd ["_law_thing","_law_names"] jau:=by
 have sc:FnScope ["_law_thing","_law_names","_law_t","_law_u"] ["_law_thing","_law_names"] (js yW):=fQ
 refine F.okZ sc (fun vs H Q E h=>?_) (fun cdv A outer s H vs Q E hr h=>?_)
 ·obtain ⟨x,p,m,kvs,N,rfl,_⟩:=h
  rfl
 obtain ⟨v,p,m,kvs,N,rfl,hx,hm,o,q⟩:=h
 refine ⟨_,(jg (jL (ZF (jz jY (jj jq (zpv 0) je (fun _ _=>rfl)) jo (jH _)) (K5 (jz jY (jj jq (zpv 0) je (fun _ _=>rfl)) jo (jH _)))).pt (ji (jw (jy (ja (jj jq (zpv 0) je (fun _ _=>rfl)) (ja (ju F_named hr (ja (zpv 1) (ja (jj jq (zpv 0) je (fun _ _=>rfl)) jd))) jd))))) jD)
   (jg (jL (jz jY (jj jq (zpv 0) je (fun _ _=>rfl)) jo (jH _)) (ji (jw (jy (ja jo (ja (ju F_named hr (ja (zpv 1) (ja (jj jq (zpv 0) je (fun _ _=>rfl)) jd))) (ja (jy (ja (ju F_named hr (ja (zpv 1) (ja (jj jq (jj jq (zpv 0) je (fun _ _=>rfl)) je (fun _ _=>rfl)) jd))) (ja (jj jq (jj jq (zpv 0) je (fun _ _=>rfl)) je (fun _ _=>rfl)) jd))) jd)))))) jD)
   (jg (jL (jz jY (jj jq (zpv 0) je (fun _ _=>rfl)) jo (jH _)) (ji (jw (jy (ja jo (ja qN (ja qN (ja (jj jq (zpv 0) je (fun _ _=>rfl)) jd))))))) jD)
   (jg (jx (i:=2) sc.nd rfl oQ (jy (ja (ju F_named hr (ja (zpv 1) (ja (jj jq (jj jq (zpv 0) je (fun _ _=>rfl)) je (fun _ _=>rfl)) jd))) (ja (jj jq (jj jq (zpv 0) je (fun _ _=>rfl)) je (fun _ _=>rfl)) jd))))
   (jg (jx (i:=3) sc.nd rfl oQ (jy (ja (ju F_named hr (ja (zpv 1) (ja (jj jq (jj jq (zpv 0) je (fun _ _=>rfl)) je (fun _ _=>rfl)) jd))) (ja (jj jq (jj jq (zpv 0) je (fun _ _=>rfl)) je (fun _ _=>rfl)) jd))))
   (jg (jL (jz jY (jj jq (zpv 0) je (fun _ _=>rfl)) jo (jH _)) (ji (jw (jy (ja jo (ja (zpv 2) (ja (zpv 3) (ja (ju F_named hr (ja (zpv 1) (ja (jj jq (zpv 0) je (fun _ _=>rfl)) jd))) jd))))))) jD)
   (ji (jw (jy (ja jo (ja (zpv 2) (ja (zpv 3) (ja (ju F_named hr (ja (zpv 1) (ja (jj jq (zpv 0) je (fun _ _=>rfl)) jd))) (ja (jj jq (zpv 0) je (fun _ _=>rfl)) (ja qN (ja (jj jq (zpv 0) je (fun _ _=>rfl)) jd)))))))))))))))),?_⟩
 refine jR (σ':=[some v,some (.ref m),none,none]) rfl ?_
 cases p with
 | tm t=>
  cases t with
  | is y=>
   obtain ⟨a,rfl,ha⟩:=qo hx
   refine ⟨_,rfl,a,_,_,_,rfl,rfl,SqT.of ha,rfl,rfl,_,rfl,zy ?_⟩
   refine ⟨_,rfl,a,_,_,_,rfl,rfl,SqT.of ha,rfl,_,rfl,_,rfl,a,_,_,_,rfl,rfl,SqT.of ha,rfl,y,m,kvs,N,rfl,hm,o,sm rfl,fun r hr'=>?_⟩
   exact q _ _ (jf hr' _) (jp jb (jc jk (jc jk jl)))
  | at_ r x d=>
   obtain ⟨a,b,rfl,ha,hb⟩:=jah hx
   refine ⟨_,rfl,a,_,_,_,rfl,rfl,SqT.of ha,rfl,rfl,_,rfl,qH ?_⟩
   refine ⟨_,rfl,a,_,_,_,rfl,rfl,SqT.of ha,rfl,rfl,_,rfl,qH ?_⟩
   refine ⟨_,rfl,a,_,_,_,rfl,rfl,SqT.of ha,rfl,rfl,_,rfl,zy ?_⟩
   refine ⟨_,rfl,_,rfl,a,_,_,_,rfl,rfl,SqT.of ha,rfl,r,m,kvs,N,rfl,hm,o,_,rfl,_,rfl,a,_,_,_,rfl,rfl,SqT.of ha,rfl,b,_,_,_,rfl,rfl,SqT.of hb,rfl,x,m,kvs,N,rfl,hm,o,?_⟩
   refine ⟨_,rfl,a,_,_,_,rfl,rfl,SqT.of ha,rfl,b,_,_,_,rfl,rfl,SqT.of hb,rfl,sm rfl,fun z1 hz1=>?_⟩
   have s1:=jf hz1 (.tup [V.str (N x),.int d])
   have e1:upd H z1 (.tup [V.str (N x),.int d]) z1=some (.tup [V.str (N x),.int d]):=jb
   generalize upd H z1 (.tup [V.str (N x),.int d])=H1 at *
   refine ⟨sm rfl,fun z hz=>?_⟩
   have s2:=jf hz (.tup [V.str "at",.str (N r),.ref z1])
   exact q _ _ (s1.trans s2) (jp jb (jc jk (jc jk (jc (jp (s2 _ _ e1) (jc jk (jc jU jl))) jl))))
 | bd b=>
  cases b with
  | is y=>
   obtain ⟨a,rfl,ha⟩:=qo hx
   refine ⟨_,rfl,a,_,_,_,rfl,rfl,SqT.of ha,rfl,rfl,_,rfl,zy ?_⟩
   refine ⟨_,rfl,a,_,_,_,rfl,rfl,SqT.of ha,rfl,_,rfl,_,rfl,a,_,_,_,rfl,rfl,SqT.of ha,rfl,y,m,kvs,N,rfl,hm,o,sm rfl,fun r hr'=>?_⟩
   exact q _ _ (jf hr' _) (jp jb (jc jk (jc jk jl)))
  | row y=>
   obtain ⟨a,rfl,ha⟩:=qo hx
   refine ⟨_,rfl,a,_,_,_,rfl,rfl,SqT.of ha,rfl,rfl,_,rfl,qH ?_⟩
   refine ⟨_,rfl,a,_,_,_,rfl,rfl,SqT.of ha,rfl,rfl,_,rfl,zy ?_⟩
   refine ⟨_,rfl,a,_,_,_,rfl,rfl,SqT.of ha,rfl,_,rfl,_,rfl,a,_,_,_,rfl,rfl,SqT.of ha,rfl,y,m,kvs,N,rfl,hm,o,sm rfl,fun r hr'=>?_⟩
   exact q _ _ (jf hr' _) (jp jb (jc jk (jc jk jl)))
theorem jdf {f:Addr} {fd:FuncData} (F:Fun K "_law_said" "_law_said" yW f fd) (F_named:Fn P w K mg base 1 "_law_named" ["_law_names","_law_word_here"] JI) (F_said:Fn P w K mg base 2 "_law_said" ["_law_thing","_law_names"] jau):FnOk P w K mg base CX0 3 f fd ["_law_thing","_law_names"] jav:=by
 have sc:FnScope ["_law_thing","_law_names","_law_t","_law_u"] ["_law_thing","_law_names"] (js yW):=fQ
 refine F.okZ sc (fun vs H Q E h=>?_) (fun cdv A outer s H vs Q E hr h=>?_)
 ·obtain ⟨x,p,m,kvs,N,rfl,_⟩:=h
  rfl
 obtain ⟨v,p,m,kvs,N,rfl,hx,hm,o,q⟩:=h
 refine ⟨_,(jg (jL (ZF (jz jY (jj jq (zpv 0) je (fun _ _=>rfl)) jo (jH _)) (K5 (jz jY (jj jq (zpv 0) je (fun _ _=>rfl)) jo (jH _)))).pt (ji (jw (jy (ja (jj jq (zpv 0) je (fun _ _=>rfl)) (ja (ju F_named hr (ja (zpv 1) (ja (jj jq (zpv 0) je (fun _ _=>rfl)) jd))) jd))))) jD)
   (jg (jL (jz jY (jj jq (zpv 0) je (fun _ _=>rfl)) jo (jH _)) (ji (jw (jy (ja jo (ja (ju F_named hr (ja (zpv 1) (ja (jj jq (zpv 0) je (fun _ _=>rfl)) jd))) (ja (jy (ja (ju F_named hr (ja (zpv 1) (ja (jj jq (jj jq (zpv 0) je (fun _ _=>rfl)) je (fun _ _=>rfl)) jd))) (ja (jj jq (jj jq (zpv 0) je (fun _ _=>rfl)) je (fun _ _=>rfl)) jd))) jd)))))) jD)
   (jg (jL (jz jY (jj jq (zpv 0) je (fun _ _=>rfl)) jo (jH _)) (ji (jw (jy (ja jo (ja (ju F_said hr (ja (jj jq (zpv 0) je (fun _ _=>rfl)) (ja (zpv 1) jd))) (ja (ju F_said hr (ja (jj jq (zpv 0) je (fun _ _=>rfl)) (ja (zpv 1) jd))) (ja (jj jq (zpv 0) je (fun _ _=>rfl)) jd))))))) jD)
   (jg (jx (i:=2) sc.nd rfl oQ (jy (ja (ju F_named hr (ja (zpv 1) (ja (jj jq (jj jq (zpv 0) je (fun _ _=>rfl)) je (fun _ _=>rfl)) jd))) (ja (jj jq (jj jq (zpv 0) je (fun _ _=>rfl)) je (fun _ _=>rfl)) jd))))
   (jg (jx (i:=3) sc.nd rfl oQ (jy (ja (ju F_named hr (ja (zpv 1) (ja (jj jq (jj jq (zpv 0) je (fun _ _=>rfl)) je (fun _ _=>rfl)) jd))) (ja (jj jq (jj jq (zpv 0) je (fun _ _=>rfl)) je (fun _ _=>rfl)) jd))))
   (jg (jL (jz jY (jj jq (zpv 0) je (fun _ _=>rfl)) jo (jH _)) (ji (jw (jy (ja jo (ja (zpv 2) (ja (zpv 3) (ja (ju F_named hr (ja (zpv 1) (ja (jj jq (zpv 0) je (fun _ _=>rfl)) jd))) jd))))))) jD)
   (ji (jw (jy (ja jo (ja (zpv 2) (ja (zpv 3) (ja (ju F_named hr (ja (zpv 1) (ja (jj jq (zpv 0) je (fun _ _=>rfl)) jd))) (ja (jj jq (zpv 0) je (fun _ _=>rfl)) (ja (ju F_said hr (ja (jj jq (zpv 0) je (fun _ _=>rfl)) (ja (zpv 1) jd))) (ja (jj jq (zpv 0) je (fun _ _=>rfl)) jd)))))))))))))))),?_⟩
 refine jR (σ':=[some v,some (.ref m),none,none]) rfl ?_
 cases p with
 | least ta tb c=>
  obtain ⟨a,va,vb,rfl,ha,h1,h2⟩:=yZ hx
  refine ⟨_,rfl,a,_,_,_,rfl,rfl,SqT.of ha,rfl,rfl,_,rfl,qH ?_⟩
  refine ⟨_,rfl,a,_,_,_,rfl,rfl,SqT.of ha,rfl,rfl,_,rfl,qH ?_⟩
  refine ⟨_,rfl,a,_,_,_,rfl,rfl,SqT.of ha,rfl,rfl,_,rfl,qH ?_⟩
  refine ⟨_,rfl,a,_,_,_,rfl,rfl,SqT.of ha,rfl,rfl,_,rfl,zy ?_⟩
  refine ⟨_,rfl,a,_,_,_,rfl,rfl,SqT.of ha,rfl,_,rfl,va,.tm ta,m,kvs,N,rfl,h1,hm,o,fun u H2 s2 g2=>?_⟩
  refine ⟨_,rfl,a,_,_,_,rfl,rfl,SqT.of (s2 _ _ ha),rfl,_,rfl,vb,.tm tb,m,kvs,N,rfl,h2.mono s2,s2 _ _ hm,o,fun u' H3 s3 g3=>?_⟩
  have s23:=s2.trans s3
  refine ⟨_,rfl,a,_,_,_,rfl,rfl,SqT.of (s23 _ _ ha),rfl,sm rfl,fun z hz=>?_⟩
  have s4:=jf hz (.tup [V.str "least",u,u',V.int c])
  exact q _ _ (s23.trans s4) (jp jb (jc jk (jc (g2.mono (s3.trans s4)) (jc (g3.mono s4) (jc jU jl)))))
 | rise t td u ud r=>
  obtain ⟨a,at',au,rfl,ha,hta,hua⟩:=JR hx
  refine ⟨_,rfl,a,_,_,_,rfl,rfl,SqT.of ha,rfl,rfl,_,rfl,qH ?_⟩
  refine ⟨_,rfl,a,_,_,_,rfl,rfl,SqT.of ha,rfl,rfl,_,rfl,qH ?_⟩
  refine ⟨_,rfl,a,_,_,_,rfl,rfl,SqT.of ha,rfl,rfl,_,rfl,qH ?_⟩
  refine ⟨_,rfl,a,_,_,_,rfl,rfl,SqT.of ha,rfl,rfl,_,rfl,qH ?_⟩
  refine ⟨_,rfl,_,rfl,a,_,_,_,rfl,rfl,SqT.of ha,rfl,at',_,_,_,rfl,rfl,SqT.of hta,rfl,t,m,kvs,N,rfl,hm,o,_,rfl,a,_,_,_,rfl,rfl,SqT.of ha,rfl,at',_,_,_,rfl,rfl,SqT.of hta,rfl,sm rfl,fun z1 hz1=>?_⟩
  have s1:=jf hz1 (.tup [V.str (N t),.int td])
  have e1:upd H z1 (.tup [V.str (N t),.int td]) z1=some (.tup [V.str (N t),.int td]):=jb
  generalize upd H z1 (.tup [V.str (N t),.int td])=H1 at *
  refine gQ ?_
  refine ⟨_,rfl,_,rfl,a,_,_,_,rfl,rfl,SqT.of (s1 _ _ ha),rfl,au,_,_,_,rfl,rfl,SqT.of (s1 _ _ hua),rfl,u,m,kvs,N,rfl,s1 _ _ hm,o,_,rfl,a,_,_,_,rfl,rfl,SqT.of (s1 _ _ ha),rfl,au,_,_,_,rfl,rfl,SqT.of (s1 _ _ hua),rfl,sm rfl,fun z2 hz2=>?_⟩
  have s2:=jf hz2 (.tup [V.str (N u),.int ud])
  have e2:upd H1 z2 (.tup [V.str (N u),.int ud]) z2=some (.tup [V.str (N u),.int ud]):=jb
  generalize upd H1 z2 (.tup [V.str (N u),.int ud])=H2 at *
  have s12:=s1.trans s2
  refine gQ ?_
  refine ⟨_,rfl,a,_,_,_,rfl,rfl,SqT.of (s12 _ _ ha),rfl,rfl,_,rfl,zy ?_⟩
  refine ⟨_,rfl,_,rfl,_,rfl,_,rfl,a,_,_,_,rfl,rfl,SqT.of (s12 _ _ ha),rfl,r,m,kvs,N,rfl,s12 _ _ hm,o,sm rfl,fun z hz=>?_⟩
  have s3:=jf hz (.tup [V.str "rise",.ref z1,.ref z2,.str (N r)])
  exact q _ _ (s12.trans s3) (jp jb (jc jk (jc (jp ((s2.trans s3) _ _ e1) (jc jk (jc jU jl))) (jc (jp (s3 _ _ e2) (jc jk (jc jU jl))) (jc jk jl)))))
 | each t td u ud r way b c=>
  have hxb:∃ vb,Held H b.toD vb∧∃ a at' au,v=.ref a∧H a=some (.tup [.str "each",.ref at',.ref au,.str r,.str way,vb,.int c])∧H at'=some (.tup [.str t,.int td])∧H au=some (.tup [.str u,.int ud]):=by
   obtain ⟨t',xs,rfl,ht,h1⟩:=jC hx
   obtain ⟨v1,r1,rfl,e1,h2⟩:=jh h1
   obtain ⟨v2,r2,rfl,e2,h3⟩:=jh h2
   obtain ⟨v3,r3,rfl,e3,h4⟩:=jh h3
   obtain ⟨v4,r4,rfl,e4,h5⟩:=jh h4
   obtain ⟨v5,r5,rfl,e5,h6⟩:=jh h5
   obtain ⟨v6,r6,rfl,e6,h7⟩:=jh h6
   obtain ⟨v7,r7,rfl,e7,h8⟩:=jh h7
   cases jM h8
   cases jB e1
   cases jB e4
   cases jB e5
   cases kE e7
   obtain ⟨a',rfl,ha'⟩:=zt e2
   obtain ⟨b',rfl,hb'⟩:=zt e3
   exact ⟨v6,e6,t',a',b',rfl,ht,ha',hb'⟩
  obtain ⟨vb,hvb,a,at',au,rfl,ha,hta,hua⟩:=hxb
  refine ⟨_,rfl,a,_,_,_,rfl,rfl,SqT.of ha,rfl,rfl,_,rfl,qH ?_⟩
  refine ⟨_,rfl,a,_,_,_,rfl,rfl,SqT.of ha,rfl,rfl,_,rfl,qH ?_⟩
  refine ⟨_,rfl,a,_,_,_,rfl,rfl,SqT.of ha,rfl,rfl,_,rfl,qH ?_⟩
  refine ⟨_,rfl,a,_,_,_,rfl,rfl,SqT.of ha,rfl,rfl,_,rfl,qH ?_⟩
  refine ⟨_,rfl,_,rfl,a,_,_,_,rfl,rfl,SqT.of ha,rfl,at',_,_,_,rfl,rfl,SqT.of hta,rfl,t,m,kvs,N,rfl,hm,o,_,rfl,a,_,_,_,rfl,rfl,SqT.of ha,rfl,at',_,_,_,rfl,rfl,SqT.of hta,rfl,sm rfl,fun z1 hz1=>?_⟩
  have s1:=jf hz1 (.tup [V.str (N t),.int td])
  have e1:upd H z1 (.tup [V.str (N t),.int td]) z1=some (.tup [V.str (N t),.int td]):=jb
  generalize upd H z1 (.tup [V.str (N t),.int td])=H1 at *
  refine gQ ?_
  refine ⟨_,rfl,_,rfl,a,_,_,_,rfl,rfl,SqT.of (s1 _ _ ha),rfl,au,_,_,_,rfl,rfl,SqT.of (s1 _ _ hua),rfl,u,m,kvs,N,rfl,s1 _ _ hm,o,_,rfl,a,_,_,_,rfl,rfl,SqT.of (s1 _ _ ha),rfl,au,_,_,_,rfl,rfl,SqT.of (s1 _ _ hua),rfl,sm rfl,fun z2 hz2=>?_⟩
  have s2:=jf hz2 (.tup [V.str (N u),.int ud])
  have e2:upd H1 z2 (.tup [V.str (N u),.int ud]) z2=some (.tup [V.str (N u),.int ud]):=jb
  generalize upd H1 z2 (.tup [V.str (N u),.int ud])=H2 at *
  have s12:=s1.trans s2
  refine gQ ?_
  refine ⟨_,rfl,a,_,_,_,rfl,rfl,SqT.of (s12 _ _ ha),rfl,rfl,_,rfl,qH ?_⟩
  refine ⟨_,rfl,_,rfl,_,rfl,_,rfl,a,_,_,_,rfl,rfl,SqT.of (s12 _ _ ha),rfl,r,m,kvs,N,rfl,s12 _ _ hm,o,?_⟩
  refine ⟨_,rfl,a,_,_,_,rfl,rfl,SqT.of (s12 _ _ ha),rfl,_,rfl,a,_,_,_,rfl,rfl,SqT.of (s12 _ _ ha),rfl,_,rfl,vb,.bd b,m,kvs,N,rfl,hvb.mono s12,s12 _ _ hm,o,fun y3 H3 s3 g3=>?_⟩
  have s13:=s12.trans s3
  refine ⟨_,rfl,a,_,_,_,rfl,rfl,SqT.of (s13 _ _ ha),rfl,sm rfl,fun z hz=>?_⟩
  have s4:=jf hz (.tup [V.str "each",.ref z1,.ref z2,.str (N r),.str way,y3,.int c])
  have s34:=s3.trans s4
  exact q _ _ (s13.trans s4) (jp jb (jc jk (jc (jp ((s2.trans s34) _ _ e1) (jc jk (jc jU jl))) (jc (jp (s34 _ _ e2) (jc jk (jc jU jl))) (jc jk (jc jk (jc (g3.mono s4) (jc jU jl))))))))
end
abbrev JQ:Stmt:=top 44
abbrev Ym:Stmt:=top 45
theorem JZ {H:Hp} {p:Pc} {v:V} (h:Held H p.hdD v):∃ a ap ar an ag vn vg,v=.ref a∧H a=some (.tup [.str "proc",.str p.f,.ref ap,.ref ar,.ref an,.ref ag])∧H ap=some (.tup (p.ps.map V.str))∧H ar=some (.tup (p.rs.map V.str))∧H an=some (.tup vn)∧HeldL H (p.nd.map Cl.toD) vn∧H ag=some (.tup vg)∧HeldL H (p.gv.map Cl.toD) vg:=by
 obtain ⟨a,xs,rfl,ha,h1⟩:=jC h
 obtain ⟨v1,r1,rfl,e1,h2⟩:=jh h1
 obtain ⟨v2,r2,rfl,e2,h3⟩:=jh h2
 obtain ⟨v3,r3,rfl,e3,h4⟩:=jh h3
 obtain ⟨v4,r4,rfl,e4,h5⟩:=jh h4
 obtain ⟨v5,r5,rfl,e5,h6⟩:=jh h5
 obtain ⟨v6,r6,rfl,e6,h7⟩:=jh h6
 cases jM h7
 cases jB e1
 cases jB e2
 obtain ⟨ap,xp,rfl,hp,hp'⟩:=jC e3
 obtain ⟨ar,xr,rfl,hr,hr'⟩:=jC e4
 obtain ⟨an,vn,rfl,hn,hn'⟩:=jC e5
 obtain ⟨ag,vg,rfl,hg,hg'⟩:=jC e6
 cases kh hp'
 cases kh hr'
 exact ⟨a,ap,ar,an,ag,vn,vg,rfl,ha,hp,hr,hn,hn',hg,hg'⟩
structure LwAt (H:Hp) (hd nm fr rw:Addr) (p0 p1:Pc) (nums free rows:List Str):Prop where
 hd:∃ v0 v1,H hd=some (.lst [v0,v1])∧Held H p0.hdD v0∧Held H p1.hdD v1
 nm:H nm=some (.lst (nums.map V.str))
 fr:H fr=some (.lst (free.map V.str))
 rw:H rw=some (.lst (rows.map V.str))
theorem LwAt.mono {H H':Hp} {hd nm fr rw:Addr} {p0 p1:Pc} {nums free rows:List Str} (h:LwAt H hd nm fr rw p0 p1 nums free rows) (s:Same H H'):LwAt H' hd nm fr rw p0 p1 nums free rows:=by
 obtain ⟨v0,v1,e,h0,h1⟩:=h.hd
 exact ⟨⟨v0,v1,s _ _ e,h0.mono s,h1.mono s⟩,s _ _ h.nm,s _ _ h.fr,s _ _ h.rw⟩
structure LwOk (p0 p1:Pc) (nums free rows:List Str):Prop where
 ln:nums.length=3
 lf:free.length=2
 lr:rows.length=3
 l0:p0.ps.length≤6∧p0.rs.length≤3
 l1:p1.ps.length≤6∧p1.rs.length≤3
structure CallIn (p0 p1:Pc) (nums free rows:List Str) (x:Str) (p:Pc) (as rs:List Str):Prop where
 ep:p=p0∨p=p1
 ix:x∈free
 la:as.length=p.ps.length
 ia:∀ y∈as,y∈nums
 lr:rs.length=p.rs.length
 ir:∀ r∈rs,r∈rows
def jaD:Sp:=fun vs H Q _=>∃ (c:Int) (hd nm fr rw:Addr) (p0 p1:Pc) (nums free rows:List Str),vs=[.int c,.ref hd,.ref nm,.ref fr,.ref rw]∧LwAt H hd nm fr rw p0 p1 nums free rows∧LwOk p0 p1 nums free rows∧∀ u x p as rs H',CallIn p0 p1 nums free rows x p as rs→Same H H'→Held H' (Sm.call x p.f as rs).toD u→Q u H'
theorem jbj {rows:List Str} (h:rows.length=3) (c:Int) (n:Nat) (hn:n≤3):∃ rs:List Str,ki (ki (rows.map V.str) (some (c / 5 % 3)) none++ki (rows.map V.str) none (some (c / 5 % 3))) none (some (n:Int))=rs.map V.str∧rs.length=n∧∀ r∈rs,r∈rows:=by
 obtain ⟨x,y,z,rfl⟩:∃ x y z,rows=[x,y,z]:=by
  match rows,h with
  | [x,y,z],_=>exact ⟨x,y,z,rfl⟩
 have h0:=Int.emod_nonneg (c / 5) (b:=3) (by decide)
 have h1:=Int.emod_lt_of_pos (c / 5) (b:=3) (by decide)
 have h3:c / 5 % 3=0∨c / 5 % 3=1∨c / 5 % 3=2:=by omega
 have hn':n=0∨n=1∨n=2∨n=3:=by omega
 rcases h3 with e | e | e <;> rw [e] <;> rcases hn' with rfl | rfl | rfl | rfl
 ·exact ⟨[],rfl,rfl,by simp⟩
 ·exact ⟨[x],rfl,rfl,by simp⟩
 ·exact ⟨[x,y],rfl,rfl,by simp⟩
 ·exact ⟨[x,y,z],rfl,rfl,by simp⟩
 ·exact ⟨[],rfl,rfl,by simp⟩
 ·exact ⟨[y],rfl,rfl,by simp⟩
 ·exact ⟨[y,z],rfl,rfl,by simp⟩
 ·exact ⟨[y,z,x],rfl,rfl,by simp⟩
 ·exact ⟨[],rfl,rfl,by simp⟩
 ·exact ⟨[z],rfl,rfl,by simp⟩
 ·exact ⟨[z,x],rfl,rfl,by simp⟩
 ·exact ⟨[z,x,y],rfl,rfl,by simp⟩
theorem Jv {xs:List Str} {n:Nat} (hl:xs.length=n) (hn:0 < n) (c:Int):∃ x,x∈xs∧atI (xs.map V.str) (c % (n:Int))=some (.str x):=by
 have h0:=Int.emod_nonneg c (b:=(n:Int)) (by omega)
 have h1:=Int.emod_lt_of_pos c (b:=(n:Int)) (by omega)
 have:=je2 (xs:=xs) h0 (by omega)
 refine ⟨_,?_,this⟩
 rw [List.getD_eq_getElem?_getD,List.getElem?_eq_getElem (by omega)]
 exact List.getElem_mem _
inductive SmIn (p0 p1:Pc) (nums free rows:List Str):Sm→Prop
 | call {x p as rs} (h:CallIn p0 p1 nums free rows x p as rs):SmIn p0 p1 nums free rows (.call x p.f as rs)
 | claim {C} (h:C.In nums rows):SmIn p0 p1 nums free rows (.claim C)
 | set {x t c} (hx:x∈free) (h:t.In nums rows):SmIn p0 p1 nums free rows (.set x t c)
 | put {r x d c} (hr:r∈rows) (hx:InE nums x):SmIn p0 p1 nums free rows (.put r x d (.is "") c)
def jaE (K:W.Frag):Sp:=fun vs H Q _=>∃ (a hd nm fr rw:Addr) (ns:List Int) (p0 p1:Pc) (nums free rows:List Str),vs=[.ref a,.ref hd,.ref nm,.ref fr,.ref rw]∧(∀ H',Same H H'→SqL K H' a (ns.map V.int))∧LwAt H hd nm fr rw p0 p1 nums free rows∧LwOk p0 p1 nums free rows∧∀ u (bd:List Sm) H',bd.length≤12→(∀ S∈bd,SmIn p0 p1 nums free rows S)→Same H H'→Held H' (.tup (bd.map Sm.toD)) u→Q u H'
section
variable {P:Program} {w:World} {K:W.Frag} {mg:Str→Option Value} {base:Heap}
theorem jdm {f:Addr} {fd:FuncData} (F:Fun K "_law_call" "_law_call" JQ f fd) (B:Free0 mg):FnOk P w K mg base CX0 1 f fd ["_law_cell_here","_law_heads","_law_nums","_law_free","_law_rows"] jaD:=by
 have sc:FnScope ["_law_cell_here","_law_heads","_law_nums","_law_free","_law_rows","_law_head_here","_law_args","_law_turn","_law_given"] ["_law_cell_here","_law_heads","_law_nums","_law_free","_law_rows"] (js JQ):=fQ
 refine F.okZ sc (fun vs H Q E h=>?_) (fun cdv A outer s H vs Q E hr h=>?_)
 ·obtain ⟨c,hd,nm,fr,rw,p0,p1,nums,free,rows,rfl,_⟩:=h
  rfl
 obtain ⟨c,hd,nm,fr,rw',p0,p1,nums,free,rows,rfl,L,O,q⟩:=h
 refine ⟨_,(jg (jx (i:=5) sc.nd rfl oQ (jj jX (zpv 1) (jm jS (zpv 0) (kj jF (by rfl) B.len_ kH (ja (zpv 1) jd))) (fun _ _=>rfl)))
   (jg (zH (i:=6) sc.nd rfl oQ ["_law_k"] [0,2] rfl (kQ (sc:=js JQ) (N:=["_law_cell_here","_law_heads","_law_nums","_law_free","_law_rows","_law_head_here","_law_args","_law_turn","_law_given"]) rfl rfl (by decide +kernel)) (qQ (by rfl) B.range_ (ja (kj jF (by rfl) B.len_ kH (ja (jj jq (zpv 5) je (fun _ _=>rfl)) jd)) jd)) (fun s H ex=>⟨(jt (i:=0) (show List.Nodup (["_law_k","_law_cell_here","_law_nums"]:List Str) by decide +kernel) rfl oQ),qk,(jj (jdz (K:=K)) (zpv 2) (jm jS (jm jN (zpv 1) (jm kd je (jm q8 je (zpv 0)))) (kj (Kp (K:=K)) (by rfl) B.len_ kH (ja (zpv 2) jd))) (fun _ _=>rfl))⟩))
   (jg (jx (i:=7) sc.nd rfl oQ (jm jS (jm jN (zpv 0) je) je))
   (jg (jx (i:=8) sc.nd rfl oQ (jV zj (jm kD (jV zj (zpv 4) (jO (zpv 7)) kq) (jV zj (zpv 4) kq (jO (zpv 7)))) kq (jO (kj jF (by rfl) B.len_ kH (ja (jj jq (zpv 5) je (fun _ _=>rfl)) jd)))))
   (ji (jw (jy (ja jo (ja (jj jX (zpv 3) (jm jS (jm jN (zpv 0) je) (kj jF (by rfl) B.len_ kH (ja (zpv 3) jd))) (fun _ _=>rfl)) (ja (jj jq (zpv 5) je (fun _ _=>rfl)) (ja (kJ ke (by rfl) B.tuple_ qw (ja (zpv 6) jd)) (ja (kJ ke (by rfl) B.tuple_ qw (ja (zpv 8) jd)) jd)))))))))))),?_⟩
 refine jR (σ':=[some (.int c),some (.ref hd),some (.ref nm),some (.ref fr),some (.ref rw'),none,none,none,none]) rfl ?_
 obtain ⟨v0,v1,hhd,hv0,hv1⟩:=L.hd
 obtain ⟨p,hp,v,hvp,hat⟩:∃ p,(p=p0∨p=p1)∧∃ v,Held H p.hdD v∧atI [v0,v1] (c % 2)=some v:=by
  have h0:=Int.emod_nonneg c (b:=2) (by decide)
  have h1:=Int.emod_lt_of_pos c (b:=2) (by decide)
  have:c % 2=0∨c % 2=1:=by omega
  rcases this with e | e <;> rw [e]
  ·exact ⟨p0,.inl rfl,v0,hv0,rfl⟩
  ·exact ⟨p1,.inr rfl,v1,hv1,rfl⟩
 have hpl:p.ps.length≤6∧p.rs.length≤3:=by
  rcases hp with rfl | rfl
  ·exact O.l0
  ·exact O.l1
 obtain ⟨a,ap,ar,an,ag,vn,vg,rfl,ha,hap,har,han,hn,hag,hg⟩:=JZ hvp
 refine ⟨_,rfl,_,rfl,_,rfl,hd,_,rfl,.inl (SqL.of hhd),_,_,rfl,rfl,(by show (0:Int) < 2;decide),hd,_,_,_,rfl,rfl,SqL.of hhd,hat,?_⟩
 refine gQ ?_
 refine ⟨_,rfl,a,_,_,_,rfl,rfl,SqT.of ha,rfl,ap,_,rfl,.inr (SqT.of hap),_,rfl,by omega,by rw [List.length_map];omega,fun pl hpl'=>?_⟩
 have hlp6:=hpl.1
 have ln3:=O.ln
 refine Z9 (n:=(p.ps.map V.str).length) (fun i σ' G=>∃ (u:Option V) (as:List Str),σ'=[u,some (.int c),some (.ref nm)]∧Same H G∧G pl=some (.lst (as.map V.str))∧as.length=i∧∀ y∈as,y∈nums) ⟨none,[],rfl,jf hpl' _,jb,rfl,fun _ z=>by cases z⟩ ?_ ?_
 ·rintro i σ' G hi ⟨u,as,rfl,sG,hG,las,ia⟩
  rw [List.length_map] at hi
  unfold kX JD
  refine zy ?_
  obtain ⟨y,hy,hat'⟩:=Jv O.ln (by decide) (c / (2+3 * (0+(i:Int))))
  refine ⟨_,rfl,_,rfl,_,rfl,_,_,rfl,rfl,.inl ⟨by decide,by decide⟩,_,_,rfl,rfl,_,_,rfl,rfl,⟨by omega,Int.lt_of_lt_of_le (show 2+3 * (0+(i:Int)) < 100 by omega) (by decide)⟩,_,rfl,nm,_,rfl,.inl (SqL.of (sG _ _ L.nm)),_,_,rfl,rfl,(by rw [List.length_map,ln3];show (0:Int) < 3;decide),nm,_,_,_,rfl,rfl,SqL.of (sG _ _ L.nm),(by rw [List.length_map,ln3];exact hat'),?_⟩
  refine ⟨_,hG,jv (by rw [List.length_map];omega),_,as++[y],rfl,fun z o e=>?_,?_,by rw [List.length_append,las];rfl,fun z hz=>?_⟩
  ·rw [jr (jn e hpl')];exact sG _ _ e
  ·rw [jb,List.map_append];rfl
  ·rcases List.mem_append.mp hz with hz | hz
   ·exact ia z hz
   ·rw [List.mem_singleton.mp hz];exact hy
 rintro σ' G ⟨u,as,rfl,sG,hG,las,ia⟩
 rw [List.length_map] at las
 refine gQ ?_
 refine ⟨_,rfl,_,_,rfl,rfl,⟨by decide,by decide⟩,_,_,rfl,rfl,(by show (0:Int) < 3;decide),?_⟩
 refine gQ ?_
 have LG:=L.mono sG
 refine ⟨_,rfl,_,rfl,_,rfl,rw',_,rfl,SqL.of LG.rw,fun l1 hl1=>?_⟩
 have x1:=jf hl1 (.lst (ki (rows.map V.str) (some (c / 5 % 3)) none))
 have y1:upd G l1 (.lst (ki (rows.map V.str) (some (c / 5 % 3)) none)) l1=some (.lst (ki (rows.map V.str) (some (c / 5 % 3)) none)):=jb
 generalize upd G l1 (.lst (ki (rows.map V.str) (some (c / 5 % 3)) none))=G1 at *
 refine ⟨_,rfl,_,rfl,_,rfl,rw',_,rfl,SqL.of (x1 _ _ LG.rw),fun l2 hl2=>?_⟩
 have x2:=jf hl2 (.lst (ki (rows.map V.str) none (some (c / 5 % 3))))
 have y2:upd G1 l2 (.lst (ki (rows.map V.str) none (some (c / 5 % 3)))) l2=some (.lst (ki (rows.map V.str) none (some (c / 5 % 3)))):=jb
 generalize upd G1 l2 (.lst (ki (rows.map V.str) none (some (c / 5 % 3))))=G2 at *
 have lr3:=O.lr
 have lc1:=q0 (rows.map V.str) (some (c / 5 % 3)) none
 have lc2:=q0 (rows.map V.str) none (some (c / 5 % 3))
 rw [List.length_map] at lc1 lc2
 refine ⟨l1,l2,_,_,rfl,rfl,x2 _ _ y1,y2,Nat.le_trans (by omega) (ka (Nat.le_refl 1000)),fun l3 hl3=>?_⟩
 obtain ⟨rs,ers,lrs,irs⟩:=jbj O.lr c p.rs.length hpl.2
 generalize ki (rows.map V.str) (some (c / 5 % 3)) none++ki (rows.map V.str) none (some (c / 5 % 3))=tr at *
 have x3:=jf hl3 (.lst tr)
 have y3:upd G2 l3 (.lst tr) l3=some (.lst tr):=jb
 generalize upd G2 l3 (.lst tr)=G3 at *
 have x13:=x1.trans (x2.trans x3)
 have sG3:=sG.trans x13
 refine ⟨_,rfl,a,_,_,_,rfl,rfl,SqT.of (sG3 _ _ ha),rfl,ar,_,rfl,.inr (SqT.of (sG3 _ _ har)),_,rfl,l3,_,rfl,SqL.of y3,fun l4 hl4=>?_⟩
 rw [List.length_map,ers]
 have x4:=jf hl4 (.lst (rs.map V.str))
 have y4:upd G3 l4 (.lst (rs.map V.str)) l4=some (.lst (rs.map V.str)):=jb
 generalize upd G3 l4 (.lst (rs.map V.str))=G4 at *
 have sG4:=sG3.trans x4
 refine gQ ?_
 obtain ⟨x,hx,hatx⟩:=Jv O.lf (by decide) (c / 7)
 have lf2:=O.lf
 refine ⟨_,rfl,_,rfl,_,_,rfl,rfl,⟨by decide,by decide⟩,_,rfl,fr,_,rfl,.inl (SqL.of (sG4 _ _ L.fr)),_,_,rfl,rfl,(by rw [List.length_map,lf2];show (0:Int) < 2;decide),fr,_,_,_,rfl,rfl,SqL.of (sG4 _ _ L.fr),(by rw [List.length_map,lf2];exact hatx),?_⟩
 refine ⟨_,rfl,a,_,_,_,rfl,rfl,SqT.of (sG4 _ _ ha),rfl,_,rfl,pl,_,rfl,.inl ⟨SqL.of ((x13.trans x4) _ _ hG),fun r1 hr1=>?_⟩⟩
 have x5:=jf hr1 (.tup (as.map V.str))
 have y5:upd G4 r1 (.tup (as.map V.str)) r1=some (.tup (as.map V.str)):=jb
 generalize upd G4 r1 (.tup (as.map V.str))=G5 at *
 refine ⟨_,rfl,l4,_,rfl,.inl ⟨SqL.of (x5 _ _ y4),fun r2 hr2=>?_⟩⟩
 have x6:=jf hr2 (.tup (rs.map V.str))
 have y6:upd G5 r2 (.tup (rs.map V.str)) r2=some (.tup (rs.map V.str)):=jb
 generalize upd G5 r2 (.tup (rs.map V.str))=G6 at *
 refine ⟨sm rfl,fun r3 hr3=>?_⟩
 have x7:=jf hr3 (.tup [V.str "call",.str x,.str p.f,.ref r1,.ref r2])
 refine q (.ref r3) x p as rs _ ⟨hp,hx,las,ia,lrs,irs⟩ (sG4.trans (x5.trans (x6.trans x7))) ?_
 exact jp jb (jc jk (jc jk (jc jk (jc (jp ((x6.trans x7) _ _ y5) (kF _)) (jc (jp (x7 _ _ y6) (kF _)) jl)))))
theorem jdn {f:Addr} {fd:FuncData} (F:Fun K "_law_body" "_law_body" Ym f fd) (B:Free0 mg) (F_cell:Fn P w K mg base 1 "_law_cell" ["_law_script","_law_k"] (JL K)) (F_far:Fn P w K mg base 1 "_law_far" ["_law_cell_here"] jaC) (F_place:Fn P w K mg base 2 "_law_place" ["_law_cell_here","_law_nums"] yD) (F_term:Fn P w K mg base 3 "_law_term" ["_law_cell_here","_law_nums","_law_rows"] Yd) (F_claim:Fn P w K mg base 4 "_law_claim" ["_law_cell_here","_law_nums","_law_rows"] JK) (F_call:Fn P w K mg base 1 "_law_call" ["_law_cell_here","_law_heads","_law_nums","_law_free","_law_rows"] jaD):FnOk P w K mg base CX0 5 f fd ["_law_script","_law_heads","_law_nums","_law_free","_law_rows"] (jaE K):=by
 have sc:FnScope ["_law_script","_law_heads","_law_nums","_law_free","_law_rows","_law_body_here","_law_k","_law_cell_here","_law_other"] ["_law_script","_law_heads","_law_nums","_law_free","_law_rows"] (js Ym):=fQ
 refine F.okZ sc (fun vs H Q E h=>?_) (fun cdv A outer s H vs Q E hr h=>?_)
 ·obtain ⟨a,hd,nm,fr,rw,ns,p0,p1,nums,free,rows,rfl,_⟩:=h
  rfl
 obtain ⟨a,hd,nm,fr,rw',ns,p0,p1,nums,free,rows,rfl,hS,L,O,q⟩:=h
 refine ⟨_,(jg (jx (i:=5) sc.nd rfl oQ (jI jd))
   (jg (jZ PassesOwn.never rfl (qQ (by rfl) B.range_ (ja (jm kd je (jm jS (ju F_cell hr (ja (zpv 0) (ja je jd))) je)) jd)) (jt (i:=6) sc.nd rfl oQ) (jg (jx (i:=7) sc.nd rfl oQ (ju F_cell hr (ja (zpv 0) (ja (jm kd je (jm q8 je (zpv 6))) jd))))
   (jg (jK (kb PySem.F.plainAttrs_list PySem.F.slot_list_append PySem.F.type_list_append jQ (zpv 5) (ja (ju F_call hr (ja (zpv 7) (ja (zpv 1) (ja (zpv 2) (ja (zpv 3) (ja (zpv 4) jd)))))) jd)))
   (jg (jx (i:=8) sc.nd rfl oQ (ju F_cell hr (ja (zpv 0) (ja (jm kd je (jm q8 je (zpv 6))) jd))))
   (jg (qC (jL (jz jY (jm jS (zpv 8) je) je (jH _)) (ji (jK (kb PySem.F.plainAttrs_list PySem.F.slot_list_append PySem.F.type_list_append jQ (zpv 5) (ja (jy (ja jo (ja (ju F_claim hr (ja (jm jN (zpv 8) je) (ja (zpv 2) (ja (zpv 4) jd)))) jd))) jd)))) jD))
   (jg (qC (jL (jz jY (jm jS (zpv 8) je) je (jH _)) (ji (jK (kb PySem.F.plainAttrs_list PySem.F.slot_list_append PySem.F.type_list_append jQ (zpv 5) (ja (jy (ja jo (ja (jj jX (zpv 3) (jm jS (jm jN (zpv 8) je) (kj jF (by rfl) B.len_ kH (ja (zpv 3) jd))) (fun _ _=>rfl)) (ja (ju F_term hr (ja (jm jN (zpv 8) je) (ja (zpv 2) (ja (zpv 4) jd)))) (ja (ju F_far hr (ja (jm jN (zpv 8) je) jd)) jd))))) jd)))) jD))
   (ji (jL (jz jY (jm jS (zpv 8) je) je (jH _)) (ji (jK (kb PySem.F.plainAttrs_list PySem.F.slot_list_append PySem.F.type_list_append jQ (zpv 5) (ja (jy (ja jo (ja (jj jX (zpv 4) (jm jS (jm jN (zpv 8) je) (kj jF (by rfl) B.len_ kH (ja (zpv 4) jd))) (fun _ _=>rfl)) (ja (ju F_place hr (ja (jm jN (zpv 8) je) (ja (zpv 2) jd))) (ja (jy (ja jo (ja jo jd))) (ja je jd)))))) jd)))) jD))))))))
   (ji (jw (kJ ke (by rfl) B.tuple_ qw (ja (zpv 5) jd)))))),?_⟩
 refine jR (σ':=[some (.ref a),some (.ref hd),some (.ref nm),some (.ref fr),some (.ref rw'),none,none,none,none]) rfl ?_
 have ln3:=O.ln
 have lf2:=O.lf
 have lr3:=O.lr
 refine ⟨sm rfl,fun l hl=>?_⟩
 have s1:=jf hl (.lst [])
 have e1:upd H l (.lst []) l=some (.lst []):=jb
 generalize upd H l (.lst [])=H1 at *
 refine gQ ?_
 refine ⟨_,rfl,a,ns,0,rfl,hS _ s1,by decide,by decide,fun c0=>⟨_,_,rfl,rfl,(by show (0:Int) < 6;decide),_,_,rfl,rfl,?_⟩⟩
 obtain ⟨k0,hk0⟩:∃ k0,k0=1+c0 % 6:=⟨_,rfl⟩
 have k00:0≤k0:=by have:=Int.emod_nonneg c0 (b:=6) (by decide);omega
 have k01:k0≤6:=by
  have:=Int.emod_lt_of_pos c0 (b:=6) (by decide)
  omega
 refine ⟨k0,by rw [hk0],by omega,by omega,?_⟩
 refine yf (n:=k0.toNat) (fun i σ G=>∃ (u6 u7 u8:Option V) (us:List V) (Ss:List Sm),σ=[some (.ref a),some (.ref hd),some (.ref nm),some (.ref fr),some (.ref rw'),some (.ref l),u6,u7,u8]∧Same H G∧G l=some (.lst us)∧HeldL G (Ss.map Sm.toD) us∧Ss.length≤2 * i∧∀ S∈Ss,SmIn p0 p1 nums free rows S) ⟨none,none,none,[],[],rfl,s1,e1,jl,Nat.zero_le _,fun _ z=>by cases z⟩ ?_ ?_
 ·rintro i σ G hi ⟨u6,u7,u8,us,Ss,rfl,sG,hG,hB,lS,iS⟩
  have lus:=hB.length
  rw [List.length_map] at lus
  refine gQ ?_
  refine ⟨_,rfl,_,rfl,_,_,rfl,rfl,.inl ⟨by decide,by decide⟩,_,_,rfl,rfl,a,ns,_,rfl,hS _ sG,by omega,by omega,fun c1=>?_⟩
  refine gQ ?_
  refine ⟨_,rfl,.inl ⟨rfl,_,SqL.of hG⟩,_,rfl,_,rfl,_,rfl,_,rfl,_,rfl,c1,hd,nm,fr,rw',p0,p1,nums,free,rows,rfl,L.mono sG,O,fun u x p as rs G1 hci z1 hu=>?_⟩
  have hG1:=z1 _ _ hG
  have tk1:TK G1 (upd G1 l (.lst (us++[u]))):=TK.upd hG1 (fun _ z=>by cases z)
  have k1:∀ b o,b≠l→G1 b=some o→upd G1 l (.lst (us++[u])) b=some o:=fun b o hb e=>by rw [jr hb];exact e
  have e2:upd G1 l (.lst (us++[u])) l=some (.lst (us++[u])):=jb
  have hB2:HeldL (upd G1 l (.lst (us++[u]))) ((Ss++[Sm.call x p.f as rs]).map Sm.toD) (us++[u]):=by
   rw [List.map_append];exact jE (tk1.heldL (hB.mono z1)) (jW (tk1.held hu))
  have sG2:Same H (upd G1 l (.lst (us++[u]))):=fun b o e=>k1 b o (jn e hl) (z1 _ _ (sG _ _ e))
  have iS2:∀ S∈Ss++[Sm.call x p.f as rs],SmIn p0 p1 nums free rows S:=fun S hS'=>by
   rcases List.mem_append.mp hS' with h | h
   ·exact iS S h
   ·rw [List.mem_singleton.mp h];exact .call hci
  have lS2:(Ss++[Sm.call x p.f as rs]).length≤2 * i+1:=by rw [List.length_append];show Ss.length+1≤_;omega
  refine ⟨l,_,_,rfl,rfl,hG1,jv (by omega),?_⟩
  generalize upd G1 l (.lst (us++[u]))=G2 at *
  generalize us++[u]=us2 at *
  generalize Ss++[Sm.call x p.f as rs]=Ss2 at *
  have L2':=L.mono sG2
  have lus2:=hB2.length
  rw [List.length_map] at lus2
  refine ⟨_,rfl,_,rfl,_,_,rfl,rfl,.inl ⟨by decide,by decide⟩,_,_,rfl,rfl,a,ns,_,rfl,hS _ sG2,by omega,by omega,fun c2=>?_⟩
  refine gQ ?_
  refine ⟨(fun σ' G'=>∃ (us:List V) (Ss:List Sm),σ'=[some (.ref a),some (.ref hd),some (.ref nm),some (.ref fr),some (.ref rw'),some (.ref l),some (.int (0+(i:Int))),some (.int c1),some (.int c2)]∧Same H G'∧G' l=some (.lst us)∧HeldL G' (Ss.map Sm.toD) us∧(Ss.length≤2 * i+1∨(c2 % 4=0∧Ss.length≤2 * i+2))∧∀ S∈Ss,SmIn p0 p1 nums free rows S),?_,?_⟩
  ·refine ⟨_,rfl,_,_,rfl,rfl,(by show (0:Int) < 4;decide),rfl,_,rfl,j3 (fun d=>?_) (fun d=>⟨us2,Ss2,rfl,sG2,e2,hB2,.inl lS2,iS2⟩)⟩
   have d':c2 % 4=0:=by have:=of_decide_eq_true d;injection this
   have hG4:=e2;have hB4:=hB2;have sG4:=sG2;have iS4:=iS2
   generalize us2=us4 at *
   generalize Ss2=Ss4 at *
   refine ⟨_,rfl,.inl ⟨rfl,_,SqL.of hG4⟩,_,rfl,_,_,rfl,rfl,⟨by decide,by decide⟩,_,rfl,_,rfl,_,nm,rw',nums,rows,rfl,L2'.nm,L2'.rw,by omega,fun uC C G5 hC z5 huC=>?_⟩
   refine ⟨sm rfl,fun t6 ht6=>?_⟩
   have z6:=jf ht6 (.tup [V.str "claim",uC])
   have y6:upd G5 t6 (.tup [V.str "claim",uC]) t6=some (.tup [V.str "claim",uC]):=jb
   generalize upd G5 t6 (.tup [V.str "claim",uC])=G6 at *
   have z56:=z5.trans z6
   have hG5:=z56 _ _ hG4
   have tk1:TK G6 (upd G6 l (.lst (us4++[.ref t6]))):=TK.upd hG5 (fun _ z=>by cases z)
   have lus4:=hB4.length
   rw [List.length_map] at lus4
   refine ⟨l,_,_,rfl,rfl,hG5,jv (by omega),us4++[.ref t6],Ss4++[Sm.claim C],rfl,fun b o e=>?_,jb,?_,.inr ⟨d',by rw [List.length_append];show Ss4.length+1≤_;omega⟩,fun S hS'=>?_⟩
   ·rw [jr (jn e hl)];exact z56 _ _ (sG4 _ _ e)
   ·rw [List.map_append];exact jE (tk1.heldL (hB4.mono z56)) (jW (tk1.held (jp y6 (jc jk (jc (huC.mono z6) jl)))))
   ·rcases List.mem_append.mp hS' with h | h
    ·exact iS4 S h
    ·rw [List.mem_singleton.mp h];exact .claim hC
  clear e2 hB2 sG2 iS2 lS2 L2' lus2
  rintro σ' G4 ⟨us4,Ss4,rfl,sG4,hG4,hB4,lS4,iS4⟩
  have L4:=L.mono sG4
  refine ⟨(fun σ' G'=>∃ (us:List V) (Ss:List Sm),σ'=[some (.ref a),some (.ref hd),some (.ref nm),some (.ref fr),some (.ref rw'),some (.ref l),some (.int (0+(i:Int))),some (.int c1),some (.int c2)]∧Same H G'∧G' l=some (.lst us)∧HeldL G' (Ss.map Sm.toD) us∧(Ss.length≤2 * i+1∨((c2 % 4=0∨c2 % 4=1)∧Ss.length≤2 * i+2))∧∀ S∈Ss,SmIn p0 p1 nums free rows S),?_,?_⟩
  ·refine ⟨_,rfl,_,_,rfl,rfl,(by show (0:Int) < 4;decide),rfl,_,rfl,j3 (fun d=>?_) (fun d=>⟨us4,Ss4,rfl,sG4,hG4,hB4,lS4.imp id (fun h=>⟨.inl h.1,h.2⟩),iS4⟩)⟩
   have d':c2 % 4=1:=by have:=of_decide_eq_true d;injection this
   have lS5:Ss4.length≤2 * i+1:=by
    rcases lS4 with h | h
    ·exact h
    ·omega
   obtain ⟨x',hx',hatx⟩:=Jv O.lf (by decide) (c2 / 4)
   refine ⟨_,rfl,.inl ⟨rfl,_,SqL.of hG4⟩,_,rfl,_,rfl,_,_,rfl,rfl,⟨by decide,by decide⟩,_,rfl,fr,_,rfl,.inl (SqL.of L4.fr),_,_,rfl,rfl,(by rw [List.length_map,lf2];show (0:Int) < 2;decide),fr,_,_,_,rfl,rfl,SqL.of L4.fr,(by rw [List.length_map,lf2];exact hatx),?_⟩
   refine ⟨_,rfl,_,_,rfl,rfl,⟨by decide,by decide⟩,_,rfl,_,rfl,_,nm,rw',nums,rows,rfl,L4.nm,L4.rw,by omega,fun uT t G5 hT z5 huT=>?_⟩
   refine ⟨_,rfl,_,_,rfl,rfl,⟨by decide,by decide⟩,_,rfl,fun d5=>⟨sm rfl,fun t6 ht6=>?_⟩⟩
   have z6:=jf ht6 (.tup [V.str "set",.str x',uT,.int d5])
   have y6:upd G5 t6 (.tup [V.str "set",.str x',uT,.int d5]) t6=some (.tup [V.str "set",.str x',uT,.int d5]):=jb
   generalize upd G5 t6 (.tup [V.str "set",.str x',uT,.int d5])=G6 at *
   have z56:=z5.trans z6
   have hG5:=z56 _ _ hG4
   have tk1:TK G6 (upd G6 l (.lst (us4++[.ref t6]))):=TK.upd hG5 (fun _ z=>by cases z)
   have lus4:=hB4.length
   rw [List.length_map] at lus4
   refine ⟨l,_,_,rfl,rfl,hG5,jv (by omega),us4++[.ref t6],Ss4++[Sm.set x' t d5],rfl,fun b o e=>?_,jb,?_,.inr ⟨.inr d',by rw [List.length_append];show Ss4.length+1≤_;omega⟩,fun S hS'=>?_⟩
   ·rw [jr (jn e hl)];exact z56 _ _ (sG4 _ _ e)
   ·rw [List.map_append];exact jE (tk1.heldL (hB4.mono z56)) (jW (tk1.held (jp y6 (jc jk (jc jk (jc (huT.mono z6) (jc jU jl)))))))
   ·rcases List.mem_append.mp hS' with h | h
    ·exact iS4 S h
    ·rw [List.mem_singleton.mp h];exact .set hx' hT
  clear hG4 hB4 sG4 iS4 lS4 L4
  rintro σ' G4 ⟨us4,Ss4,rfl,sG4,hG4,hB4,lS4,iS4⟩
  have L4:=L.mono sG4
  refine ⟨_,rfl,_,_,rfl,rfl,(by show (0:Int) < 4;decide),rfl,_,rfl,j3 (fun d=>?_) (fun d=>⟨_,_,_,us4,Ss4,rfl,sG4,hG4,hB4,by rcases lS4 with h | h <;> omega,iS4⟩)⟩
  ·have d':c2 % 4=2:=by have:=of_decide_eq_true d;injection this
   have lS5:Ss4.length≤2 * i+1:=by
    rcases lS4 with h | h
    ·exact h
    ·omega
   obtain ⟨r',hr',hatx⟩:=Jv O.lr (by decide) (c2 / 4)
   refine ⟨_,rfl,.inl ⟨rfl,_,SqL.of hG4⟩,_,rfl,_,rfl,_,_,rfl,rfl,⟨by decide,by decide⟩,_,rfl,rw',_,rfl,.inl (SqL.of L4.rw),_,_,rfl,rfl,(by rw [List.length_map,lr3];show (0:Int) < 3;decide),rw',_,_,_,rfl,rfl,SqL.of L4.rw,(by rw [List.length_map,lr3];exact hatx),?_⟩
   refine ⟨_,rfl,_,_,rfl,rfl,⟨by decide,by decide⟩,_,rfl,_,nm,nums,rfl,L4.nm,by omega,fun uP xP dP G5 hP z5 huP=>?_⟩
   refine ⟨sm rfl,fun t7 ht7=>?_⟩
   have z7:=jf ht7 (.tup [V.str "is",.str ""])
   have y7:upd G5 t7 (.tup [V.str "is",.str ""]) t7=some (.tup [V.str "is",.str ""]):=jb
   generalize upd G5 t7 (.tup [V.str "is",.str ""])=G7 at *
   refine ⟨sm rfl,fun t6 ht6=>?_⟩
   have z6:=jf ht6 (.tup [V.str "put",.str r',uP,.ref t7,.int 3])
   have y6:upd G7 t6 (.tup [V.str "put",.str r',uP,.ref t7,.int 3]) t6=some (.tup [V.str "put",.str r',uP,.ref t7,.int 3]):=jb
   generalize upd G7 t6 (.tup [V.str "put",.str r',uP,.ref t7,.int 3])=G6 at *
   have z76:=z7.trans z6
   have z56:=z5.trans z76
   have hG5:=z56 _ _ hG4
   have tk1:TK G6 (upd G6 l (.lst (us4++[.ref t6]))):=TK.upd hG5 (fun _ z=>by cases z)
   have lus4:=hB4.length
   rw [List.length_map] at lus4
   refine ⟨l,_,_,rfl,rfl,hG5,jv (by omega),_,_,_,us4++[.ref t6],Ss4++[Sm.put r' xP dP (.is "") 3],rfl,fun b o e=>?_,jb,?_,by rw [List.length_append];show Ss4.length+1≤_;omega,fun S hS'=>?_⟩
   ·rw [jr (jn e hl)];exact z56 _ _ (sG4 _ _ e)
   ·rw [List.map_append];exact jE (tk1.heldL (hB4.mono z56)) (jW (tk1.held (jp y6 (jc jk (jc jk (jc (huP.mono z76) (jc (jp (z6 _ _ y7) (jc jk (jc jk jl))) (jc jU jl))))))))
   ·rcases List.mem_append.mp hS' with h | h
    ·exact iS4 S h
    ·rw [List.mem_singleton.mp h];exact .put hr' hP
 rintro σ G ⟨u6,u7,u8,us,Ss,rfl,sG,hG,hB,lS,iS⟩
 refine ⟨_,rfl,l,_,rfl,.inl ⟨SqL.of hG,fun r1 hr1=>?_⟩⟩
 have x1:=jf hr1 (.tup us)
 exact q (.ref r1) Ss _ (by omega) iS (sG.trans x1) (jp jb (hB.mono x1))
end
structure NmP (kvs:List (Key×V)) (g:Str) (p:Pc) (i:Nat):Prop where
 v:∀ x:Str,kP kvs (Sum.inr x)=if x∈p.ps.take i then some (.str (kI g x)) else if x = "" then some (.str "") else none
 l:kvs.length≤1+i
structure NmR (kvs:List (Key×V)) (g:Str) (p:Pc) (rows:List Str) (j:Nat):Prop where
 v:∀ x:Str,kP kvs (Sum.inr x)=match ((p.rs.take j).zip (rows.take j)).lookup x with
  | some r=>some (.str r)
  | none=>if x∈p.ps then some (.str (kI g x)) else if x = "" then some (.str "") else none
 l:kvs.length≤7+j
theorem NmP.put {kvs:List (Key×V)} {g:Str} {p:Pc} {i:Nat} (h:NmP kvs g p i) (hi:i < p.ps.length):NmP (j7 kvs (Sum.inr p.ps[i]) (.str (kI g p.ps[i]))) g p (i+1):=by
 refine ⟨fun z=>?_,by have:=yH kvs (Sum.inr p.ps[i]) (.str (kI g p.ps[i]));have:=h.l;omega⟩
 have hm:z∈p.ps.take (i+1)↔z∈p.ps.take i∨z=p.ps[i]:=by
  rw [show p.ps.take (i+1)=p.ps.take i++[p.ps[i]] by rw [List.take_succ,List.getElem?_eq_getElem hi];rfl,List.mem_append,List.mem_singleton]
 rw [qm]
 by_cases hz:z=p.ps[i]
 ·rw [if_pos (by rw [hz]),if_pos (hm.mpr (.inr hz)),hz]
 ·rw [if_neg (fun e=>hz (Sum.inr.inj e)),h.v z]
  by_cases hp:z∈p.ps.take i
  ·rw [if_pos hp,if_pos (hm.mpr (.inl hp))]
  ·rw [if_neg hp,if_neg (fun e=>(hm.mp e).elim hp hz)]
theorem NmP.toR {kvs:List (Key×V)} {g:Str} {p:Pc} {i:Nat} (h:NmP kvs g p i) (hi:p.ps.length≤i) (h6:i≤6) (rows:List Str):NmR kvs g p rows 0:=by
 refine ⟨fun x=>?_,by have:=h.l;omega⟩
 rw [h.v,List.take_of_length_le hi]
 rfl
theorem Zi {l:List (Str×Str)} {r y:Str} (x:Str) (hn:l.lookup r=none):(l++[(r,y)]).lookup x=if x=r then some y else l.lookup x:=by
 induction l with
 | nil=>
  rw [List.nil_append,List.lookup_cons]
  by_cases h:x=r
  ·subst h;simp
  ·have:(x == r)=false:=by simpa using h
   rw [this,if_neg h]
 | cons q l ih=>
  rw [List.lookup_cons] at hn
  rw [List.cons_append,List.lookup_cons,List.lookup_cons]
  by_cases hq:r=q.1
  ·have:(r == q.1)=true:=by simpa using hq
   rw [this] at hn
   cases hn
  ·have hq':(r == q.1)=false:=by simpa using hq
   rw [hq'] at hn
   by_cases h:x=q.1
   ·have hx:(x == q.1)=true:=by simpa using h
    rw [hx,if_neg (fun z=>hq (by rw [← z];exact h))]
   ·have hx:(x == q.1)=false:=by simpa using h
    rw [hx]
    exact ih hn
theorem Jk {ks vs:List Str} {x:Str} (h:x ∉ ks):(ks.zip vs).lookup x=none:=by
 induction ks generalizing vs with
 | nil=>simp
 | cons k ks ih=>
  cases vs with
  | nil=>simp
  | cons v vs=>
   rw [List.zip_cons_cons,List.lookup_cons]
   have:(x == k)=false:=by simpa using fun z=>h (by rw [z];exact List.mem_cons_self)
   rw [this]
   exact ih fun z=>h (List.mem_cons_of_mem _ z)
theorem Z5 {ks vs:List Str} {x r:Str} (h:(ks.zip vs).lookup x=some r):x∈ks:=by
 by_cases hx:x∈ks
 ·exact hx
 ·rw [Jk hx] at h;cases h
theorem NmR.put {kvs:List (Key×V)} {g:Str} {p:Pc} {rows:List Str} {j:Nat} (h:NmR kvs g p rows j) (nd:p.rs.Nodup) (hj:j < p.rs.length) (hj2:j < rows.length):NmR (j7 kvs (Sum.inr p.rs[j]) (.str rows[j])) g p rows (j+1):=by
 refine ⟨fun z=>?_,by have:=yH kvs (Sum.inr p.rs[j]) (.str rows[j]);have:=h.l;omega⟩
 have hn:p.rs[j] ∉ p.rs.take j:=by
  intro hm
  obtain ⟨k,hk,e⟩:=List.mem_iff_getElem.mp hm
  rw [List.length_take] at hk
  rw [List.getElem_take] at e
  exact (List.pairwise_iff_getElem.mp nd) k j (by omega) hj (by omega) e
 rw [show p.rs.take (j+1)=p.rs.take j++[p.rs[j]] by rw [List.take_succ,List.getElem?_eq_getElem hj];rfl,show rows.take (j+1)=rows.take j++[rows[j]] by rw [List.take_succ,List.getElem?_eq_getElem hj2];rfl,List.zip_append (by rw [List.length_take,List.length_take];omega),show [p.rs[j]].zip [rows[j]]=[(p.rs[j],rows[j])] from rfl,Zi z (Jk hn),qm]
 by_cases hz:z=p.rs[j]
 ·rw [if_pos (by rw [hz]),if_pos hz]
 ·rw [if_neg (fun e=>hz (Sum.inr.inj e)),if_neg hz,h.v z]
structure NoClash (p:Pc):Prop where
 pe:("" : Str) ∉ p.ps
 re:("" : Str) ∉ p.rs
 ap:∀ x∈p.ps,x ∉ p.rs
theorem NmR.ok {kvs:List (Key×V)} {g:Str} {p:Pc} {rows:List Str} {j:Nat} (h:NmR kvs g p rows j) (hp:p.rs.length≤j) (hr:rows.length≤j) (nc:NoClash p):NmL kvs (qv g p rows):=by
 intro x
 rw [h.v,List.take_of_length_le hp,List.take_of_length_le hr]
 unfold qv
 cases e:(p.rs.zip rows).lookup x with
 | some r=>
  have hm:=Z5 e
  dsimp only
  rw [if_neg (fun z=>nc.re (by rw [← z];exact hm)),if_neg (fun z=>nc.ap x z hm)]
  rfl
 | none=>
  by_cases hx:x∈p.ps
  ·dsimp only
   rw [if_pos hx,if_neg (fun z=>nc.pe (by rw [← z];exact hx)),if_pos hx]
   rfl
  ·dsimp only
   rw [if_neg hx]
   by_cases he:x = ""
   ·rw [if_pos he,if_pos he];rfl
   ·rw [if_neg he,if_neg he,if_neg hx];rfl
theorem NmL.out {kvs:List (Key×V)} {g:Str} {p:Pc} {rows:List Str} (h:NmL kvs (qv g p rows)) (x0:Str):NmL (j7 kvs (Sum.inr "out") (.str x0)) (qV g p rows x0):=by
 intro x
 rw [qm]
 unfold qV
 by_cases hp:x = "out"
 ·rw [if_pos hp,if_pos (by rw [hp])];rfl
 ·rw [if_neg hp,if_neg (fun z=>hp (Sum.inr.inj z))]
  exact h x
theorem jha (g:Str) (p:Pc):NmP [(Sum.inr "",V.str "")] g p 0:=by
 refine ⟨fun x=>?_,Nat.le_refl _⟩
 rw [List.take_zero,if_neg List.not_mem_nil]
 by_cases h:x = ""
 ·rw [if_pos h,h,kr rfl]
 ·rw [if_neg h,ku (fun z=>h (Sum.inr.inj z).symm),jci]
abbrev zL:Stmt:=top 48
abbrev KP (H G:Hp) (wy dl:Addr):Prop:=∀ b o,b≠wy→b≠dl→H b=some o→G b=some o
theorem KP.tk {H G:Hp} {wy dl:Addr} {us ms:List V} (k:KP H G wy dl) (h1:H wy=some (.lst us)) (h2:H dl=some (.lst ms)):TK H G:=fun b ys e=>k b _ (fun z=>by rw [z,h1] at e;cases e) (fun z=>by rw [z,h2] at e;cases e) e
def KA:Sp:=fun vs H Q _=>∃ (hd wy dl:Addr) (sv v0 v1:V) (f:Str) (n:Int) (p0 p1 p:Pc) (x:Str) (as rs:List Str) (us ms:List V) (way:List D) (ds:List Du) (wls:List Addr),vs=[.ref hd,.str f,.int n,sv,.ref wy,.ref dl]∧H hd=some (.lst [v0,v1])∧Held H p0.hdD v0∧Held H p1.hdD v1∧hd≠wy∧hd≠dl∧p0.f≠p1.f∧(p=p0∨p=p1)∧NoClash p∧p.rs.Nodup∧Held H (Sm.call x p.f as rs).toD sv∧as.length=p.ps.length∧rs.length=p.rs.length∧p.ps.length≤6∧p.rs.length≤6∧p.nd.length≤20∧p.gv.length≤20∧p.f.length≤100∧(∀ y∈p.ps,y.length≤100)∧
 H wy=some (.lst us)∧HeldL H way us∧us.length≤800∧H dl=some (.lst ms)∧DutsAt H ds ms wls∧ms.length≤800∧wy≠dl∧wy ∉ wls∧dl ∉ wls∧
 ∀ us' ms' wls' H',KP H H' wy dl→H' wy=some (.lst us')→HeldL H' (way++jJ p.f p.ps as++zJ p.f p rs x) us'→H' dl=some (.lst ms')→DutsAt H' (ds++zF f "need" [n] (way++jJ p.f p.ps as) (p.nd.map (Cl.say (qv p.f p rs)))) ms' wls'→wy ∉ wls'→dl ∉ wls'→Q .non H'
section
variable {P:Program} {w:World} {K:W.Frag} {mg:Str→Option Value} {base:Heap}
theorem ZW {f:Addr} {fd:FuncData} (F:Fun K "_law_through" "_law_through" zL f fd) (B:Free0 mg) (Z_zip:mg "zip" = none) (Z_enumerate:mg "enumerate" = none) (F_said:Fn P w K mg base 3 "_law_said" ["_law_thing","_law_names"] jav):FnOk P w K mg base CX0 4 f fd ["_law_heads","_law_f","_law_n","_law_statement","_law_way","_law_due_here"] KA:=by
 have sc:FnScope ["_law_heads","_law_f","_law_n","_law_statement","_law_way","_law_due_here","_law_head_here","_law_names","_law_y","_law_arg","_law_r","_law_given","_law_k","_law_need","_law_give"] ["_law_heads","_law_f","_law_n","_law_statement","_law_way","_law_due_here"] (js zL):=fQ
 refine F.okZ sc (fun vs H Q E h=>?_) (fun cdv A outer s H vs Q E hr h=>?_)
 ·obtain ⟨hd,wy,dl,sv,v0,v1,f,n,p0,p1,p,x,as,rs,us,ms,way,ds,wls,rfl,_⟩:=h
  rfl
 obtain ⟨hd,wy,dl,sv,v0,v1,f,n,p0,p1,p,x,as,rs,us,ms,way,ds,wls,rfl,hhd,hv0,hv1,nhw,nhd,hne,hp,hnc,hrn,hS,hla,hlr,l6p,l6r,l20n,l20g,hfl,hyl,hwy,hway,hus,hdl,hD,hms,nwd,hww,hdw,q⟩:=h
 have hu:=jaW hr
 refine ⟨_,(jg (jx (i:=6) sc.nd rfl oQ (jj jX (ql ["_law_one"] [3] rfl (kQ (sc:=js zL) (N:=["_law_heads","_law_f","_law_n","_law_statement","_law_way","_law_due_here","_law_head_here","_law_names","_law_y","_law_arg","_law_r","_law_given","_law_k","_law_need","_law_give"]) rfl rfl (by decide +kernel)) (kW (zpv 0)) (fun s H ex=>⟨(jt (i:=0) (show List.Nodup (["_law_one","_law_statement"]:List Str) by decide +kernel) rfl oQ),(yz (jz jY (jj (Js (K:=K)) (zpv 0) je (fun _ _=>rfl)) (jj (Js (K:=K)) (zpv 1) je (fun _ _=>rfl)) (jH _))),(zpv 0)⟩)) je (fun _ _=>rfl)))
   (jg (jx (i:=7) sc.nd rfl oQ (jb5 (jba jo jo jb0) rfl rfl (by simp) (by decide)))
   (jg (jZ PassesOwn.never rfl (K8 (by rfl) Z_zip (ja (jj jq (zpv 6) je (fun _ _=>rfl)) (ja (jj jq (zpv 3) je (fun _ _=>rfl)) jd))) (ko rfl (jA (jt (i:=8) sc.nd rfl oQ) (jA (jt (i:=9) sc.nd rfl oQ) j9))) (jg (zI hu (zpv 7) (zpv 8) (jm qT (jm qT (jj jq (zpv 6) je (fun _ _=>rfl)) jo) (zpv 8)) rfl)
   (ji (jK (kb PySem.F.plainAttrs_list PySem.F.slot_list_append PySem.F.type_list_append jQ (zpv 4) (ja (jy (ja jo (ja (Jy hu (zpv 7) (zpv 8) (fun _ _=>rfl)) (ja (jy (ja jo (ja (zpv 9) jd))) (ja je jd))))) jd))))))
   (jg (jZ PassesOwn.never rfl (K8 (by rfl) Z_zip (ja (jj jq (zpv 6) je (fun _ _=>rfl)) (ja (jj jq (zpv 3) je (fun _ _=>rfl)) jd))) (ko rfl (jA (jt (i:=10) sc.nd rfl oQ) (jA (jt (i:=11) sc.nd rfl oQ) j9))) (ji (zI hu (zpv 7) (zpv 10) (zpv 11) rfl)))
   (jg (jZ PassesOwn.never rfl (za (by rfl) Z_enumerate (ja (jj jq (zpv 6) je (fun _ _=>rfl)) jd)) (ko rfl (jA (jt (i:=12) sc.nd rfl oQ) (jA (jt (i:=13) sc.nd rfl oQ) j9))) (ji (jK (kb PySem.F.plainAttrs_list PySem.F.slot_list_append PySem.F.type_list_append jQ (zpv 5) (ja (jy (ja (zpv 1) (ja jo (ja (jy (ja (zpv 2) jd)) (ja (zpv 12) (ja (kJ kR (by rfl) B.list_ yi (ja (zpv 4) jd)) (ja (ju F_said hr (ja (zpv 13) (ja (zpv 7) jd))) jd))))))) jd)))))
   (jg (jZ PassesOwn.never rfl (kO (jj jq (zpv 3) je (fun _ _=>rfl))) (jt (i:=11) sc.nd rfl oQ) (ji (jK (kb PySem.F.plainAttrs_list PySem.F.slot_list_append PySem.F.type_list_append jQ (zpv 4) (ja (jy (ja jo (ja (zpv 11) jd))) jd)))))
   (jg (jK (kb PySem.F.plainAttrs_list PySem.F.slot_list_append PySem.F.type_list_append jQ (zpv 4) (ja (jy (ja jo (ja (jj jq (zpv 3) je (fun _ _=>rfl)) jd))) jd)))
   (jg (zI hu (zpv 7) jo (jj jq (zpv 3) je (fun _ _=>rfl)) rfl)
   (ji (jZ PassesOwn.never rfl (kO (jj jq (zpv 6) je (fun _ _=>rfl))) (jt (i:=14) sc.nd rfl oQ) (ji (jK (kb PySem.F.plainAttrs_list PySem.F.slot_list_append PySem.F.type_list_append jQ (zpv 4) (ja (jy (ja jo (ja (ju F_said hr (ja (zpv 14) (ja (zpv 7) jd))) jd))) jd)))))))))))))),?_⟩
 refine jR (σ':=[some (.ref hd),some (.str f),some (.int n),some sv,some (.ref wy),some (.ref dl),none,none,none,none,none,none,none,none,none]) rfl ?_
 obtain ⟨a,ba,ca,rfl,ha,hba,hca⟩:=zV hS
 refine ⟨_,rfl,hd,rfl,⟨_,SqL.of hhd⟩,fun l hl=>?_⟩
 let qs:List (Pc×V):=[(p0,v0),(p1,v1)]
 have hq:∀ q∈qs,Held H q.1.hdD q.2:=fun q hq=>by
  rcases List.mem_cons.mp hq with rfl | hq
  ·exact hv0
  ·rw [List.mem_singleton.mp hq];exact hv1
 refine qP (xs:=qs.map (·.2)) (fun i σ' G=>∃ u,σ'=[u,some (.ref a)]∧Same H G∧G l=some (.lst (((qs.take i).filter fun q=>decide (q.1.f=p.f)).map (·.2)))) ⟨none,rfl,jf hl _,jb⟩ ?_ ?_ ?_
 ·rintro i σ' G _ ⟨u,rfl,sG,_⟩
  exact SqL.of (sG _ _ hhd)
 ·rintro i v σ' G hx ⟨u,rfl,sG,hG⟩
  have hi:i < qs.length:=by have:=(List.getElem?_eq_some_iff.mp hx).1;rw [List.length_map] at this;exact this
  rw [List.getElem?_map,List.getElem?_eq_getElem hi] at hx
  cases hx
  have hqi:=hq _ (List.getElem_mem hi)
  have et:(qs.take (i+1)).filter (fun q=>decide (q.1.f=p.f))=(qs.take i).filter (fun q=>decide (q.1.f=p.f))++(if decide (qs[i].1.f=p.f)=true then [qs[i]] else []):=by
   rw [List.take_succ,List.getElem?_eq_getElem hi,List.filter_append]
   congr 1
   show List.filter _ [qs[i]]=_
   rw [List.filter_cons]
   rfl
  have hfl2:=List.length_filter_le (fun q:Pc×V=>decide (q.1.f=p.f)) (qs.take i)
  rw [List.length_take] at hfl2
  have hq2:qs.length=2:=rfl
  rw [et]
  generalize qs[i]=qi at *
  obtain ⟨pi,vi⟩:=qi
  obtain ⟨b,ap',ar',an',ag',vn',vg',evi,hb,_⟩:=JZ hqi
  dsimp only at evi
  subst evi
  unfold kX
  have eS:decide (V.str pi.f=V.str p.f)=decide (pi.f=p.f):=by
   by_cases h:pi.f=p.f
   ·rw [decide_eq_true h,decide_eq_true (congrArg V.str h)]
   ·rw [decide_eq_false h,decide_eq_false (fun z=>h (by injection z))]
  refine ⟨_,rfl,b,_,_,_,rfl,rfl,SqT.of (sG _ _ hb),rfl,_,rfl,a,_,_,_,rfl,rfl,SqT.of (sG _ _ ha),rfl,rfl,_,rfl,?_⟩
  rw [eS]
  refine j3 (fun d=>?_) (fun d=>?_)
  ·refine ⟨_,rfl,_,hG,jv (by rw [List.length_map];omega),_,rfl,fun z o e=>?_,?_⟩
   ·rw [jr (jn e hl)];exact sG _ _ e
   ·rw [jb,if_pos d,List.map_append];rfl
  ·exact ⟨_,rfl,sG,by rw [if_neg d,List.append_nil];exact hG⟩
 rintro σ' G0 ⟨u,rfl,s0,hG0⟩
 obtain ⟨vp,hvp,esel⟩:∃ vp,Held H p.hdD vp∧((qs.take (qs.map (·.2)).length).filter fun q=>decide (q.1.f=p.f)).map (·.2)=[vp]:=by
  rcases hp with rfl | rfl
  ·refine ⟨v0,hv0,?_⟩
   show ((qs.take 2).filter fun q=>decide (q.1.f=p.f)).map (·.2)=_
   simp [qs,Ne.symm hne]
  ·refine ⟨v1,hv1,?_⟩
   show ((qs.take 2).filter fun q=>decide (q.1.f=p.f)).map (·.2)=_
   simp [qs,hne]
 rw [esel] at hG0
 clear hq esel
 clear qs
 obtain ⟨pa,ap,ar,an,ag,vn,vg,rfl,hpa,hap,har,han,hn,hag,hg⟩:=JZ hvp
 refine ⟨l,_,_,_,rfl,rfl,SqL.of hG0,qM (j:=0) rfl,?_⟩
 refine gQ ?_
 refine fun dn hdn=>?_
 refine ⟨jb,[(Sum.inr "",V.str "")],rfl,Nat.le_of_ble_eq_true rfl,?_⟩
 have s1:Same G0 (upd (upd G0 dn (.dK [])) dn (.dK (zP [] [(Sum.inr "",V.str "")]))):=fun b o e=>by rw [jr (jn e hdn),jr (jn e hdn)];exact e
 have e1:upd (upd G0 dn (.dK [])) dn (.dK (zP [] [(Sum.inr "",V.str "")])) dn=some (.dK [(Sum.inr "",V.str "")]):=jb
 generalize upd (upd G0 dn (.dK [])) dn (.dK (zP [] [(Sum.inr "",V.str "")]))=G1 at *
 have s01:=s0.trans s1
 have hdn0:H dn=none:=s0.free hdn
 have ndw:dn≠wy:=fun z=>by rw [z,hwy] at hdn0;cases hdn0
 have ndd:dn≠dl:=fun z=>by rw [z,hdl] at hdn0;cases hdn0
 have nt:∀ {b:Addr} {ys:List V},H b=some (.tup ys)→b≠wy∧b≠dl:=fun e=>⟨zO e hwy,zO e hdl⟩
 refine gQ ?_
 refine ⟨_,rfl,pa,_,_,_,rfl,rfl,SqT.of (s01 _ _ hpa),rfl,_,rfl,a,_,_,_,rfl,rfl,SqT.of (s01 _ _ ha),rfl,ap,ba,rfl,⟨_,SqT.of (s01 _ _ hap)⟩,⟨_,SqT.of (s01 _ _ hba)⟩,?_⟩
 refine YG (xs:=p.ps.map V.str) (ys:=as.map V.str) (fun i σ G=>∃ u8 u9 kvs us',σ=[some (.ref hd),some (.str f),some (.int n),some (.ref a),some (.ref wy),some (.ref dl),some (.ref pa),some (.ref dn),u8,u9,none,none,none,none,none]∧KP H G wy dl∧G dn=some (.dK kvs)∧NmP kvs p.f p i∧G wy=some (.lst us')∧HeldL G (way++jJ p.f (p.ps.take i) (as.take i)) us'∧G dl=some (.lst ms)∧DutsAt G ds ms wls) (by rw [List.length_map,List.length_map];omega) ⟨none,none,_,us,rfl,fun b o _ _ e=>s01 _ _ e,e1,jha _ _,s01 _ _ hwy,by rw [List.take_zero,List.take_zero,show jJ p.f [] []=[] from rfl,List.append_nil];exact hway.mono s01,s01 _ _ hdl,hD.mono s01⟩ ?_ ?_ ?_
 ·rintro i σ G _ ⟨u8,u9,kvs,us',rfl,kG,_⟩
  exact ⟨SqT.of (kG _ _ (nt hap).1 (nt hap).2 hap),SqT.of (kG _ _ (nt hba).1 (nt hba).2 hba)⟩
 ·clear e1 hG0 s0 s1 s01
  rintro i vx vy σ G t3 hx hy ⟨u8,u9,kvs,us',rfl,kG,hGd,hN,hGw,hW,hGl,hDG⟩ ht3
  have hip:i < p.ps.length:=by have:=(List.getElem?_eq_some_iff.mp hx).1;rw [List.length_map] at this;exact this
  have hia:i < as.length:=by omega
  rw [List.getElem?_map,List.getElem?_eq_getElem hip] at hx
  rw [List.getElem?_map,List.getElem?_eq_getElem hia] at hy
  cases hx
  cases hy
  have hhd':jJ p.f (p.ps.take (i+1)) (as.take (i+1))=jJ p.f (p.ps.take i) (as.take i)++[jbn (kI p.f p.ps[i]) as[i]]:=by
   unfold jJ
   rw [show p.ps.take (i+1)=p.ps.take i++[p.ps[i]] by rw [List.take_succ,List.getElem?_eq_getElem hip];rfl,show as.take (i+1)=as.take i++[as[i]] by rw [List.take_succ,List.getElem?_eq_getElem hia];rfl,List.zip_append (by rw [List.length_take,List.length_take];omega),List.map_append]
   rfl
  have hyl':=hyl _ (List.getElem_mem hip)
  have hN':=hN.put hip
  have hlW:=hW.length
  rw [List.length_append] at hlW
  have hlh:(jJ p.f (p.ps.take i) (as.take i)).length≤6:=by unfold jJ;rw [List.length_map,List.length_zip,List.length_take];omega
  have hlw:=hway.length
  rw [hhd',← List.append_assoc]
  generalize p.ps[i]=y at *
  generalize as[i]=arg at *
  have z1:=jf ht3 (.tup [V.str y,.str arg])
  have y1:upd G t3 (.tup [V.str y,.str arg]) t3=some (.tup [V.str y,.str arg]):=jb
  generalize upd G t3 (.tup [V.str y,.str arg])=G2 at *
  refine ⟨t3,_,rfl,SqT.of y1,rfl,_,_,rfl,_,_,rfl,rfl,?_⟩
  refine jR (σ':=[some (.ref hd),some (.str f),some (.int n),some (.ref a),some (.ref wy),some (.ref dl),some (.ref pa),some (.ref dn),some (.str y),some (.str arg),none,none,none,none,none]) rfl ?_
  have dl1:("." : Str).length=1:=by decide +kernel
  have hpaG:=z1 _ _ (kG _ _ (nt hpa).1 (nt hpa).2 hpa)
  refine ⟨_,rfl,pa,_,_,_,rfl,rfl,SqT.of hpaG,rfl,_,_,rfl,rfl,(by rw [dl1];exact ka (by omega)),_,rfl,_,_,rfl,rfl,(by rw [zD,dl1];exact ka (by omega)),?_⟩
  rw [show p.f++("." : Str)++y=kI p.f y from rfl]
  have hGd2:=z1 _ _ hGd
  have hll:=hN.l
  refine ⟨_,rfl,_,rfl,dn,_,rfl,DPut.k (k:=Sum.inr y) hGd2 (jv (by omega)),?_⟩
  have k2:∀ b o,b≠dn→G2 b=some o→upd G2 dn (.dK (j7 kvs (Sum.inr y) (.str (kI p.f y)))) b=some o:=fun b o hb e=>by rw [jr hb];exact e
  have y2:upd G2 dn (.dK (j7 kvs (Sum.inr y) (.str (kI p.f y)))) dn=some (.dK (j7 kvs (Sum.inr y) (.str (kI p.f y)))):=jb
  have hv2:kP (j7 kvs (Sum.inr y) (.str (kI p.f y))) (Sum.inr y)=some (.str (kI p.f y)):=by rw [qm,if_pos rfl]
  generalize j7 kvs (Sum.inr y) (.str (kI p.f y))=kvs2 at *
  generalize upd G2 dn (.dK kvs2)=G3 at *
  have k2l:∀ b xs,G2 b=some (.lst xs)→G3 b=some (.lst xs):=fun b xs e=>k2 b _ (fun z=>by rw [z,hGd2] at e;cases e) e
  have k2t:TK G2 G3:=fun b ys e=>k2 b _ (fun z=>by rw [z,hGd2] at e;cases e) e
  have hGw3:=k2l _ _ (z1 _ _ hGw)
  refine ⟨_,rfl,.inl ⟨rfl,_,SqL.of hGw3⟩,?_⟩
  refine ⟨_,rfl,_,rfl,dn,_,rfl,(by have:=DGet.k (k:=Sum.inr y) y2;rw [hv2] at this;exact this),?_⟩
  refine ⟨_,rfl,sm rfl,fun t4 ht4=>?_⟩
  have z3:=jf ht4 (.tup [V.str "is",.str arg])
  have y3:upd G3 t4 (.tup [V.str "is",.str arg]) t4=some (.tup [V.str "is",.str arg]):=jb
  generalize upd G3 t4 (.tup [V.str "is",.str arg])=G4 at *
  refine ⟨sm rfl,fun t5 ht5=>?_⟩
  have z4:=jf ht5 (.tup [V.str "set",.str (kI p.f y),.ref t4,.int 0])
  have y4:upd G4 t5 (.tup [V.str "set",.str (kI p.f y),.ref t4,.int 0]) t5=some (.tup [V.str "set",.str (kI p.f y),.ref t4,.int 0]):=jb
  generalize upd G4 t5 (.tup [V.str "set",.str (kI p.f y),.ref t4,.int 0])=G5 at *
  have z34:=z3.trans z4
  have hGw5:=z34 _ _ hGw3
  have hz:Held G5 (jbn (kI p.f y) arg) (.ref t5):=jp y4 (jc jk (jc jk (jc (jp (z4 _ _ y3) (jc jk (jc jk jl))) (jc jU jl))))
  have k5:∀ b o,b≠wy→G5 b=some o→upd G5 wy (.lst (us'++[.ref t5])) b=some o:=fun b o hb e=>by rw [jr hb];exact e
  have tk:=j5 k5 hGw5
  refine ⟨wy,_,_,rfl,rfl,hGw5,jv (by omega),_,_,kvs2,us'++[.ref t5],rfl,fun b o hb1 hb2 e=>?_,k5 _ _ ndw (z34 _ _ y2),hN',jb,?_,k5 _ _ (Ne.symm nwd) (z34 _ _ (k2l _ _ (z1 _ _ hGl))),?_⟩
  ·exact k5 _ _ hb1 (z34 _ _ (k2 _ _ (jn e hdn0) (z1 _ _ (kG b o hb1 hb2 e))))
  ·exact jE (tk.heldL ((k2t.heldL (hW.mono z1)).mono z34)) (jW (tk.held hz))
  ·exact DutsAt.keep k5 hGw5 ((DutsAt.keepL k2l k2t (hDG.mono z1)).mono z34) hww
 clear e1 hG0 s0 s1 s01
 rintro σ G ⟨u8,u9,kvs,us1,rfl,kG,hGd,hN,hGw,hW,hGl,hDG⟩
 rw [List.length_map,List.take_length,← hla,List.take_length] at hW
 rw [List.length_map] at hN
 have hNR:=hN.toR (Nat.le_refl _) l6p rs
 have hlW:=hW.length
 rw [List.length_append] at hlW
 have hlw:=hway.length
 have hlh:(jJ p.f p.ps as).length≤6:=J0 l6p
 refine ⟨_,rfl,pa,_,_,_,rfl,rfl,SqT.of (kG _ _ (nt hpa).1 (nt hpa).2 hpa),rfl,_,rfl,a,_,_,_,rfl,rfl,SqT.of (kG _ _ (nt ha).1 (nt ha).2 ha),rfl,ar,ca,rfl,⟨_,SqT.of (kG _ _ (nt har).1 (nt har).2 har)⟩,⟨_,SqT.of (kG _ _ (nt hca).1 (nt hca).2 hca)⟩,?_⟩
 refine YG (xs:=p.rs.map V.str) (ys:=rs.map V.str) (fun j σ G=>∃ u10 u11 kvs,σ=[some (.ref hd),some (.str f),some (.int n),some (.ref a),some (.ref wy),some (.ref dl),some (.ref pa),some (.ref dn),u8,u9,u10,u11,none,none,none]∧KP H G wy dl∧G dn=some (.dK kvs)∧NmR kvs p.f p rs j∧G wy=some (.lst us1)∧HeldL G (way++jJ p.f p.ps as) us1∧G dl=some (.lst ms)∧DutsAt G ds ms wls) (by rw [List.length_map,List.length_map];omega) ⟨none,none,kvs,rfl,kG,hGd,hNR,hGw,hW,hGl,hDG⟩ ?_ ?_ ?_
 ·rintro i σ G _ ⟨u10,u11,kvs,rfl,kG,_⟩
  exact ⟨SqT.of (kG _ _ (nt har).1 (nt har).2 har),SqT.of (kG _ _ (nt hca).1 (nt hca).2 hca)⟩
 ·clear hGd hNR hGw hW hGl hDG kG hN
  rintro j vx vy σ G t3 hx hy ⟨u10,u11,kvs,rfl,kG,hGd,hN,hGw,hW,hGl,hDG⟩ ht3
  have hip:j < p.rs.length:=by have:=(List.getElem?_eq_some_iff.mp hx).1;rw [List.length_map] at this;exact this
  have hia:j < rs.length:=by omega
  rw [List.getElem?_map,List.getElem?_eq_getElem hip] at hx
  rw [List.getElem?_map,List.getElem?_eq_getElem hia] at hy
  cases hx
  cases hy
  have hN':=hN.put hrn hip hia
  generalize p.rs[j]=y at *
  generalize rs[j]=gv at *
  have z1:=jf ht3 (.tup [V.str y,.str gv])
  have y1:upd G t3 (.tup [V.str y,.str gv]) t3=some (.tup [V.str y,.str gv]):=jb
  generalize upd G t3 (.tup [V.str y,.str gv])=G2 at *
  refine ⟨t3,_,rfl,SqT.of y1,rfl,_,_,rfl,_,_,rfl,rfl,?_⟩
  refine jR (σ':=[some (.ref hd),some (.str f),some (.int n),some (.ref a),some (.ref wy),some (.ref dl),some (.ref pa),some (.ref dn),u8,u9,some (.str y),some (.str gv),none,none,none]) rfl ?_
  have hGd2:=z1 _ _ hGd
  have hll:=hN.l
  refine ⟨_,rfl,_,rfl,_,rfl,dn,_,rfl,DPut.k (k:=Sum.inr y) hGd2 (jv (by omega)),?_⟩
  have k2:∀ b o,b≠dn→G2 b=some o→upd G2 dn (.dK (j7 kvs (Sum.inr y) (.str gv))) b=some o:=fun b o hb e=>by rw [jr hb];exact e
  have y2:upd G2 dn (.dK (j7 kvs (Sum.inr y) (.str gv))) dn=some (.dK (j7 kvs (Sum.inr y) (.str gv))):=jb
  generalize j7 kvs (Sum.inr y) (.str gv)=kvs2 at *
  generalize upd G2 dn (.dK kvs2)=G3 at *
  have k2l:∀ b xs,G2 b=some (.lst xs)→G3 b=some (.lst xs):=fun b xs e=>k2 b _ (fun z=>by rw [z,hGd2] at e;cases e) e
  have k2t:TK G2 G3:=fun b ys e=>k2 b _ (fun z=>by rw [z,hGd2] at e;cases e) e
  exact ⟨_,_,kvs2,rfl,fun b o hb1 hb2 e=>k2 _ _ (jn e hdn0) (z1 _ _ (kG b o hb1 hb2 e)),y2,hN',k2l _ _ (z1 _ _ hGw),k2t.heldL (hW.mono z1),k2l _ _ (z1 _ _ hGl),DutsAt.keepL k2l k2t (hDG.mono z1)⟩
 clear hGd hNR hGw hW hGl hDG kG hN
 rintro σ G ⟨u10,u11,kvs1,rfl,kG,hGd,hN,hGw,hW,hGl,hDG⟩
 rw [List.length_map] at hN
 have hNL:=hN.ok (Nat.le_refl _) (by omega) hnc
 have hll:=hN.l
 clear hN
 have hnl:=hn.length
 rw [List.length_map] at hnl
 have hgl:=hg.length
 rw [List.length_map] at hgl
 refine ⟨_,rfl,pa,_,_,_,rfl,rfl,SqT.of (kG _ _ (nt hpa).1 (nt hpa).2 hpa),rfl,an,rfl,⟨_,SqT.of (kG _ _ (nt han).1 (nt han).2 han)⟩,?_⟩
 have lds:=hD.len
 refine zd (xs:=vn) (fun j σ G=>∃ u12 u13 ms' wls',σ=[some (.ref hd),some (.str f),some (.int n),some (.ref a),some (.ref wy),some (.ref dl),some (.ref pa),some (.ref dn),u8,u9,u10,u11,u12,u13,none]∧KP H G wy dl∧G dn=some (.dK kvs1)∧G wy=some (.lst us1)∧HeldL G (way++jJ p.f p.ps as) us1∧G dl=some (.lst ms')∧ms'.length=ms.length+j∧DutsAt G (ds++zF f "need" [n] (way++jJ p.f p.ps as) ((p.nd.map (Cl.say (qv p.f p rs))).take j)) ms' wls'∧wy ∉ wls'∧dl ∉ wls') ⟨none,none,ms,wls,rfl,kG,hGd,hGw,hW,hGl,rfl,by rw [List.take_zero,show zF f "need" [n] (way++jJ p.f p.ps as) []=[] from rfl,List.append_nil];exact hDG,hww,hdw⟩ ?_ ?_ ?_
 ·rintro j σ G _ ⟨u12,u13,ms',wls',rfl,kG,_⟩
  exact SqT.of (kG _ _ (nt han).1 (nt han).2 han)
 ·clear hGd hGw hW hGl hDG kG
  rintro j yv σ G t hy ⟨u12,u13,ms',wls',rfl,kG,hGd,hGw,hW,hGl,lms',hDG,nw',nd'⟩ ht
  have hj:j < p.nd.length:=by have:=(List.getElem?_eq_some_iff.mp hy).1;omega
  obtain ⟨y',hy',hyH⟩:=hn.get (show (p.nd.map Cl.toD)[j]?=some p.nd[j].toD by rw [List.getElem?_map,List.getElem?_eq_getElem hj];rfl)
  rw [hy] at hy'
  cases hy'
  have hjm:j < (p.nd.map (Cl.say (qv p.f p rs))).length:=by rw [List.length_map];exact hj
  have esn:=yd f "need" [n] (way++jJ p.f p.ps as) hjm
  rw [List.getElem_map] at esn
  rw [esn,← List.append_assoc]
  have z1:=jf ht (.tup [V.int j,yv])
  have y1:upd G t (.tup [V.int j,yv]) t=some (.tup [V.int j,yv]):=jb
  generalize upd G t (.tup [V.int j,yv])=G1 at *
  refine ⟨t,_,rfl,SqT.of y1,rfl,_,_,rfl,_,_,rfl,rfl,?_⟩
  refine jR (σ':=[some (.ref hd),some (.str f),some (.int n),some (.ref a),some (.ref wy),some (.ref dl),some (.ref pa),some (.ref dn),u8,u9,u10,u11,some (.int j),some yv,none]) rfl ?_
  have hGl1:=z1 _ _ hGl
  have hGw1:=z1 _ _ hGw
  refine ⟨_,rfl,.inl ⟨rfl,_,SqL.of hGl1⟩,_,rfl,_,rfl,sm rfl,fun t1 ht1=>?_⟩
  have z2:=jf ht1 (.tup [V.int n])
  have y2:upd G1 t1 (.tup [V.int n]) t1=some (.tup [V.int n]):=jb
  generalize upd G1 t1 (.tup [V.int n])=G2 at *
  refine ⟨_,rfl,_,rfl,wy,us1,rfl,.inl (SqL.of (z2 _ _ hGw1)),fun nl hnl'=>?_⟩
  have z3:=jf hnl' (.lst us1)
  have y3:upd G2 nl (.lst us1) nl=some (.lst us1):=jb
  have n1:nl≠wy:=fun z=>by rw [z,z2 _ _ hGw1] at hnl';cases hnl'
  have n2:nl≠dl:=fun z=>by rw [z,z2 _ _ hGl1] at hnl';cases hnl'
  generalize upd G2 nl (.lst us1)=G3 at *
  have z13:=z1.trans (z2.trans z3)
  have hGt:=(KP.tk kG hwy hdl)
  refine ⟨_,rfl,_,rfl,yv,p.nd[j],dn,kvs1,_,rfl,(hGt.held hyH).mono z13,z13 _ _ hGd,hNL,fun r G4 z4 hr'=>?_⟩
  refine ⟨sm rfl,fun t2 ht2=>?_⟩
  have z5:=jf ht2 (.tup [V.str f,.str "need",.ref t1,.int j,.ref nl,r])
  have y5:upd G4 t2 (.tup [V.str f,.str "need",.ref t1,.int j,.ref nl,r]) t2=some (.tup [V.str f,.str "need",.ref t1,.int j,.ref nl,r]):=jb
  generalize upd G4 t2 (.tup [V.str f,.str "need",.ref t1,.int j,.ref nl,r])=G5 at *
  have z15:=z13.trans (z4.trans z5)
  have hGl5:=z15 _ _ hGl
  refine ⟨dl,_,_,rfl,rfl,hGl5,jv (by omega),?_⟩
  have k5:∀ b o,b≠dl→G5 b=some o→upd G5 dl (.lst (ms'++[.ref t2])) b=some o:=fun b o hb e=>by rw [jr hb];exact e
  have tk5:=j5 k5 hGl5
  refine ⟨_,_,ms'++[.ref t2],wls'++[nl],rfl,fun b o hb1 hb2 e=>k5 _ _ hb2 (z15 _ _ (kG b o hb1 hb2 e)),k5 _ _ ndd (z15 _ _ hGd),k5 _ _ nwd (z15 _ _ hGw),tk5.heldL (hW.mono z15),jb,by rw [List.length_append,lms'];rfl,?_,?_,?_⟩
  ·refine DutsAt.app (DutsAt.keep k5 hGl5 (hDG.mono z15) nd') ⟨?_,trivial⟩
   refine DuAt.keep k5 hGl5 ?_ n2
   exact ⟨t2,t1,us1,r,rfl,y5,(z3.trans (z4.trans z5)) _ _ y2,(z4.trans z5) _ _ y3,hW.mono z15,hr'.mono z5⟩
  ·intro z
   rcases List.mem_append.mp z with z | z
   ·exact nw' z
   ·exact n1 (List.mem_singleton.mp z).symm
  ·intro z
   rcases List.mem_append.mp z with z | z
   ·exact nd' z
   ·exact n2 (List.mem_singleton.mp z).symm
 clear hGd hGw hW hGl hDG kG
 rintro σ G ⟨u12,u13,ms',wls',rfl,kG,hGd,hGw,hW,hGl,lms',hDG,nw',nd'⟩
 rw [← hnl,show (p.nd.map (Cl.say (qv p.f p rs))).take p.nd.length=p.nd.map (Cl.say (qv p.f p rs)) by rw [List.take_of_length_le (by rw [List.length_map];exact Nat.le_refl _)]] at hDG
 generalize ds++zF f "need" [n] (way++jJ p.f p.ps as) (p.nd.map (Cl.say (qv p.f p rs)))=ds2 at *
 generalize hw2:way++jJ p.f p.ps as=way2 at *
 refine ⟨_,rfl,a,_,_,_,rfl,rfl,SqT.of (kG _ _ (nt ha).1 (nt ha).2 ha),rfl,ca,rfl,⟨_,SqT.of (kG _ _ (nt hca).1 (nt hca).2 hca)⟩,?_⟩
 have hlW2:=hW.length
 have lw2:way2.length≤806:=by rw [← hw2,List.length_append];omega
 refine zA (xs:=rs.map V.str) (fun i σ G=>∃ u11 us',σ=[some (.ref hd),some (.str f),some (.int n),some (.ref a),some (.ref wy),some (.ref dl),some (.ref pa),some (.ref dn),u8,u9,u10,u11,u12,u13,none]∧KP H G wy dl∧G dn=some (.dK kvs1)∧G wy=some (.lst us')∧HeldL G (way2++(rs.take i).map KL) us'∧G dl=some (.lst ms')∧DutsAt G ds2 ms' wls') ⟨u11,us1,rfl,kG,hGd,hGw,by rw [List.take_zero,List.map_nil,List.append_nil];exact hW,hGl,hDG⟩ ?_ ?_ ?_
 ·rintro i σ G _ ⟨u11,us',rfl,kG,_⟩
  exact SqT.of (kG _ _ (nt hca).1 (nt hca).2 hca)
 ·clear hGd hGw hW hGl hDG kG
  rintro i v σ G hx ⟨u11,us',rfl,kG,hGd,hGw,hW,hGl,hDG⟩
  have hi:i < rs.length:=by have:=(List.getElem?_eq_some_iff.mp hx).1;rw [List.length_map] at this;exact this
  rw [List.getElem?_map,List.getElem?_eq_getElem hi] at hx
  cases hx
  have hl:=hW.length
  rw [List.length_append,List.length_map,List.length_take] at hl
  rw [show rs.take (i+1)=rs.take i++[rs[i]] by rw [List.take_succ,List.getElem?_eq_getElem hi];rfl,List.map_append,← List.append_assoc]
  generalize rs[i]=gv at *
  refine gQ ?_
  refine ⟨_,rfl,.inl ⟨rfl,_,SqL.of hGw⟩,_,rfl,sm rfl,fun t4 ht4=>?_⟩
  have z1:=jf ht4 (.tup [V.str "lose",.str gv])
  have y1:upd G t4 (.tup [V.str "lose",.str gv]) t4=some (.tup [V.str "lose",.str gv]):=jb
  generalize upd G t4 (.tup [V.str "lose",.str gv])=G1 at *
  have hGw1:=z1 _ _ hGw
  have k5:∀ b o,b≠wy→G1 b=some o→upd G1 wy (.lst (us'++[.ref t4])) b=some o:=fun b o hb e=>by rw [jr hb];exact e
  have tk:=j5 k5 hGw1
  refine ⟨wy,_,_,rfl,rfl,hGw1,jv (by omega),_,us'++[.ref t4],rfl,fun b o hb1 hb2 e=>k5 _ _ hb1 (z1 _ _ (kG b o hb1 hb2 e)),k5 _ _ ndw (z1 _ _ hGd),jb,?_,k5 _ _ (Ne.symm nwd) (z1 _ _ hGl),DutsAt.keep k5 hGw1 (hDG.mono z1) nw'⟩
  exact jE (tk.heldL (hW.mono z1)) (jW (tk.held (jp y1 (jc jk (jc jk jl)))))
 clear hGd hGw hW hGl hDG kG
 rintro σ G ⟨u11',us2,rfl,kG,hGd,hGw,hW,hGl,hDG⟩
 rw [List.length_map,List.take_length] at hW
 have hl2:=hW.length
 rw [List.length_append,List.length_map] at hl2
 refine ⟨_,rfl,.inl ⟨rfl,_,SqL.of hGw⟩,_,rfl,a,_,_,_,rfl,rfl,SqT.of (kG _ _ (nt ha).1 (nt ha).2 ha),rfl,sm rfl,fun t4 ht4=>?_⟩
 have z1:=jf ht4 (.tup [V.str "any",.str x])
 have y1:upd G t4 (.tup [V.str "any",.str x]) t4=some (.tup [V.str "any",.str x]):=jb
 generalize upd G t4 (.tup [V.str "any",.str x])=G1 at *
 have hGw1:=z1 _ _ hGw
 have k5:∀ b o,b≠wy→G1 b=some o→upd G1 wy (.lst (us2++[.ref t4])) b=some o:=fun b o hb e=>by rw [jr hb];exact e
 have tk:=j5 k5 hGw1
 have y5:upd G1 wy (.lst (us2++[.ref t4])) wy=some (.lst (us2++[.ref t4])):=jb
 refine ⟨wy,_,_,rfl,rfl,hGw1,jv (by omega),?_⟩
 have hW5:HeldL (upd G1 wy (.lst (us2++[.ref t4]))) (way2++rs.map KL++[jdZ x]) (us2++[.ref t4]):=jE (tk.heldL (hW.mono z1)) (jW (tk.held (jp y1 (jc jk (jc jk jl)))))
 have kG5:KP H (upd G1 wy (.lst (us2++[.ref t4]))) wy dl:=fun b o hb1 hb2 e=>k5 _ _ hb1 (z1 _ _ (kG b o hb1 hb2 e))
 have hGd5:=k5 _ _ ndw (z1 _ _ hGd)
 have hGl5:=k5 _ _ (Ne.symm nwd) (z1 _ _ hGl)
 have hD5:=DutsAt.keep k5 hGw1 (hDG.mono z1) nw'
 clear k5 tk hGw1 hGd hGw hW hGl hDG kG y1 z1
 have hl5:=hW5.length
 rw [List.length_append,List.length_append,List.length_map] at hl5
 generalize us2++[V.ref t4]=us3 at *
 generalize upd G1 wy (.lst us3)=G5 at *
 refine ⟨_,rfl,a,_,_,_,rfl,rfl,SqT.of (kG5 _ _ (nt ha).1 (nt ha).2 ha),rfl,_,rfl,dn,_,rfl,DPut.k (k:=Sum.inr "out") hGd5 (jv (by omega)),?_⟩
 have k6:∀ b o,b≠dn→G5 b=some o→upd G5 dn (.dK (j7 kvs1 (Sum.inr "out") (.str x))) b=some o:=fun b o hb e=>by rw [jr hb];exact e
 have y6:upd G5 dn (.dK (j7 kvs1 (Sum.inr "out") (.str x))) dn=some (.dK (j7 kvs1 (Sum.inr "out") (.str x))):=jb
 have hNO:=hNL.out x
 generalize j7 kvs1 (Sum.inr "out") (.str x)=kvs2 at *
 generalize upd G5 dn (.dK kvs2)=G6 at *
 have k6l:∀ b xs,G5 b=some (.lst xs)→G6 b=some (.lst xs):=fun b xs e=>k6 b _ (fun z=>by rw [z,hGd5] at e;cases e) e
 have k6t:TK G5 G6:=fun b ys e=>k6 b _ (fun z=>by rw [z,hGd5] at e;cases e) e
 have kG6:KP H G6 wy dl:=fun b o hb1 hb2 e=>k6 _ _ (jn e hdn0) (kG5 b o hb1 hb2 e)
 refine ⟨_,rfl,pa,_,_,_,rfl,rfl,SqT.of (kG6 _ _ (nt hpa).1 (nt hpa).2 hpa),rfl,ag,rfl,⟨_,SqT.of (kG6 _ _ (nt hag).1 (nt hag).2 hag)⟩,?_⟩
 refine zA (xs:=vg) (fun i σ G=>∃ u14 us',σ=[some (.ref hd),some (.str f),some (.int n),some (.ref a),some (.ref wy),some (.ref dl),some (.ref pa),some (.ref dn),u8,u9,u10,u11',u12,u13,u14]∧KP H G wy dl∧G dn=some (.dK kvs2)∧G wy=some (.lst us')∧HeldL G (way2++rs.map KL++[jdZ x]++((p.gv.map (Cl.say (qV p.f p rs x))).take i).map yo) us'∧G dl=some (.lst ms')∧DutsAt G ds2 ms' wls') ⟨none,us3,rfl,kG6,y6,k6l _ _ y5,by rw [List.take_zero,List.map_nil,List.append_nil];exact k6t.heldL hW5,k6l _ _ hGl5,DutsAt.keepL k6l k6t hD5⟩ ?_ ?_ ?_
 ·rintro i σ G _ ⟨u14,us',rfl,kG,_⟩
  exact SqT.of (kG _ _ (nt hag).1 (nt hag).2 hag)
 ·rintro i v σ G hx ⟨u14,us',rfl,kG,hGd,hGw,hW,hGl,hDG⟩
  have hi:i < p.gv.length:=by have:=(List.getElem?_eq_some_iff.mp hx).1;omega
  obtain ⟨x',hx',hxH⟩:=hg.get (show (p.gv.map Cl.toD)[i]?=some p.gv[i].toD by rw [List.getElem?_map,List.getElem?_eq_getElem hi];rfl)
  rw [hx] at hx'
  cases hx'
  have hl:=hW.length
  rw [List.length_append,List.length_append,List.length_append,List.length_map,List.length_map,List.length_take,List.length_map] at hl
  have him:i < (p.gv.map (Cl.say (qV p.f p rs x))).length:=by rw [List.length_map];exact hi
  rw [show (p.gv.map (Cl.say (qV p.f p rs x))).take (i+1)=(p.gv.map (Cl.say (qV p.f p rs x))).take i++[Cl.say (qV p.f p rs x) p.gv[i]] by rw [List.take_succ,List.getElem?_eq_getElem him,List.getElem_map];rfl,List.map_append,← List.append_assoc]
  refine gQ ?_
  have hGt:=KP.tk kG hwy hdl
  refine ⟨_,rfl,.inl ⟨rfl,_,SqL.of hGw⟩,_,rfl,_,rfl,v,p.gv[i],dn,kvs2,_,rfl,hGt.held hxH,hGd,hNO,fun r G1 z1 hr'=>?_⟩
  refine ⟨sm rfl,fun t6 ht6=>?_⟩
  have z2:=jf ht6 (.tup [V.str "know",r])
  have y2:upd G1 t6 (.tup [V.str "know",r]) t6=some (.tup [V.str "know",r]):=jb
  generalize upd G1 t6 (.tup [V.str "know",r])=G2 at *
  have z12:=z1.trans z2
  have hGw1:=z12 _ _ hGw
  have k5:∀ b o,b≠wy→G2 b=some o→upd G2 wy (.lst (us'++[.ref t6])) b=some o:=fun b o hb e=>by rw [jr hb];exact e
  have tk:=j5 k5 hGw1
  refine ⟨wy,_,_,rfl,rfl,hGw1,jv (by show us'.length≤1000;rw [show [jdZ x].length=1 from rfl] at hl;omega),_,us'++[.ref t6],rfl,fun b o hb1 hb2 e=>k5 _ _ hb1 (z12 _ _ (kG b o hb1 hb2 e)),k5 _ _ ndw (z12 _ _ hGd),jb,?_,k5 _ _ (Ne.symm nwd) (z12 _ _ hGl),DutsAt.keep k5 hGw1 (hDG.mono z12) nw'⟩
  exact jE (tk.heldL (hW.mono z12)) (jW (tk.held (jp y2 (jc jk (jc (hr'.mono z2) jl)))))
 rintro σ G ⟨u14,us',rfl,kG,hGd,hGw,hW,hGl,hDG⟩
 rw [← hgl,show (p.gv.map (Cl.say (qV p.f p rs x))).take p.gv.length=p.gv.map (Cl.say (qV p.f p rs x)) by rw [List.take_of_length_le (by rw [List.length_map];exact Nat.le_refl _)]] at hW
 refine q us' ms' wls' G kG hGw ?_ hGl hDG nw' nd'
 unfold zJ
 rw [List.append_assoc,List.append_assoc] at hW
 rw [List.append_assoc]
 exact hW
end
theorem kg (x:Str):lvD (.str x)=[x]:=by rw [lvD]
theorem zw (i:Int):lvD (.int i)=[]:=by rw [lvD]
theorem j8 (ds:List D):lvD (.tup ds)=lvL ds:=by rw [lvD]
theorem yK (x:Str) (d:Int):lvD (plD x d)=[x]:=by unfold plD;simp [j8,jG,jT,kg,zw]
def Bd.ns:Bd→List Str
 | .is x=>[x]
 | .row _=>[]
abbrev LvOk (rs ns:List Str) (l:List Str):Prop:=(∀ x∈l,x∈ns∨x∈kwL∨x∈rs)∧∀ x∈ns,x∈l
theorem kw (x:Str) (h:x∈kwL) {A B:Prop}:A∨x∈kwL∨B:=.inr (.inl h)
theorem jaS {xs rs:List Str} {t:Tm} (h:t.In xs rs):LvOk rs t.ns (lvD t.toD):=by
 cases t with
 | is x=>
  have e:lvD (Tm.is x).toD=[("is" : Str),x]:=by unfold Tm.toD;simp [j8,jG,jT,kg]
  rw [e]
  refine ⟨fun y hy=>?_,fun y hy=>List.mem_cons_of_mem _ hy⟩
  rcases List.mem_cons.mp hy with rfl | hy
  ·exact kw _ (by decide)
  ·exact .inl hy
 | at_ r x d=>
  have e:lvD (Tm.at_ r x d).toD=[("at" : Str),r,x]:=by unfold Tm.toD;simp [j8,jG,jT,kg,yK]
  rw [e]
  refine ⟨fun y hy=>?_,fun y hy=>List.mem_cons_of_mem _ (List.mem_cons_of_mem _ hy)⟩
  rcases List.mem_cons.mp hy with rfl | hy
  ·exact kw _ (by decide)
  rcases List.mem_cons.mp hy with rfl | hy
  ·exact .inr (.inr h.1)
  ·exact .inl hy
theorem LvOk.app {rs n m l k:List Str} (h:LvOk rs n l) (h':LvOk rs m k):LvOk rs (n++m) (l++k):=by
 refine ⟨fun x hx=>?_,fun x hx=>?_⟩
 ·rcases List.mem_append.mp hx with hx | hx
  ·exact (h.1 x hx).imp (fun z=>List.mem_append.mpr (.inl z)) id
  ·exact (h'.1 x hx).imp (fun z=>List.mem_append.mpr (.inr z)) id
 ·rcases List.mem_append.mp hx with hx | hx
  ·exact List.mem_append.mpr (.inl (h.2 x hx))
  ·exact List.mem_append.mpr (.inr (h'.2 x hx))
theorem LvOk.kw {rs n l:List Str} (h:LvOk rs n l) {x:Str} (hx:x∈kwL):LvOk rs n (x :: l):=by
 refine ⟨fun y hy=>?_,fun y hy=>List.mem_cons_of_mem _ (h.2 y hy)⟩
 rcases List.mem_cons.mp hy with rfl | hy
 ·exact .inr (.inl hx)
 ·exact h.1 y hy
theorem LvOk.row {rs n l:List Str} (h:LvOk rs n l) {x:Str} (hx:x∈rs):LvOk rs n (x :: l):=by
 refine ⟨fun y hy=>?_,fun y hy=>List.mem_cons_of_mem _ (h.2 y hy)⟩
 rcases List.mem_cons.mp hy with rfl | hy
 ·exact .inr (.inr hx)
 ·exact h.1 y hy
theorem LvOk.one {rs n l:List Str} (h:LvOk rs n l) (x:Str):LvOk rs (x :: n) (x :: l):=LvOk.app (n:=[x]) (l:=[x]) ⟨fun y hy=>.inl hy,fun y hy=>hy⟩ h
theorem LvOk.nil {rs:List Str}:LvOk rs [] []:=⟨fun y hy=>(by cases hy),fun y hy=>(by cases hy)⟩
theorem jfk {xs rs:List Str} {C:Cl} (h:C.In xs rs):LvOk rs C.ns (lvD C.toD):=by
 cases C with
 | least a b c=>
  have e:lvD (Cl.least a b c).toD=("least" : Str) :: (lvD a.toD++lvD b.toD):=by unfold Cl.toD;simp [j8,jG,jT,kg,zw]
  rw [e]
  exact LvOk.kw (LvOk.app (jaS h.1) (jaS h.2)) (by decide)
 | rise t td u ud r=>
  have e:lvD (Cl.rise t td u ud r).toD=[("rise" : Str),t,u,r]:=by unfold Cl.toD;simp [j8,jG,jT,kg,yK]
  rw [e]
  exact LvOk.kw (LvOk.one (LvOk.one (LvOk.row LvOk.nil h.2.2) u) t) (by decide)
 | each t td u ud r way b c=>
  obtain ⟨h1,h2,h3,h4,h5⟩:=h
  have e:lvD (Cl.each t td u ud r way b c).toD=("each" : Str) :: t :: u :: r :: way :: lvD b.toD:=by unfold Cl.toD;simp [j8,jG,jT,kg,yK,zw]
  rw [e]
  have hb:LvOk rs b.ns (lvD b.toD):=by
   cases b with
   | is x=>
    have e:lvD (Bd.is x).toD=[("is" : Str),x]:=by unfold Bd.toD;simp [j8,jG,jT,kg]
    rw [e]
    exact LvOk.kw (LvOk.one LvOk.nil x) (by decide)
   | row x=>
    have e:lvD (Bd.row x).toD=[("row" : Str),x]:=by unfold Bd.toD;simp [j8,jG,jT,kg]
    rw [e]
    exact LvOk.kw (LvOk.row LvOk.nil h5) (by decide)
  have hw:way∈kwL:=by rcases h4 with rfl | rfl <;> decide
  have hh:=LvOk.kw (x:=("each" : Str)) (LvOk.one (LvOk.one (LvOk.row (LvOk.kw hb hw) h3) u) t) (by decide)
  have en:(Cl.each t td u ud r way b c).ns=t :: u :: b.ns:=by cases b <;> rfl
  rw [en]
  exact hh
theorem DepL.succ:∀ {n:Nat} {ds:List D},DepL n ds→DepL (n+1) ds
 | 0,_,h=>h.elim
 | n+1,ds,h=>fun d hd es e=>DepL.succ (h d hd es e)
theorem DepL.nil {n:Nat}:DepL (n+1) []:=fun d hd=>by cases hd
theorem DepL.cons {n:Nat} {d:D} {ds:List D} (h:∀ es,d=.tup es→DepL n es) (h2:DepL (n+1) ds):DepL (n+1) (d :: ds):=fun d' hd' es e=>by
 rcases List.mem_cons.mp hd' with rfl | hd'
 ·exact h es e
 ·exact h2 d' hd' es e
theorem kC {n:Nat} {x:Str} {ds:List D} (h:DepL (n+1) ds):DepL (n+1) (.str x :: ds):=DepL.cons (fun es e=>by cases e) h
theorem Zy {n:Nat} {x:Int} {ds:List D} (h:DepL (n+1) ds):DepL (n+1) (.int x :: ds):=DepL.cons (fun es e=>by cases e) h
theorem qy {n:Nat} {es ds:List D} (h1:DepL n es) (h:DepL (n+1) ds):DepL (n+1) (.tup es :: ds):=DepL.cons (fun es' e=>by cases e;exact h1) h
theorem Jc {n:Nat} {x:Str} {d:Int} {ds:List D} (h:DepL (n+2) ds):DepL (n+2) (plD x d :: ds):=qy (kC (Zy DepL.nil)) h
theorem YJ {n:Nat} {t:Tm} {ds:List D} (h:DepL (n+3) ds):DepL (n+3) (t.toD :: ds):=by
 cases t with
 | is x=>exact qy (kC (kC DepL.nil)) h
 | at_ r x d=>exact qy (kC (kC (Jc DepL.nil))) h
theorem jf8 {n:Nat} {t:Bd} {ds:List D} (h:DepL (n+2) ds):DepL (n+2) (t.toD :: ds):=by
 cases t with
 | is x=>exact qy (kC (kC DepL.nil)) h
 | row x=>exact qy (kC (kC DepL.nil)) h
theorem jdQ {n:Nat} {C:Cl} {ds:List D} (h:DepL (n+4) ds):DepL (n+4) (C.toD :: ds):=by
 cases C with
 | least a b c=>exact qy (kC (YJ (YJ (Zy DepL.nil)))) h
 | each t td u ud r way b c=>exact qy (kC (Jc (Jc (kC (kC (jf8 (Zy DepL.nil))))))) h
 | rise t td u ud r=>exact qy (kC (Jc (Jc (kC DepL.nil)))) h
theorem Kb {n:Nat}:∀ xs:List Str,DepL (n+1) (xs.map D.str)
 | []=>DepL.nil
 | _ :: xs=>kC (Kb xs)
theorem Yw:∀ xs:List Str,lvL (xs.map D.str)=xs
 | []=>jT
 | x :: xs=>by rw [List.map_cons,jG,kg,Yw xs];rfl
theorem jf7 {n:Nat} {S:Sm} {ds:List D} (h:DepL (n+5) ds):DepL (n+5) (S.toD :: ds):=by
 cases S with
 | set x t c=>exact qy (kC (kC (YJ (Zy DepL.nil)))) h
 | put r x d t c=>exact qy (kC (kC (Jc (YJ (Zy DepL.nil))))) h
 | any x=>exact qy (kC (kC DepL.nil)) h
 | claim C=>exact qy (kC (jdQ DepL.nil)) h
 | call x f as rs=>exact qy (kC (kC (kC (qy (Kb as) (qy (Kb rs) DepL.nil))))) h
theorem YK {n:Nat}:∀ {l:List Cl},DepL (n+4) (l.map Cl.toD)
 | []=>DepL.nil
 | _ :: _=>jdQ YK
theorem ja1 {n:Nat}:∀ {l:List Sm},DepL (n+5) (l.map Sm.toD)
 | []=>DepL.nil
 | _ :: _=>jf7 ja1
def Pc.part (p:Pc):List D:=[.tup (p.nd.map Cl.toD),.tup (p.gv.map Cl.toD),.tup (p.bd.map Sm.toD)]
theorem jc3 (p:Pc):DepL 6 p.part:=qy (n:=5) YK (qy (n:=5) YK (qy ja1 DepL.nil))
theorem jaO (p:Pc):lvL p.part=lvL (p.nd.map Cl.toD)++(lvL (p.gv.map Cl.toD)++lvL (p.bd.map Sm.toD)):=by
 unfold Pc.part
 rw [jG,jG,Yx,j8,j8,j8]
theorem Ya (t:Tm):(lvD t.toD).length≤3:=by
 cases t <;> unfold Tm.toD <;> simp [j8,jG,jT,kg,yK]
theorem jgb (t:Bd):(lvD t.toD).length≤3:=by
 cases t <;> unfold Bd.toD <;> simp [j8,jG,jT,kg,yK]
theorem jdT (C:Cl):(lvD C.toD).length≤8:=by
 cases C with
 | least a b c=>have:=Ya a;have:=Ya b;unfold Cl.toD;simp [j8,jG,jT,kg,zw];omega
 | each t td u ud r way b c=>have:=jgb b;unfold Cl.toD;simp [j8,jG,jT,kg,zw,yK];omega
 | rise t td u ud r=>unfold Cl.toD;simp [j8,jG,jT,kg,yK]
theorem jfu {S:Sm} (hf:S.few):(lvD S.toD).length≤15:=by
 cases S with
 | call x f as rs=>have:=hf.1;have:=hf.2;unfold Sm.toD;simp [j8,jG,jT,kg,Yw];omega
 | set x t c=>have:=Ya t;unfold Sm.toD;simp [j8,jG,jT,kg,zw];omega
 | put r x d t c=>have:=Ya t;unfold Sm.toD;simp [j8,jG,jT,kg,zw,yK];omega
 | any x=>unfold Sm.toD;simp [j8,jG,jT,kg]
 | claim C=>have:=jdT C;unfold Sm.toD;simp [j8,jG,jT,kg];omega
theorem YO:∀ l:List Cl,(lvL (l.map Cl.toD)).length≤8 * l.length
 | []=>by rw [List.map_nil,jT];exact Nat.zero_le _
 | C :: l=>by have:=jdT C;have:=YO l;rw [List.map_cons,jG,List.length_append,List.length_cons];omega
theorem jaG:∀ l:List Sm,(∀ S∈l,S.few)→(lvL (l.map Sm.toD)).length≤15 * l.length
 | [],_=>by rw [List.map_nil,jT];exact Nat.zero_le _
 | S :: l,h=>by have:=jfu (h S List.mem_cons_self);have:=jaG l fun T hT=>h T (List.mem_cons_of_mem _ hT);rw [List.map_cons,jG,List.length_append,List.length_cons];omega
theorem jc2 {p:Pc} (h:PcOk p) (hb:p.bd.length≤20):(lvL p.part).length≤800:=by
 rw [jaO,List.length_append,List.length_append]
 have:=YO p.nd;have:=YO p.gv;have:=jaG p.bd h.sm
 have:=h.nd;have:=h.gv
 omega
theorem Z3 {xs rs:List Str}:∀ {l:List Cl},(∀ C∈l,C.In xs rs)→LvOk rs (l.flatMap Cl.ns) (lvL (l.map Cl.toD))
 | [],_=>by rw [List.map_nil,jT];exact LvOk.nil
 | C :: l,h=>by
  rw [List.map_cons,jG,List.flatMap_cons]
  exact LvOk.app (jfk (h C List.mem_cons_self)) (Z3 fun D hD=>h D (List.mem_cons_of_mem _ hD))
theorem jcc {p:Pc} {ns us:List Str} (hn:NumsOf p ns) (hu:us.Pairwise ltT) (hm:∀ x,x∈us↔x∈p.others∨x = "out"):us.filter (fun x=>!decide (x∈p.ps))=ns.filter (fun x=>!decide (x∈p.ps)):=by
 refine yY (hu.filter _) (hn.up.filter _) fun x=>?_
 rw [List.mem_filter,List.mem_filter,hn.mem,hm]
 constructor
 ·rintro ⟨h | h,g⟩
  ·exact ⟨.inl h,g⟩
  ·exact ⟨.inr (.inr h),g⟩
 ·rintro ⟨h | h | h,g⟩
  ·exact ⟨.inl h,g⟩
  ·rw [decide_eq_true h] at g;cases g
  ·exact ⟨.inr h,g⟩
def Zm (x:Str):List Str→List Str
 | []=>[x]
 | y :: r=>if Spec.ltCps x.cps.toList y.cps.toList=true then x :: y :: r else if x=y then y :: r else y :: Zm x r
theorem JY (x:Str):∀ l z,z∈Zm x l↔z=x∨z∈l
 | [],z=>by simp [Zm]
 | y :: r,z=>by
  rw [Zm]
  split
  ·simp
  ·split
   ·rename_i h;subst h;simp
   ·rw [List.mem_cons,JY x r z,List.mem_cons]
    constructor
    ·rintro (h | h | h)
     ·exact .inr (.inl h)
     ·exact .inl h
     ·exact .inr (.inr h)
    ·rintro (h | h | h)
     ·exact .inr (.inl h)
     ·exact .inl h
     ·exact .inr (.inr h)
theorem jaU (x:Str):∀ l:List Str,l.Pairwise ltT→(Zm x l).Pairwise ltT
 | [],_=>by simp [Zm]
 | y :: r,h=>by
  obtain ⟨a1,a2⟩:=List.pairwise_cons.mp h
  rw [Zm]
  split
  ·rename_i g
   refine List.pairwise_cons.mpr ⟨fun z hz=>?_,h⟩
   rcases List.mem_cons.mp hz with rfl | hz
   ·exact g
   ·exact lt_trans g (a1 z hz)
  ·rename_i g
   split
   ·exact h
   ·rename_i ne
    refine List.pairwise_cons.mpr ⟨fun z hz=>?_,jaU x r a2⟩
    rcases (JY x r z).mp hz with rfl | hz
    ·exact Z4 (by simpa using g) fun e=>ne (jar e)
    ·exact a1 z hz
theorem jaF:∀ l:List Str,∃ ns:List Str,ns.Pairwise ltT∧∀ x,x∈ns↔x∈l
 | []=>⟨[],.nil,fun x=>Iff.rfl⟩
 | y :: l=>by
  obtain ⟨ns,h1,h2⟩:=jaF l
  exact ⟨Zm y ns,jaU y ns h1,fun x=>by rw [JY,h2,List.mem_cons]⟩
theorem jgg {l:List Str} (h:l.Pairwise ltT):l.Nodup:=h.imp fun {a b} hab e=>by
 subst e
 have:=jdv a.cps.toList
 unfold ltT at hab
 rw [this] at hab
 cases hab
theorem LvOk.names {fs n l:List Str} (h:LvOk fs n l):∀ xs:List Str,LvOk fs (xs++n) (xs++l)
 | []=>h
 | x :: xs=>LvOk.one (LvOk.names h xs) x
theorem LvOk.rows {fs n l:List Str} (h:LvOk fs n l):∀ {xs:List Str},(∀ x∈xs,x∈fs)→LvOk fs n (xs++l)
 | [],_=>h
 | x :: xs,hx=>LvOk.row (LvOk.rows h fun y hy=>hx y (List.mem_cons_of_mem _ hy)) (hx x List.mem_cons_self)
theorem jeP {p0 p1:Pc} {nums free rows fs:List Str} {S:Sm} (h:SmIn p0 p1 nums free rows S) (hr:∀ r∈rows,r∈fs) (h0:p0.f∈fs) (h1:p1.f∈fs):LvOk fs S.ns (lvD S.toD):=by
 have mono:∀ {C:Cl},C.In nums rows→C.In nums fs:=fun {C} hC=>by
  cases C with
  | least a b c=>
   have tm:∀ {t:Tm},t.In nums rows→t.In nums fs:=fun {t} ht=>by
    cases t with
    | is x=>exact ht
    | at_ r x d=>exact ⟨hr _ ht.1,ht.2⟩
   exact ⟨tm hC.1,tm hC.2⟩
  | each t td u ud r way b c=>
   obtain ⟨a1,a2,a3,a4,a5⟩:=hC
   refine ⟨a1,a2,hr _ a3,a4,?_⟩
   cases b with
   | is x=>exact a5
   | row x=>exact hr _ a5
  | rise t td u ud r=>exact ⟨hC.1,hC.2.1,hr _ hC.2.2⟩
 have tm:∀ {t:Tm},t.In nums rows→t.In nums fs:=fun {t} ht=>by
  cases t with
  | is x=>exact ht
  | at_ r x d=>exact ⟨hr _ ht.1,ht.2⟩
 cases h with
 | @call x p as rs h=>
  have e:lvD (Sm.call x p.f as rs).toD=("call" : Str) :: x :: p.f :: (as++(rs++[])):=by unfold Sm.toD;simp [j8,jG,jT,kg,Yw]
  have hpf:p.f∈fs:=by rcases h.ep with rfl | rfl <;> assumption
  rw [e]
  have hn:(Sm.call x p.f as rs).ns=x :: (as++[]):=by show [x]++as=_;simp
  rw [hn]
  exact LvOk.kw (LvOk.one (LvOk.row (LvOk.names (LvOk.rows LvOk.nil fun r hr'=>hr r (h.ir r hr')) as) hpf) x) (by decide)
 | @claim C h=>
  have e:lvD (Sm.claim C).toD=("claim" : Str) :: lvD C.toD:=by unfold Sm.toD;simp [j8,jG,jT,kg]
  rw [e]
  exact LvOk.kw (jfk (mono h)) (by decide)
 | @set x t c hx h=>
  have e:lvD (Sm.set x t c).toD=("set" : Str) :: x :: lvD t.toD:=by unfold Sm.toD;simp [j8,jG,jT,kg,zw]
  rw [e]
  exact LvOk.kw (LvOk.one (jaS (tm h)) x) (by decide)
 | @put r x d c hr' hx=>
  have e:lvD (Sm.put r x d (.is "") c).toD=("put" : Str) :: r :: x :: lvD (Tm.is "").toD:=by unfold Sm.toD;simp [j8,jG,jT,kg,zw,yK]
  rw [e]
  exact LvOk.kw (LvOk.row (LvOk.one (jaS (xs:=nums) (t:=.is "") (.inr rfl)) x) (hr r hr')) (by decide)
abbrev jbp:Stmt:=top 49
theorem jds (f kind:Str) (path:List Int) (w:List D) (Cs:List Cl):kS f kind path [w] Cs=zF f kind path w Cs:=by unfold kS;simp
structure DueOk (p p0 p1:Pc) (pr:Str→Pc) (gs pool ns nums free rows:List Str):Prop where
 fit:PcFit gs pr p
 bd12:p.bd.length≤12
 ns:NumsOf p ns
 mem:∀ x,x∈yB pool (lvL p.part)↔x∈p.others
 pl:pool.length≤10
 sm:∀ S∈p.bd,SmIn p0 p1 nums free rows S
 ne:p0.f≠p1.f
 c0:NoClash p0∧CalOk p0.f p0∧pr p0.f=p0
 c1:NoClash p1∧CalOk p1.f p1∧pr p1.f=p1
def jfd:Sp:=fun vs H Q _=>∃ (v v0 v1:V) (hd b:Addr) (p p0 p1:Pc) (pr:Str→Pc) (gs pool ns nums free rows:List Str),vs=[.ref hd,v,.ref b]∧H hd=some (.lst [v0,v1])∧Held H p0.hdD v0∧Held H p1.hdD v1∧Held H p.toD v∧DueOk p p0 p1 pr gs pool ns nums free rows∧H b=some (.lst (pool.map V.str))∧∀ (l:Addr) (ms:List V) (wls:List Addr) (H':Hp),Same H H'→H' l=some (.lst ms)→DutsAt H' (p.dus pr ns) ms wls→Q (.ref l) H'
theorem jdI {α:Type} (f:α→Bool) {l:List α} {i:Nat} (hi:i < l.length):(l.take (i+1)).filter f=(l.take i).filter f++(if f l[i]=true then [l[i]] else []):=by
 rw [List.take_succ,List.getElem?_eq_getElem hi,List.filter_append]
 congr 1
 show List.filter _ [l[i]]=_
 rw [List.filter_cons]
 rfl
section
variable {P:Program} {w:World} {K:W.Frag} {mg:Str→Option Value} {base:Heap}
theorem jfV {f:Addr} {fd:FuncData} (F:Fun K "_law_due" "_law_due" jbp f fd) (B:Free0 mg) (Z_enumerate:mg "enumerate" = none) (F_used:Fn P w K mg base 7 "_law_used" ["_law_thing","_law_nums"] (JH 6)) (F_through:Fn P w K mg base 4 "_law_through" ["_law_heads","_law_f","_law_n","_law_statement","_law_way","_law_due_here"] KA):FnOk P w K mg base CX0 8 f fd ["_law_heads","_law_proc","_law_names"] jfd:=by
 have sc:FnScope ["_law_heads","_law_proc","_law_names","_law_used_here","_law_way","_law_due_here","_law_n","_law_statement","_law_k","_law_give"] ["_law_heads","_law_proc","_law_names"] (js jbp):=fQ
 refine F.okZ sc (fun vs H Q E h=>?_) (fun cdv A outer s H vs Q E hr h=>?_)
 ·obtain ⟨v,v0,v1,hd,b,p,p0,p1,pr,gs,pool,ns,nums,free,rows,rfl,_⟩:=h
  rfl
 obtain ⟨v,v0,v1,hd,b,p,p0,p1,pr,gs,pool,ns,nums,free,rows,rfl,hhd,hv0,hv1,hv,O,hb,q⟩:=h
 have hns:=O.ns
 refine ⟨_,(jg (jx (i:=3) sc.nd rfl oQ (kj (q4 (P:=P) (w:=w) rfl) (by rfl) B.sorted_ K0 (ja (kJ (zU (P:=P) (w:=w) (K:=K) rfl) (by rfl) B.set_ jae (ja (jm kD (ju F_used hr (ja (jV qR (zpv 1) (jO je) kq) (ja (zpv 2) jd))) (jI (ja jo jd))) jd)) jd)))
   (jg (zH (i:=4) sc.nd rfl oQ ["_law_x"] [1] rfl (kQ (sc:=js jbp) (N:=["_law_heads","_law_proc","_law_names","_law_used_here","_law_way","_law_due_here","_law_n","_law_statement","_law_k","_law_give"]) rfl rfl (by decide +kernel)) (kW (zpv 3)) (fun s H ex=>⟨(jt (i:=0) (show List.Nodup (["_law_x","_law_proc"]:List Str) by decide +kernel) rfl oQ),(yz (jz (q5 (K:=K)) (zpv 0) (jj (Js (K:=K)) (zpv 1) je (fun _ _=>rfl)) rfl)),(jy (ja jo (ja (zpv 0) (ja (jy (ja jo (ja jo jd))) (ja je jd)))))⟩))
   (jg (jx (i:=4) sc.nd rfl oQ (jm kD (zpv 4) (ql ["_law_need"] [] rfl (kQ (sc:=js jbp) (N:=["_law_heads","_law_proc","_law_names","_law_used_here","_law_way","_law_due_here","_law_n","_law_statement","_law_k","_law_give"]) rfl rfl (by decide +kernel)) (kO (jj jq (zpv 1) je (fun _ _=>rfl))) (fun s H ex=>⟨(jt (i:=0) (show List.Nodup (["_law_need"]:List Str) by decide +kernel) rfl oQ),qk,(jy (ja jo (ja (zpv 0) jd)))⟩))))
   (jg (jx (i:=5) sc.nd rfl oQ (jI jd))
   (jg (jZ PassesOwn.never rfl (za (by rfl) Z_enumerate (ja (jj jq (zpv 1) je (fun _ _=>rfl)) jd)) (ko rfl (jA (jt (i:=6) sc.nd rfl oQ) (jA (jt (i:=7) sc.nd rfl oQ) j9))) (ji (jL (jz jY (jj jq (zpv 7) je (fun _ _=>rfl)) jo (jH _)) (ji (jK (kb PySem.F.plainAttrs_list PySem.F.slot_list_append PySem.F.type_list_append jQ (zpv 5) (ja (jy (ja (jj jq (zpv 1) je (fun _ _=>rfl)) (ja jo (ja (jy (ja (zpv 6) jd)) (ja je (ja (kJ kR (by rfl) B.list_ yi (ja (zpv 4) jd)) (ja (jj jq (zpv 7) je (fun _ _=>rfl)) jd))))))) jd)))) (ji (jL (jz jY (jj jq (zpv 7) je (fun _ _=>rfl)) jo (jH _)) (ji (jK (ju F_through hr (ja (zpv 0) (ja (jj jq (zpv 1) je (fun _ _=>rfl)) (ja (zpv 6) (ja (zpv 7) (ja (zpv 4) (ja (zpv 5) jd))))))))) (ji (jK (kb PySem.F.plainAttrs_list PySem.F.slot_list_append PySem.F.type_list_append jQ (zpv 4) (ja (zpv 7) jd)))))))))
   (jg (jZ PassesOwn.never rfl (za (by rfl) Z_enumerate (ja (jj jq (zpv 1) je (fun _ _=>rfl)) jd)) (ko rfl (jA (jt (i:=8) sc.nd rfl oQ) (jA (jt (i:=9) sc.nd rfl oQ) j9))) (ji (jK (kb PySem.F.plainAttrs_list PySem.F.slot_list_append PySem.F.type_list_append jQ (zpv 5) (ja (jy (ja (jj jq (zpv 1) je (fun _ _=>rfl)) (ja jo (ja (jy jd) (ja (zpv 8) (ja (kJ kR (by rfl) B.list_ yi (ja (zpv 4) jd)) (ja (zpv 9) jd))))))) jd)))))
   (ji (jw (zpv 5))))))))),?_⟩
 refine jR (σ':=[some (.ref hd),some v,some (.ref b),none,none,none,none,none,none,none]) rfl ?_
 obtain ⟨a,ap,ar,an,ag,ab,vn,vg,vb,rfl,ha,hap,har,han,hn,hag,hg,hab,hbb⟩:=yX hv
 refine ⟨_,rfl,_,rfl,a,_,rfl,SqT.of ha,(fun h=>absurd h.1 (by show ¬ (HT.sIx 7 0 (some 4)=0);decide)),fun t ht=>?_⟩
 have s1:=jf ht (.tup (ki [.str "proc",.str p.f,.ref ap,.ref ar,.ref an,.ref ag,.ref ab] (some 4) none))
 have e1:upd H t (.tup (ki [.str "proc",.str p.f,.ref ap,.ref ar,.ref an,.ref ag,.ref ab] (some 4) none)) t=some (.tup [.ref an,.ref ag,.ref ab]):=jb
 generalize upd H t (.tup (ki [.str "proc",.str p.f,.ref ap,.ref ar,.ref an,.ref ag,.ref ab] (some 4) none))=H1 at *
 have hpt:HeldL H1 p.part [.ref an,.ref ag,.ref ab]:=jc (jp (s1 _ _ han) (hn.mono s1)) (jc (jp (s1 _ _ hag) (hg.mono s1)) (jc (jp (s1 _ _ hab) (hbb.mono s1)) jl))
 have hpl:=jc2 O.fit.ok O.fit.bd
 refine ⟨_,rfl,t,b,_,p.part,pool,rfl,e1,hpt,jc3 p,s1 _ _ hb,by omega,fun l1 H2 s2 n2 e2=>?_⟩
 have hmem:=O.mem
 have husub:∀ x∈yB pool (lvL p.part),x∈pool:=fun x hx=>of_decide_eq_true (List.mem_filter.mp hx).2
 have hul:=JC pool (lvL p.part)
 generalize yB pool (lvL p.part)=us at *
 refine ⟨sm rfl,fun l2 hl2=>?_⟩
 have s3:=jf hl2 (.lst [V.str "out"])
 have e3:upd H2 l2 (.lst [V.str "out"]) l2=some (.lst [V.str "out"]):=jb
 generalize upd H2 l2 (.lst [V.str "out"])=H3 at *
 refine ⟨l1,l2,_,_,rfl,rfl,s3 _ _ e2,e3,Nat.le_trans (by rw [List.length_map];exact Nat.le_trans (Nat.add_le_add_right hul 1) (by show _≤1000;omega)) (ka (Nat.le_refl 1000)),fun l3 hl3=>?_⟩
 rw [show us.map V.str++[V.str "out"]=(us++[("out" : Str)]).map V.str by rw [List.map_append];rfl]
 have s4:=jf hl3 (.lst ((us++[("out" : Str)]).map V.str))
 have e4:upd H3 l3 (.lst ((us++[("out" : Str)]).map V.str)) l3=some (.lst ((us++[("out" : Str)]).map V.str)):=jb
 generalize upd H3 l3 (.lst ((us++[("out" : Str)]).map V.str))=H4 at *
 refine ⟨l3,us++[("out" : Str)],rfl,SqL.of e4,by rw [List.length_append];show us.length+1≤1000;omega,fun vS hvS=>?_⟩
 obtain ⟨d1,_,d2⟩:=qz (us++[("out" : Str)])
 generalize dedupS (us++[("out" : Str)])=τ at *
 have hτ:∀ x,x∈τ↔x∈p.others∨x = "out":=fun x=>by rw [d2,List.mem_append,hmem,List.mem_singleton]
 have ln:=O.pl
 have lτ:τ.length≤11:=Nat.le_trans (yt (m:=pool++[("out" : Str)]) d1 fun x hx=>by
  rcases (hτ x).mp hx with g | g
  ·exact List.mem_append.mpr (.inl (husub x ((hmem x).mpr g)))
  ·rw [g];exact List.mem_append.mpr (.inr (List.mem_singleton.mpr rfl))) (by rw [List.length_append];show pool.length+1≤11;omega)
 have s5:=jf hvS (kf P w vS τ)
 have e5:upd H4 vS (kf P w vS τ) vS=some (kf P w vS τ):=jb
 generalize upd H4 vS (kf P w vS τ)=H5 at *
 refine ⟨vS,τ,rfl,e5,by omega,fun l4 us' hl4 pm so=>?_⟩
 have up:=KB so (pm.nodup_iff.mpr d1)
 have lu':us'.length≤11:=by rw [pm.length_eq];exact lτ
 have hew:=jcc hns up fun x=>by rw [pm.mem_iff,hτ]
 have s6:=jf hl4 (.lst (us'.map V.str))
 have e6:upd H5 l4 (.lst (us'.map V.str)) l4=some (.lst (us'.map V.str)):=jb
 generalize upd H5 l4 (.lst (us'.map V.str))=H6 at *
 have s16:=s1.trans (s2.trans (s3.trans (s4.trans (s5.trans s6))))
 refine gQ ?_
 refine ⟨_,rfl,l4,rfl,⟨_,SqL.of e6⟩,fun pp hpp=>?_⟩
 refine qP (xs:=us'.map V.str) (fun i σ' G=>∃ u ks,σ'=[u,some (.ref a)]∧Same H6 G∧G pp=some (.lst ks)∧HeldL G (((us'.take i).filter fun x=>!decide (x∈p.ps)).map zv) ks) ⟨none,[],rfl,jf hpp _,jb,jl⟩ ?_ ?_ ?_
 ·rintro i σ' G _ ⟨u,ks,rfl,sG,_⟩
  exact SqL.of (sG _ _ e6)
 ·rintro i x σ' G hx ⟨u,ks,rfl,sG,hG,hk⟩
  have hi:i < us'.length:=by
   have:=(List.getElem?_eq_some_iff.mp hx).1
   rw [List.length_map] at this
   exact this
  rw [List.getElem?_map,List.getElem?_eq_getElem hi] at hx
  cases hx
  have et:=jdI (fun x=>!decide (x∈p.ps)) hi
  have hkl:=hk.length
  rw [List.length_map] at hkl
  have hfl:=List.length_filter_le (fun x=>!decide (x∈p.ps)) (us'.take i)
  rw [List.length_take] at hfl
  have s0G:=s16.trans sG
  unfold kX
  refine ⟨_,rfl,_,rfl,a,_,_,_,rfl,rfl,SqT.of (s0G _ _ ha),rfl,ap,p.ps.map V.str,rfl,.inr (SqT.of (s0G _ _ hap)),rfl,qf _,_,rfl,j3 (fun d2=>?_) (fun d2=>?_)⟩
  ·have d2':(!inV (.str us'[i]) (p.ps.map V.str))=true:=d2
   rw [kz] at d2'
   refine ⟨_,rfl,sm rfl,fun t1 ht1=>?_⟩
   have x1:=jf ht1 (.tup [V.str "is",.str ""])
   have y1:upd G t1 (.tup [V.str "is",.str ""]) t1=some (.tup [V.str "is",.str ""]):=jb
   generalize upd G t1 (.tup [V.str "is",.str ""])=G1 at *
   refine ⟨sm rfl,fun t2 ht2=>?_⟩
   have x2:=jf ht2 (.tup [V.str "set",.str us'[i],.ref t1,.int 0])
   have y2:upd G1 t2 (.tup [V.str "set",.str us'[i],.ref t1,.int 0]) t2=some (.tup [V.str "set",.str us'[i],.ref t1,.int 0]):=jb
   generalize upd G1 t2 (.tup [V.str "set",.str us'[i],.ref t1,.int 0])=G2 at *
   have s3:=x1.trans x2
   have hG2:=s3 _ _ hG
   have hz:Held G2 (zv us'[i]) (.ref t2):=jp y2 (jc jk (jc jk (jc (jp (x2 _ _ y1) (jc jk (jc jk jl))) (jc jU jl))))
   have tk:TK G2 (upd G2 pp (.lst (ks++[.ref t2]))):=TK.upd hG2 (fun _ z=>by cases z)
   refine ⟨ks,hG2,jv (by omega),_,_,rfl,fun b o e=>?_,jb,?_⟩
   ·rw [jr (jn e hpp)];exact s3 _ _ (sG _ _ e)
   ·rw [et,if_pos d2',List.map_append]
    exact jE (tk.heldL (hk.mono s3)) (jc (tk.held hz) jl)
  ·have d2':¬ (!inV (.str us'[i]) (p.ps.map V.str))=true:=d2
   rw [kz] at d2'
   exact ⟨_,ks,rfl,sG,hG,by rw [et,if_neg d2',List.append_nil];exact hk⟩
 rintro σ' G ⟨u,ks,rfl,sG,hG,hk⟩
 rw [List.length_map,List.take_length,hew] at hk
 have hkl:=hk.length
 rw [List.length_map] at hkl
 have hfl:=List.length_filter_le (fun x=>!decide (x∈p.ps)) ns
 have hn15:=hns.few
 have s0G:=s16.trans sG
 have hpp0:H pp=none:=s16.free hpp
 clear e6 e5 e4 e3 e2
 refine gQ ?_
 refine ⟨_,rfl,_,rfl,a,_,_,_,rfl,rfl,SqT.of (s0G _ _ ha),rfl,an,rfl,⟨_,SqT.of (s0G _ _ han)⟩,fun l5 hl5=>?_⟩
 have hnl:=hn.length
 rw [List.length_map] at hnl
 have hnd3:=O.fit.ok.nd
 have hgv3:=O.fit.ok.gv
 have hbd30:=O.bd12
 refine zT (xs:=vn) (fun i σ' G'=>∃ u ks',σ'=[u]∧Same G G'∧G' l5=some (.lst ks')∧HeldL G' ((p.nd.take i).map yo) ks') ⟨none,[],rfl,jf hl5 _,jb,jl⟩ ?_ ?_ ?_
 ·rintro i σ' G' _ ⟨u,ks',rfl,sG',_⟩
  exact SqT.of (sG' _ _ (s0G _ _ han))
 ·rintro i x σ' G' hx ⟨u,ks',rfl,sG',hG',hk'⟩
  have hi:i < p.nd.length:=by have:=(List.getElem?_eq_some_iff.mp hx).1;omega
  obtain ⟨x',hx',hxH⟩:=hn.get (show (p.nd.map Cl.toD)[i]?=some p.nd[i].toD by rw [List.getElem?_map,List.getElem?_eq_getElem hi];rfl)
  rw [hx] at hx'
  cases hx'
  have hkl:=hk'.length
  rw [List.length_map,List.length_take] at hkl
  unfold kX JD
  refine zy ?_
  refine ⟨_,rfl,sm rfl,fun t ht=>?_⟩
  have s2:=jf ht (.tup [V.str "know",x])
  have e2:upd G' t (.tup [V.str "know",x]) t=some (.tup [V.str "know",x]):=jb
  generalize upd G' t (.tup [V.str "know",x])=G2 at *
  have hG2:=s2 _ _ hG'
  have tk:TK G2 (upd G2 l5 (.lst (ks'++[.ref t]))):=TK.upd hG2 (fun _ z=>by cases z)
  refine ⟨ks',hG2,jv (by omega),_,_,rfl,fun b o e=>?_,jb,?_⟩
  ·rw [jr (jn e hl5)];exact s2 _ _ (sG' _ _ e)
  ·rw [show p.nd.take (i+1)=p.nd.take i++[p.nd[i]] by rw [List.take_succ,List.getElem?_eq_getElem hi];rfl,List.map_append]
   exact jE (tk.heldL (hk'.mono s2)) (jc (tk.held (Jb (d:=.str "know") (e:=p.nd[i].toD) e2 jk (hxH.mono (s0G.trans (sG'.trans s2))))) jl)
 rintro σ' G' ⟨u',ks',rfl,sG',hG',hk'⟩
 rw [show p.nd.take vn.length=p.nd by rw [← hnl,List.take_length]] at hk'
 have hkl':=hk'.length
 rw [List.length_map] at hkl'
 refine ⟨pp,l5,ks,ks',rfl,rfl,sG' _ _ hG,hG',Nat.le_trans (by omega) (ka (Nat.le_refl 1000)),fun wy hwy=>?_⟩
 have s7:=jf hwy (.lst (ks++ks'))
 have e7:upd G' wy (.lst (ks++ks')) wy=some (.lst (ks++ks')):=jb
 have hway:HeldL (upd G' wy (.lst (ks++ks'))) (p.wayD ns) (ks++ks'):=jE (hk.mono (sG'.trans s7)) (hk'.mono s7)
 have lway:(ks++ks').length≤35:=by rw [List.length_append];omega
 generalize ks++ks'=us0 at *
 generalize upd G' wy (.lst us0)=H7 at *
 have s07:=s0G.trans (sG'.trans s7)
 have hwy0:H wy=none:=s0G.free (sG'.free hwy)
 refine gQ ?_
 refine ⟨sm rfl,fun l hl=>?_⟩
 have s8:=jf hl (.lst [])
 have e8:upd H7 l (.lst []) l=some (.lst []):=jb
 generalize upd H7 l (.lst [])=H8 at *
 have s08:=s07.trans s8
 have hl0:H l=none:=s07.free hl
 have nwl:wy≠l:=fun z=>by rw [z] at e7;rw [e7] at hl;cases hl
 have hbl:=hbb.length
 rw [List.length_map] at hbl
 refine gQ ?_
 refine ⟨_,rfl,a,_,_,_,rfl,rfl,SqT.of (s08 _ _ ha),rfl,ab,rfl,⟨_,SqT.of (s08 _ _ hab)⟩,?_⟩
 have hhdw:hd≠wy:=fun z=>by rw [z,hwy0] at hhd;cases hhd
 have hhdl:hd≠l:=fun z=>by rw [z,hl0] at hhd;cases hhd
 have hlw0:=hway.length
 refine zd (xs:=vb) (fun i σ G=>∃ u5 u6 ms wls us cur,σ=[some (.ref hd),some (.ref a),some (.ref b),some (.ref l4),some (.ref wy),some (.ref l),u5,u6,none,none]∧Same H G∧G wy=some (.lst us)∧(goW p.f pr [] 0 [p.wayD ns] (p.bd.take i)).2=[cur]∧HeldL G cur us∧G l=some (.lst ms)∧DutsAt G (goW p.f pr [] 0 [p.wayD ns] (p.bd.take i)).1 ms wls∧l ∉ wls∧wy ∉ wls) ⟨none,none,[],[],us0,p.wayD ns,rfl,s08,s8 _ _ e7,by rw [List.take_zero];rfl,hway.mono s8,e8,by rw [List.take_zero];trivial,List.not_mem_nil,List.not_mem_nil⟩ ?_ ?_ ?_
 ·rintro i σ G _ ⟨u5,u6,ms,wls,us,cur,rfl,sG,_⟩
  exact SqT.of (sG _ _ hab)
 ·rintro i y σ G t hy ⟨u5,u6,ms,wls,us,cur,rfl,sG,hGw,hcur,hway,hGl,hD,nl,nw⟩ ht
  have hi:i < p.bd.length:=by have:=(List.getElem?_eq_some_iff.mp hy).1;omega
  obtain ⟨y',hy',hyH⟩:=hbb.get (show (p.bd.map Sm.toD)[i]?=some p.bd[i].toD by rw [List.getElem?_map,List.getElem?_eq_getElem hi];rfl)
  rw [hy] at hy'
  cases hy'
  have hft:∀ S∈p.bd.take i,S.fit gs pr∧S.few:=fun S hS=>⟨O.fit.fit S (List.mem_of_mem_take hS),O.fit.ok.sm S (List.mem_of_mem_take hS)⟩
  have etk:p.bd.take (i+1)=p.bd.take i++[p.bd[i]]:=by rw [List.take_succ,List.getElem?_eq_getElem hi];rfl
  have ldu:=hD.len
  have lgo:=zc (f:=p.f) (ar:=[]) (k:=0) (ways:=[p.wayD ns]) hft
  have lgw:=YF (f:=p.f) (ar:=[]) (k:=0) (ways:=[p.wayD ns]) (n:=35) hft (fun w hw'=>by rw [List.mem_singleton.mp hw'];omega) cur (by rw [hcur];exact List.mem_singleton.mpr rfl)
  rw [List.length_take,Nat.min_eq_left (Nat.le_of_lt hi)] at lgo lgw
  rw [show [p.wayD ns].length=1 from rfl] at lgo
  have lcu:=hway.length
  have esn:=J6 p.f pr [] p.bd[i] 0 [p.wayD ns] (p.bd.take i)
  rw [List.length_take,Nat.min_eq_left (Nat.le_of_lt hi),Nat.zero_add,hcur] at esn
  rw [etk,esn]
  have hsi:=O.sm _ (List.getElem_mem hi)
  have hfi:=O.fit.fit _ (List.getElem_mem hi)
  have hfw:=O.fit.ok.sm _ (List.getElem_mem hi)
  generalize (goW p.f pr [] 0 [p.wayD ns] (p.bd.take i)).1=ds at *
  generalize p.bd[i]=S at *
  have s1:=jf ht (.tup [V.int i,y])
  have e1:upd G t (.tup [V.int i,y]) t=some (.tup [V.int i,y]):=jb
  generalize upd G t (.tup [V.int i,y])=G1 at *
  refine ⟨t,_,rfl,SqT.of e1,rfl,_,_,rfl,_,_,rfl,rfl,?_⟩
  refine jR (σ':=[some (.ref hd),some (.ref a),some (.ref b),some (.ref l4),some (.ref wy),some (.ref l),some (.int i),some y,none,none]) rfl ?_
  have s01:=sG.trans s1
  have G1l:=s1 _ _ hGl
  have G1w:=s1 _ _ hGw
  cases hsi with
  | @claim C hC=>
   obtain ⟨ay,uC,rfl,hay,hCu⟩:=zf hyH
   refine ⟨_,rfl,ay,_,_,_,rfl,rfl,SqT.of (s01 _ _ hay),rfl,rfl,_,rfl,zy ?_⟩
   refine ⟨_,rfl,.inl ⟨rfl,_,SqL.of G1l⟩,?_⟩
   refine ⟨_,rfl,a,_,_,_,rfl,rfl,SqT.of (s01 _ _ ha),rfl,?_⟩
   refine ⟨_,rfl,sm rfl,fun t1 ht1=>?_⟩
   have s2:=jf ht1 (.tup [V.int i])
   have e2:upd G1 t1 (.tup [V.int i]) t1=some (.tup [V.int i]):=jb
   generalize upd G1 t1 (.tup [V.int i])=G2 at *
   refine ⟨_,rfl,wy,us,rfl,.inl (SqL.of (s2 _ _ G1w)),fun nw' hnw=>?_⟩
   have s3:=jf hnw (.lst us)
   have e3:upd G2 nw' (.lst us) nw'=some (.lst us):=jb
   have n1:nw'≠wy:=fun z=>by have:=s2 _ _ G1w;rw [← z,hnw] at this;cases this
   have n2:nw'≠l:=fun z=>by have:=s2 _ _ G1l;rw [← z,hnw] at this;cases this
   generalize upd G2 nw' (.lst us)=G3 at *
   have s03:=s01.trans (s2.trans s3)
   refine ⟨_,rfl,ay,_,_,_,rfl,rfl,SqT.of (s03 _ _ hay),rfl,sm rfl,fun t2 ht2=>?_⟩
   have s4:=jf ht2 (.tup [V.str p.f,.str "claim",.ref t1,.int 0,.ref nw',uC])
   have e4:upd G3 t2 (.tup [V.str p.f,.str "claim",.ref t1,.int 0,.ref nw',uC]) t2=some (.tup [V.str p.f,.str "claim",.ref t1,.int 0,.ref nw',uC]):=jb
   generalize upd G3 t2 (.tup [V.str p.f,.str "claim",.ref t1,.int 0,.ref nw',uC])=G4 at *
   have s14:=s1.trans (s2.trans (s3.trans s4))
   have s04:=sG.trans s14
   have G4l:=s14 _ _ hGl
   refine ⟨l,_,_,rfl,rfl,G4l,jv (by omega),?_⟩
   have k5:∀ b o,b≠l→G4 b=some o→upd G4 l (.lst (ms++[.ref t2])) b=some o:=fun b o hb e=>by rw [jr hb];exact e
   refine ⟨_,_,ms++[.ref t2],wls++[nw'],us,cur,rfl,fun b o e=>k5 b o (jn e hl0) (s04 _ _ e),k5 _ _ nwl (s14 _ _ hGw),rfl,(j5 k5 G4l).heldL (hway.mono s14),jb,?_,?_,?_⟩
   ·refine DutsAt.app (DutsAt.keep k5 G4l (hD.mono s14) nl) ⟨?_,trivial⟩
    refine DuAt.keep k5 G4l ?_ n2
    exact ⟨t2,t1,us,uC,rfl,e4,s4 _ _ (s3 _ _ e2),s4 _ _ e3,hway.mono s14,hCu.mono s04⟩
   ·intro z
    rcases List.mem_append.mp z with z | z
    ·exact nl z
    ·exact n2 (List.mem_singleton.mp z).symm
   ·intro z
    rcases List.mem_append.mp z with z | z
    ·exact nw z
    ·exact n1 (List.mem_singleton.mp z).symm
  | @call x g as rs hC=>
   obtain ⟨ay,b1,b2,rfl,hay,_⟩:=zV hyH
   refine ⟨_,rfl,ay,_,_,_,rfl,rfl,SqT.of (s01 _ _ hay),rfl,rfl,_,rfl,qH ?_⟩
   refine ⟨_,rfl,ay,_,_,_,rfl,rfl,SqT.of (s01 _ _ hay),rfl,rfl,_,rfl,zy ?_⟩
   have hgc:NoClash g∧CalOk g.f g∧pr g.f=g:=by
    rcases hC.ep with rfl | rfl
    ·exact O.c0
    ·exact O.c1
   obtain ⟨hnc,hco,hpg⟩:=hgc
   refine ⟨_,rfl,_,rfl,a,_,_,_,rfl,rfl,SqT.of (s01 _ _ ha),rfl,_,rfl,_,rfl,_,rfl,_,rfl,hd,wy,l,_,v0,v1,p.f,i,p0,p1,g,x,as,rs,us,ms,cur,ds,wls,rfl,s01 _ _ hhd,hv0.mono s01,hv1.mono s01,hhdw,hhdl,O.ne,hC.ep,hnc,hco.rs,hyH.mono s01,hC.la,hC.lr,hco.psl,hco.rsl,hco.nd,hco.gv,hco.gl,hco.yl,G1w,hway.mono s1,by omega,G1l,hD.mono s1,by omega,nwl,nw,nl,fun us' ms' wls' G2 k2 hw2 hW2 hl2 hD2 nw2 nl2=>?_⟩
   refine ⟨_,_,ms',wls',us',_,rfl,fun b o e=>k2 b o (jn e hwy0) (jn e hl0) (s01 _ _ e),hw2,?_,hW2,hl2,?_,nl2,nw2⟩
   ·show ([cur].map (·++jJ g.f (pr g.f).ps as)).map (·++zJ g.f (pr g.f) rs x)=_
    rw [hpg];rfl
   ·show DutsAt G2 (ds++kS p.f "need" ([]++[(i:Int)]) ([cur].map (·++jJ g.f (pr g.f).ps as)) ((pr g.f).nd.map (Cl.say (qv g.f (pr g.f) rs)))) ms' wls'
    rw [hpg,List.map_cons,List.map_nil,jds]
    exact hD2
  | @set x t' c hx hT=>
   obtain ⟨ay,u',rfl,hay,_⟩:=Yh hyH
   refine ⟨_,rfl,ay,_,_,_,rfl,rfl,SqT.of (s01 _ _ hay),rfl,rfl,_,rfl,qH ?_⟩
   refine ⟨_,rfl,ay,_,_,_,rfl,rfl,SqT.of (s01 _ _ hay),rfl,rfl,_,rfl,qH ?_⟩
   refine ⟨_,rfl,.inl ⟨rfl,_,SqL.of G1w⟩,_,rfl,wy,_,_,rfl,rfl,G1w,jv (by omega),?_⟩
   have k5:∀ b o,b≠wy→G1 b=some o→upd G1 wy (.lst (us++[.ref ay])) b=some o:=fun b o hb e=>by rw [jr hb];exact e
   refine ⟨_,_,ms,wls,us++[.ref ay],_,rfl,fun b o e=>k5 b o (jn e hwy0) (s01 _ _ e),jb,rfl,jE ((j5 k5 G1w).heldL (hway.mono s1)) (jW ((j5 k5 G1w).held (hyH.mono s01))),k5 _ _ (Ne.symm nwl) G1l,?_,nl,nw⟩
   show DutsAt _ (ds++[]) ms wls
   rw [List.append_nil]
   exact DutsAt.keep k5 G1w (hD.mono s1) nw
  | @put r x d c hr' hx=>
   obtain ⟨ay,b1,u',rfl,hay,_⟩:=Yo hyH
   refine ⟨_,rfl,ay,_,_,_,rfl,rfl,SqT.of (s01 _ _ hay),rfl,rfl,_,rfl,qH ?_⟩
   refine ⟨_,rfl,ay,_,_,_,rfl,rfl,SqT.of (s01 _ _ hay),rfl,rfl,_,rfl,qH ?_⟩
   refine ⟨_,rfl,.inl ⟨rfl,_,SqL.of G1w⟩,_,rfl,wy,_,_,rfl,rfl,G1w,jv (by omega),?_⟩
   have k5:∀ b o,b≠wy→G1 b=some o→upd G1 wy (.lst (us++[.ref ay])) b=some o:=fun b o hb e=>by rw [jr hb];exact e
   refine ⟨_,_,ms,wls,us++[.ref ay],_,rfl,fun b o e=>k5 b o (jn e hwy0) (s01 _ _ e),jb,rfl,jE ((j5 k5 G1w).heldL (hway.mono s1)) (jW ((j5 k5 G1w).held (hyH.mono s01))),k5 _ _ (Ne.symm nwl) G1l,?_,nl,nw⟩
   show DutsAt _ (ds++[]) ms wls
   rw [List.append_nil]
   exact DutsAt.keep k5 G1w (hD.mono s1) nw
 rintro σ G ⟨u5,u6,ms,wls,us,cur,rfl,sG,hGw,hcur,hway,hGl,hD,nl,nw⟩
 rw [← hbl,List.take_length] at hcur hD
 have ldu:=hD.len
 have lgo:=zc (f:=p.f) (ar:=[]) (k:=0) (ways:=[p.wayD ns]) (gs:=gs) (pr:=pr) (l:=p.bd) fun S hS=>⟨O.fit.fit S hS,O.fit.ok.sm S hS⟩
 rw [show [p.wayD ns].length=1 from rfl] at lgo
 have hgl:=hg.length
 rw [List.length_map] at hgl
 refine ⟨_,rfl,a,_,_,_,rfl,rfl,SqT.of (sG _ _ ha),rfl,ag,rfl,⟨_,SqT.of (sG _ _ hag)⟩,?_⟩
 refine zd (xs:=vg) (fun i σ G'=>∃ u7 u8 ms' wls',σ=[some (.ref hd),some (.ref a),some (.ref b),some (.ref l4),some (.ref wy),some (.ref l),u5,u6,u7,u8]∧Same H G'∧G' wy=some (.lst us)∧HeldL G' cur us∧G' l=some (.lst (ms++ms'))∧DutsAt G' ((goW p.f pr [] 0 [p.wayD ns] p.bd).1++zF p.f "give" [] cur (p.gv.take i)) (ms++ms') wls'∧l ∉ wls') ⟨none,none,[],wls,rfl,sG,hGw,hway,by rw [List.append_nil];exact hGl,by rw [List.take_zero,List.append_nil,show zF p.f "give" [] cur []=[] from rfl,List.append_nil];exact hD,nl⟩ ?_ ?_ ?_
 ·rintro i σ G' _ ⟨u7,u8,ms',wls',rfl,sG',_⟩
  exact SqT.of (sG' _ _ hag)
 ·clear hGw hway hGl hD sG
  rintro i y σ G t hy ⟨u7,u8,ms',wls',rfl,sG,hGw,hway,hGl,hD,nl⟩ ht
  have hi:i < p.gv.length:=by have:=(List.getElem?_eq_some_iff.mp hy).1;omega
  obtain ⟨y',hy',hyH⟩:=hg.get (show (p.gv.map Cl.toD)[i]?=some p.gv[i].toD by rw [List.getElem?_map,List.getElem?_eq_getElem hi];rfl)
  rw [hy] at hy'
  cases hy'
  have s1:=jf ht (.tup [V.int i,y])
  have e1:upd G t (.tup [V.int i,y]) t=some (.tup [V.int i,y]):=jb
  generalize upd G t (.tup [V.int i,y])=G1 at *
  refine ⟨t,_,rfl,SqT.of e1,rfl,_,_,rfl,_,_,rfl,rfl,?_⟩
  refine jR (σ':=[some (.ref hd),some (.ref a),some (.ref b),some (.ref l4),some (.ref wy),some (.ref l),u5,u6,some (.int i),some y]) rfl ?_
  have s01:=sG.trans s1
  have G1l:=s1 _ _ hGl
  have G1w:=s1 _ _ hGw
  have ldu2:=hD.len
  rw [List.length_append,List.length_append,Zf,List.length_take] at ldu2
  refine ⟨_,rfl,.inl ⟨rfl,_,SqL.of G1l⟩,?_⟩
  refine ⟨_,rfl,a,_,_,_,rfl,rfl,SqT.of (s01 _ _ ha),rfl,?_⟩
  refine ⟨sm rfl,fun t1 ht1=>?_⟩
  have s2:=jf ht1 (.tup [])
  have e2:upd G1 t1 (.tup []) t1=some (.tup []):=jb
  generalize upd G1 t1 (.tup [])=G2 at *
  refine ⟨_,rfl,_,rfl,wy,us,rfl,.inl (SqL.of (s2 _ _ G1w)),fun nw' hnw=>?_⟩
  have s3:=jf hnw (.lst us)
  have e3:upd G2 nw' (.lst us) nw'=some (.lst us):=jb
  have n2:nw'≠l:=fun z=>by have:=s2 _ _ G1l;rw [← z,hnw] at this;cases this
  generalize upd G2 nw' (.lst us)=G3 at *
  refine ⟨_,rfl,sm rfl,fun t2 ht2=>?_⟩
  have s4:=jf ht2 (.tup [V.str p.f,.str "give",.ref t1,.int i,.ref nw',y])
  have e4:upd G3 t2 (.tup [V.str p.f,.str "give",.ref t1,.int i,.ref nw',y]) t2=some (.tup [V.str p.f,.str "give",.ref t1,.int i,.ref nw',y]):=jb
  generalize upd G3 t2 (.tup [V.str p.f,.str "give",.ref t1,.int i,.ref nw',y])=G4 at *
  have s14:=s1.trans (s2.trans (s3.trans s4))
  have s04:=sG.trans s14
  have G4l:=s14 _ _ hGl
  refine ⟨l,_,_,rfl,rfl,G4l,jv (by rw [List.length_append];omega),?_⟩
  have k5:∀ b o,b≠l→G4 b=some o→upd G4 l (.lst (ms++ms'++[.ref t2])) b=some o:=fun b o hb e=>by rw [jr hb];exact e
  refine ⟨_,_,ms'++[.ref t2],wls'++[nw'],rfl,fun b o e=>k5 b o (jn e hl0) (s04 _ _ e),k5 _ _ nwl (s14 _ _ hGw),(j5 k5 G4l).heldL (hway.mono s14),by rw [jb,List.append_assoc],?_,?_⟩
  ·rw [yd _ _ _ _ hi,← List.append_assoc,← List.append_assoc]
   refine DutsAt.app (DutsAt.keep k5 G4l (hD.mono s14) nl) ⟨?_,trivial⟩
   refine DuAt.keep k5 G4l ?_ n2
   exact ⟨t2,t1,us,y,rfl,e4,s4 _ _ (s3 _ _ e2),s4 _ _ e3,hway.mono s14,hyH.mono s04⟩
  ·intro z
   rcases List.mem_append.mp z with z | z
   ·exact nl z
   ·exact n2 (List.mem_singleton.mp z).symm
 rintro σ G' ⟨u7,u8,ms',wls',rfl,sG',hGw',hway',hGl',hD',nl'⟩
 rw [← hgl,List.take_length] at hD'
 refine ⟨_,rfl,q l (ms++ms') wls' G' sG' hGl' ?_⟩
 unfold Pc.dus
 rw [hcur,jds]
 exact hD'
end
end LW
namespace L2
open PySem PySem.Spec PyProof.Rows
theorem LikeV.tup {K:W.Frag} {H:Hp} {n:Nat} {a b:Addr} {xs ys:List V} (ha:H a=some (.tup xs)) (hb:H b=some (.tup ys)) (hl:xs.length=ys.length) (h:∀ (j:Nat) x' y',xs[j]?=some x'→ys[j]?=some y'→LikeV K H n x' y'):LikeV K H (n+1) (.ref a) (.ref b):=.inr (.inl ⟨a,b,xs,ys,rfl,rfl,SqT.of ha,SqT.of hb,hl,h⟩)
theorem LikeV.lst {K:W.Frag} {H:Hp} {n:Nat} {a b:Addr} {xs ys:List V} (ha:H a=some (.lst xs)) (hb:H b=some (.lst ys)) (hl:xs.length=ys.length) (h:∀ (j:Nat) x' y',xs[j]?=some x'→ys[j]?=some y'→LikeV K H n x' y'):LikeV K H (n+1) (.ref a) (.ref b):=.inr (.inr ⟨a,b,xs,ys,rfl,rfl,SqL.of ha,SqL.of hb,hl,h⟩)
def LikeL (K:W.Frag) (H:Hp) (n:Nat) (xs ys:List V):Prop:=xs.length=ys.length∧∀ (j:Nat) x' y',xs[j]?=some x'→ys[j]?=some y'→LikeV K H n x' y'
theorem LikeL.nil {K:W.Frag} {H:Hp} {n:Nat}:LikeL K H n [] []:=⟨rfl,fun j x y h _=>by simp at h⟩
theorem LikeL.cons {K:W.Frag} {H:Hp} {n:Nat} {x y:V} {xs ys:List V} (h:LikeV K H n x y) (t:LikeL K H n xs ys):LikeL K H n (x :: xs) (y :: ys):=⟨by rw [List.length_cons,List.length_cons,t.1],fun j x' y' e1 e2=>by
 cases j with
 | zero=>simp at e1 e2;subst e1 e2;exact h
 | succ j=>exact t.2 j x' y' (by simpa using e1) (by simpa using e2)⟩
mutual
theorem KU {K:W.Frag} {H:Hp}:∀ {n:Nat} {d:D} {x y:V},d.depth≤n→Held H d x→Held H d y→LikeV K H n x y
 | n,.int i,x,y,_,h,h'=>by unfold Held at h h';subst h h';exact yM _ _
 | n,.str i,x,y,_,h,h'=>by unfold Held at h h';subst h h';exact yL _ _
 | n,.tup ds,x,y,hn,h,h'=>by
  unfold Held at h h'
  obtain ⟨a,xs,rfl,ha,h1⟩:=h
  obtain ⟨b,ys,rfl,hb,h2⟩:=h'
  unfold D.depth at hn
  cases n with
  | zero=>omega
  | succ n=>
   have hl:=heldL_like (K:=K) (n:=n) (by omega) h1 h2
   exact LikeV.tup ha hb hl.1 hl.2
theorem heldL_like {K:W.Frag} {H:Hp}:∀ {n:Nat} {ds:List D} {xs ys:List V},D.depthL ds≤n→HeldL H ds xs→HeldL H ds ys→LikeL K H n xs ys
 | n,[],xs,ys,_,h,h'=>by unfold HeldL at h h';subst h h';exact .nil
 | n,d :: ds,xs,ys,hn,h,h'=>by
  unfold HeldL at h h'
  obtain ⟨v,r,rfl,e1,e2⟩:=h
  obtain ⟨v',r',rfl,e1',e2'⟩:=h'
  unfold D.depthL at hn
  exact .cons (KU (by omega) e1 e1') (heldL_like (by omega) e2 e2')
end
section
variable {X:Cx}
theorem jeE (n:Nat) (hu:X.A.units+1+n < cLine):OpR X (compareOp .Eq) (fun x y H Q=>∃ a b xs ys,x=.ref a∧y=.ref b∧SqL X.K H a xs∧SqL X.K H b ys∧LikeL X.K H n xs ys∧Q (.bl true) H):=by
 intro pins s σ H x y v u Q I rx ry h
 obtain ⟨a,b,xs,ys,rfl,rfl,ha,hb,⟨hl,hj⟩,q⟩:=h
 cases rx;cases ry
 obtain ⟨its,rva,ta,_⟩:=I.list ha
 obtain ⟨its2,rvb,tb,_⟩:=I.list hb
 have l3:=rva.length
 have l4:=rvb.length
 have key:=SeqAt.RcAt.lists (A:=X.A) (s:=s) (e:=fun _=>true) ta.isList tb.isList (by simp;omega) (by omega) (K9 hl rva rvb fun j x' y' u' v' e1 e2 r1 r2=>yg I n X.A.in1 x' y' u' v' (by show X.A.units+1+n < cLine;exact hu) (hj j x' y' e1 e2) r1 r2)
 have e:(List.range its.toArray.size).all (fun _=>true)=true:=by simp
 rw [e] at key
 exact key X.prog X.w X.xe _ ⟨.bl true,H,I,rfl,q⟩
end
end L2
namespace LW
open PySem L2
theorem Ka (x:Str) (d:Int):(plD x d).depth=1:=rfl
theorem kT (x:Str):(D.str x).depth=0:=rfl
theorem yx (x:Int):(D.int x).depth=0:=rfl
theorem qd (ds:List D):(D.tup ds).depth=D.depthL ds+1:=by first | rfl | (rw [D.depth]) | (rw [D.depth,Nat.add_comm])
theorem qe:D.depthL []=0:=rfl
theorem km (d:D) (ds:List D):D.depthL (d :: ds)=max d.depth (D.depthL ds):=by first | rfl | rw [D.depthL]
theorem ja0 (t:Tm):t.toD.depth≤2:=by
 cases t <;> unfold Tm.toD <;> simp only [qd,km,kT,Ka,qe] <;> omega
theorem jg1 (t:Bd):t.toD.depth≤2:=by
 cases t <;> unfold Bd.toD <;> simp only [qd,km,kT,Ka,qe] <;> omega
theorem jdN (C:Cl):C.toD.depth≤3:=by
 cases C with
 | least a b c=>have:=ja0 a;have:=ja0 b;unfold Cl.toD;simp only [qd,km,kT,Ka,qe,yx];omega
 | each t td u ud r way b c=>have:=jg1 b;unfold Cl.toD;simp only [qd,km,kT,Ka,qe,yx];omega
 | rise t td u ud r=>unfold Cl.toD;simp only [qd,km,kT,Ka,qe,yx];omega
theorem YH:∀ xs:List Str,D.depthL (xs.map D.str)=0
 | []=>rfl
 | x :: xs=>by rw [List.map_cons,km,kT,YH xs];rfl
theorem jg0 (S:Sm):S.toD.depth≤4:=by
 cases S with
 | set x t c=>have:=ja0 t;unfold Sm.toD;simp only [qd,km,kT,Ka,qe,yx];omega
 | put r x d t c=>have:=ja0 t;unfold Sm.toD;simp only [qd,km,kT,Ka,qe,yx];omega
 | any x=>unfold Sm.toD;simp only [qd,km,kT,qe];omega
 | claim C=>have:=jdN C;unfold Sm.toD;simp only [qd,km,kT,qe];omega
 | call x f as rs=>have:=YH as;have:=YH rs;unfold Sm.toD;simp only [qd,km,kT,qe];omega
theorem jdO {n:Nat}:∀ {l:List D},(∀ d∈l,d.depth≤n)→D.depthL l≤n
 | [],_=>Nat.zero_le _
 | d :: l,h=>by
  have h1:=h d List.mem_cons_self
  have h2:=jdO (l:=l) fun x hx=>h x (List.mem_cons_of_mem _ hx)
  rw [km]
  omega
def jbY (d:Du):Prop:=∀ x∈d.way,x.depth≤4
def WOk (ways:List (List D)):Prop:=∀ w∈ways,∀ x∈w,x.depth≤4
theorem WOk.app {ways:List (List D)} {r:List D} (h:WOk ways) (hr:∀ x∈r,x.depth≤4):WOk (ways.map (·++r)):=by
 intro w hw x hx
 obtain ⟨w',hw',rfl⟩:=List.mem_map.mp hw
 rcases List.mem_append.mp hx with hx | hx
 ·exact h w' hw' x hx
 ·exact hr x hx
theorem JU {f kind:Str} {path:List Int} {ways:List (List D)} {Cs:List Cl} (h:WOk ways):∀ d∈kS f kind path ways Cs,jbY d:=by
 intro d hd
 obtain ⟨w,hw,hd⟩:=List.mem_flatMap.mp hd
 obtain ⟨c,_,rfl⟩:=List.mem_map.mp hd
 exact h w hw
theorem Zk (C:Cl):(yo C).depth≤4:=by
 have:=jdN C
 unfold yo
 simp only [qd,km,kT,qe]
 omega
theorem J5 (g:Str) (ps as:List Str):∀ x∈jJ g ps as,x.depth≤4:=by
 intro x hx
 obtain ⟨q,_,rfl⟩:=List.mem_map.mp hx
 unfold jbn
 simp only [qd,km,kT,qe,yx]
 omega
theorem jco (g:Str) (p:Pc) (rows:List Str) (x0:Str):∀ x∈zJ g p rows x0,x.depth≤4:=by
 intro x hx
 rcases List.mem_append.mp hx with hx | hx
 ·rcases List.mem_append.mp hx with hx | hx
  ·obtain ⟨r,_,rfl⟩:=List.mem_map.mp hx
   unfold KL
   simp only [qd,km,kT,qe]
   omega
  ·rw [List.mem_singleton.mp hx]
   unfold jdZ
   simp only [qd,km,kT,qe]
   omega
 ·obtain ⟨C,_,rfl⟩:=List.mem_map.mp hx
  exact Zk C
theorem Yr (S:Sm):∀ x∈[S.toD],x.depth≤4:=fun x hx=>by rw [List.mem_singleton.mp hx];exact jg0 S
theorem jcg {f:Str} {pr:Str→Pc} {path:List Int} {ways:List (List D)} (S:Sm) (h:WOk ways):(∀ d∈(S.walk f pr path ways).1,jbY d)∧WOk (S.walk f pr path ways).2:=by
 cases S with
 | claim C=>exact ⟨JU h,h⟩
 | call x g as rows=>exact ⟨JU (h.app (J5 _ _ _)),(h.app (J5 _ _ _)).app (jco _ _ _ _)⟩
 | set x t c=>exact ⟨fun _ z=>(by cases z),h.app (Yr _)⟩
 | put r x d t c=>exact ⟨fun _ z=>(by cases z),h.app (Yr _)⟩
 | any x=>exact ⟨fun _ z=>(by cases z),h.app (Yr _)⟩
theorem jaY {f:Str} {pr:Str→Pc} {ar:List Int}:∀ (l:List Sm) (k:Nat) (ways:List (List D)),WOk ways→(∀ d∈(goW f pr ar k ways l).1,jbY d)∧WOk (goW f pr ar k ways l).2
 | [],k,ways,h=>⟨fun _ z=>(by cases z),h⟩
 | S :: l,k,ways,h=>by
  obtain ⟨h1,h2⟩:=jcg (f:=f) (pr:=pr) (path:=ar++[(k:Int)]) S h
  obtain ⟨h3,h4⟩:=jaY (f:=f) (pr:=pr) (ar:=ar) l (k+1) _ h2
  unfold goW
  refine ⟨fun d hd=>?_,h4⟩
  rcases List.mem_append.mp hd with hd | hd
  ·exact h1 d hd
  ·exact h3 d hd
theorem jd6 (p:Pc) (ns:List Str):WOk [p.wayD ns]:=by
 intro w hw x hx
 rw [List.mem_singleton.mp hw] at hx
 rcases List.mem_append.mp hx with hx | hx
 ·obtain ⟨y,_,rfl⟩:=List.mem_map.mp hx
  unfold zv
  simp only [qd,km,kT,qe,yx]
  omega
 ·obtain ⟨C,_,rfl⟩:=List.mem_map.mp hx
  exact Zk C
theorem jf6 (p:Pc) (pr:Str→Pc) (ns:List Str):∀ d∈p.dus pr ns,jbY d:=by
 obtain ⟨h1,h2⟩:=jaY (f:=p.f) (pr:=pr) (ar:=[]) p.bd 0 _ (jd6 p ns)
 intro d hd
 rcases List.mem_append.mp hd with hd | hd
 ·exact h1 d hd
 ·exact JU h2 d hd
theorem KS {K:W.Frag} {H:Hp} {n:Nat}:∀ l:List Int,LikeL K H n (l.map V.int) (l.map V.int)
 | []=>.nil
 | x :: l=>.cons (yM x n) (KS l)
theorem jeY {K:W.Frag} {H:Hp} {d:Du} {v v':V} {wl wl':Addr} (o:jbY d) (h:DuAt H d v wl) (h':DuAt H d v' wl'):LikeV K H 6 v v':=by
 obtain ⟨t,pt,us,gv,rfl,h1,h2,h3,h4,h5⟩:=h
 obtain ⟨t',pt',us',gv',rfl,h1',h2',h3',h4',h5'⟩:=h'
 have lw:=heldL_like (K:=K) (n:=4) (jdO o) h4 h4'
 have lp:=KS (K:=K) (H:=H) (n:=4) d.path
 have l:=LikeL.cons (K:=K) (H:=H) (yL d.f 5) (.cons (yL d.kind 5) (.cons (LikeV.tup h2 h2' lp.1 lp.2) (.cons (yM d.k 5) (.cons (LikeV.lst h3 h3' lw.1 lw.2) (.cons (KU (n:=5) (Nat.le_trans (jdN _) (by decide)) h5 h5') .nil)))))
 exact LikeV.tup h1 h1' l.1 l.2
theorem KZ {K:W.Frag} {H:Hp}:∀ {ds:List Du} {vs vs':List V} {wls wls':List Addr},(∀ d∈ds,jbY d)→DutsAt H ds vs wls→DutsAt H ds vs' wls'→LikeL K H 6 vs vs'
 | [],[],[],[],[],_,_,_=>.nil
 | d :: ds,v :: vs,v' :: vs',wl :: wls,wl' :: wls',o,h,h'=>.cons (jeY (o d List.mem_cons_self) h.1 h'.1) (KZ (fun x hx=>o x (List.mem_cons_of_mem _ hx)) h.2 h'.2)
 | [],_ :: _,_,_,_,_,h,_=>h.elim
 | [],[],_,_ :: _,_,_,h,_=>h.elim
 | [],[],_ :: _,[],_,_,_,h=>h.elim
 | [],[],[],[],_ :: _,_,_,h=>h.elim
 | _ :: _,[],_,_,_,_,h,_=>h.elim
 | _ :: _,_ :: _,_,[],_,_,h,_=>h.elim
 | _ :: _,_ :: _,[],_ :: _,_,_,_,h=>h.elim
 | _ :: _,_ :: _,_ :: _,_ :: _,[],_,_,h=>h.elim
structure WsOk (ws:List Str):Prop where
 len:ws.length=12
 nd:ws.Nodup
 no:∀ x∈ws,x ∉ noL∧x.length≤8
theorem jge {ws:List Str} (h:ws.length=12):∃ w0 w1 w2 w3 w4 w5 w6 w7 w8 w9 wa wb,ws=[w0,w1,w2,w3,w4,w5,w6,w7,w8,w9,wa,wb]:=by
 match ws,h with
 | [w0,w1,w2,w3,w4,w5,w6,w7,w8,w9,wa,wb],_=>exact ⟨_,_,_,_,_,_,_,_,_,_,_,_,rfl⟩
structure Wd where
 fs:List Str
 pl:List Str
 rw:List Str
def qj (ws:List Str):Wd:=⟨ws.take 2,(ws.drop 2).take 4,ws.drop 6⟩
def Wd.pool (W:Wd):List Str:=W.pl++[("out" : Str)]
def Wd.far (W:Wd):List Str:=W.fs++W.rw
structure Wd.Ok (W:Wd):Prop where
 len:W.pl.length≤4
 ap:∀ x∈W.pool,x ∉ W.far
 kw:∀ x∈W.pool,x ∉ kwL
 pe:("" : Str) ∉ W.pool
 re:("" : Str) ∉ W.rw
 sh:∀ x∈W.pl++W.far,x.length≤8
theorem jc5:("out" : Str)∈noL:=by decide +kernel
theorem jfQ:("out" : Str) ∉ kwL:=by decide +kernel
theorem jfP:¬ (("" : Str) = "out"):=by decide +kernel
theorem jgY:("" : Str)∈noL:=by decide +kernel
theorem jgS {x:Str} (h:x∈kwL):x∈noL:=List.mem_cons_of_mem _ (List.mem_cons_of_mem _ h)
theorem jfs {ws:List Str}:(∀ x∈(qj ws).fs,x∈ws)∧(∀ x∈(qj ws).pl,x∈ws)∧∀ x∈(qj ws).rw,x∈ws:=
 ⟨fun _ h=>List.mem_of_mem_take h,fun _ h=>List.mem_of_mem_drop (List.mem_of_mem_take h),fun _ h=>List.mem_of_mem_drop h⟩
theorem jgf {ws:List Str} (h:WsOk ws):(qj ws).Ok:=by
 obtain ⟨m1,m2,m3⟩:=jfs (ws:=ws)
 have split:ws=(qj ws).fs++((qj ws).pl++(qj ws).rw):=by
  obtain ⟨w0,w1,w2,w3,w4,w5,w6,w7,w8,w9,wa,wb,rfl⟩:=jge h.len
  rfl
 have nd:=h.nd
 rw [split] at nd
 obtain ⟨_,n2,n3⟩:=List.nodup_append.mp nd
 obtain ⟨_,_,n4⟩:=List.nodup_append.mp n2
 refine ⟨by show ((ws.drop 2).take 4).length≤4;rw [List.length_take];omega,fun x hx hf=>?_,fun x hx=>?_,fun hx=>?_,fun hx=>(h.no _ (m3 _ hx)).1 jgY,fun x hx=>?_⟩
 ·rcases List.mem_append.mp hx with hx | hx
  ·rcases List.mem_append.mp hf with hf | hf
   ·exact n3 x hf x (List.mem_append.mpr (.inl hx)) rfl
   ·exact n4 x hx x hf rfl
  ·rw [List.mem_singleton.mp hx] at hf
   rcases List.mem_append.mp hf with hf | hf
   ·exact (h.no _ (m1 _ hf)).1 jc5
   ·exact (h.no _ (m3 _ hf)).1 jc5
 ·rcases List.mem_append.mp hx with hx | hx
  ·exact fun z=>(h.no x (m2 x hx)).1 (jgS z)
  ·rw [List.mem_singleton.mp hx];exact jfQ
 ·rcases List.mem_append.mp hx with hx | hx
  ·exact (h.no _ (m2 _ hx)).1 jgY
  ·exact jfP (List.mem_singleton.mp hx)
 ·rcases List.mem_append.mp hx with hx | hx
  ·exact (h.no x (m2 x hx)).2
  ·rcases List.mem_append.mp hx with hx | hx
   ·exact (h.no x (m1 x hx)).2
   ·exact (h.no x (m3 x hx)).2
structure PcW (W:Wd) (p:Pc):Prop where
 f:p.f∈W.fs
 ps:∀ x∈p.ps,x∈W.pl
 psl:p.ps.length≤4
 rs:∀ x∈p.rs,x∈W.rw
 rsl:p.rs.length≤3
 rsn:p.rs.Nodup
 nd:p.nd.length≤4
 gv:p.gv.length≤4
 named:∀ x∈p.named,InE W.pool x
 lv:LvOk W.far p.named (lvL p.part)
theorem PcW.others {W:Wd} {p:Pc} (h:PcW W p):∀ x∈p.others,x∈W.pool:=by
 intro x hx
 obtain ⟨hx,hk⟩:=List.mem_filter.mp hx
 unfold qJ at hk
 rw [Bool.and_eq_true] at hk
 rcases h.named x hx with hi | hi
 ·exact hi
 ·exact absurd hi (by simpa using hk.1)
theorem PcW.mem {W:Wd} {p:Pc} (h:PcW W p) (o:W.Ok) (x:Str):x∈yB W.pool (lvL p.part)↔x∈p.others:=by
 unfold yB
 constructor
 ·intro hx
  obtain ⟨h1,h2⟩:=List.mem_filter.mp hx
  have h2:=of_decide_eq_true h2
  have h3:=o.ap x h2
  unfold Pc.others qJ
  have h5:x≠"":=fun z=>o.pe (by rw [← z];exact h2)
  have h6:x ∉ p.rs:=fun z=>h3 (List.mem_append.mpr (.inr (h.rs x z)))
  refine List.mem_filter.mpr ⟨?_,by rw [decide_eq_false h5,decide_eq_false h6];rfl⟩
  rcases h.lv.1 x h1 with g | g | g
  ·exact g
  ·exact absurd g (o.kw x h2)
  ·exact absurd g h3
 ·intro hx
  exact List.mem_filter.mpr ⟨h.lv.2 x (List.mem_filter.mp hx).1,decide_eq_true (h.others x hx)⟩
theorem yI {W:Wd} (o:W.Ok):W.pool.length≤5:=by
 unfold Wd.pool
 have:=o.len
 rw [List.length_append]
 show W.pl.length+1≤5
 omega
theorem PcW.nums {W:Wd} {p:Pc} (h:PcW W p) (o:W.Ok):∃ ns,NumsOf p ns:=by
 obtain ⟨ns,h1,h2⟩:=jaF (p.others++(p.ps++[("out" : Str)]))
 have h3:∀ x,x∈ns↔x∈p.others∨x∈p.ps∨x = "out":=fun x=>by rw [h2,List.mem_append,List.mem_append,List.mem_singleton]
 refine ⟨ns,h1,?_,h3⟩
 have:=yt (m:=W.pool) (jgg h1) fun x hx=>by
  rcases (h3 x).mp hx with g | g | g
  ·exact h.others x g
  ·exact List.mem_append.mpr (.inl (h.ps x g))
  ·rw [g];exact List.mem_append.mpr (.inr (List.mem_singleton.mpr rfl))
 have:=yI o
 omega
theorem PcW.ok {W:Wd} {p:Pc} (h:PcW W p) (o:W.Ok) (hb:p.bd.length≤12) (hf:∀ S∈p.bd,S.few):PcOk p:=by
 obtain ⟨d1,_,d2⟩:=qz p.others
 obtain ⟨d3,d4,_⟩:=qz p.ps
 have l1:=yt (m:=W.pool) d1 fun x hx=>h.others x ((d2 x).mp hx)
 have:=yI o
 have:=h.psl
 have:=h.nd
 have:=h.gv
 exact ⟨by omega,by omega,by omega,by omega,by omega,hf⟩
theorem PcW.cal {W:Wd} {p:Pc} (h:PcW W p) (o:W.Ok):CalOk p.f p:=by
 have sh:=o.sh
 have:=h.psl
 have:=h.rsl
 have:=h.nd
 have:=h.gv
 refine ⟨h.rsn,by omega,by omega,by omega,by omega,?_,fun y hy=>?_,fun y hy z=>?_⟩
 ·exact Nat.le_trans (sh _ (List.mem_append.mpr (.inr (List.mem_append.mpr (.inl h.f))))) (by decide)
 ·exact Nat.le_trans (sh _ (List.mem_append.mpr (.inl (h.ps y hy)))) (by decide)
 ·exact o.pe (by rw [← z];exact List.mem_append.mpr (.inl (h.ps y hy)))
theorem PcW.clash {W:Wd} {p:Pc} (h:PcW W p) (o:W.Ok):NoClash p:=
 ⟨fun z=>o.pe (List.mem_append.mpr (.inl (h.ps _ z))),fun z=>o.re (h.rs _ z),fun x hx z=>o.ap x (List.mem_append.mpr (.inl (h.ps x hx))) (List.mem_append.mpr (.inr (h.rs x z)))⟩
theorem jdF {W:Wd} {p:Pc} {f:Str} {ps rs:List Str} (h:HdIn p f ps rs) (hps:∀ x∈ps,x∈W.pl):∀ x∈(p.nd++p.gv).flatMap Cl.ns,InE W.pool x:=by
 have tm:∀ {xs rs:List Str} {t:Tm},t.In xs rs→∀ x∈t.ns,InE xs x:=fun {xs rs t} ht=>by
  cases t with
  | is y=>intro x hx;rw [List.mem_singleton.mp hx];exact ht
  | at_ r y d=>intro x hx;rw [List.mem_singleton.mp hx];exact ht.2
 have cl:∀ {xs rs:List Str} {C:Cl},C.In xs rs→∀ x∈C.ns,InE xs x:=fun {xs rs C} hC=>by
  cases C with
  | least a b c=>
   intro x hx
   rcases List.mem_append.mp hx with hx | hx
   ·exact tm hC.1 x hx
   ·exact tm hC.2 x hx
  | each t td u ud r way b c=>
   intro x hx
   obtain ⟨h1,h2,_,_,h5⟩:=hC
   rcases List.mem_append.mp hx with hx | hx
   ·rcases List.mem_cons.mp hx with rfl | hx
    ·exact h1
    ·rw [List.mem_singleton.mp hx];exact h2
   ·cases b with
    | is y=>rw [List.mem_singleton.mp hx];exact h5
    | row y=>cases hx
  | rise t td u ud r=>
   intro x hx
   rcases List.mem_cons.mp hx with rfl | hx
   ·exact hC.1
   ·rw [List.mem_singleton.mp hx];exact hC.2.1
 intro x hx
 obtain ⟨C,hC,hx⟩:=List.mem_flatMap.mp hx
 rcases List.mem_append.mp hC with hC | hC
 ·exact (cl (h.nd.2 C hC) x hx).imp (fun z=>List.mem_append.mpr (.inl (hps x z))) id
 ·refine (cl (h.gv.2 C hC) x hx).imp (fun z=>?_) id
  rcases List.mem_append.mp z with z | z
  ·exact List.mem_append.mpr (.inl (hps x z))
  ·exact List.mem_append.mpr (.inr z)
theorem cl_mono {xs rs fs:List Str} (hr:∀ r∈rs,r∈fs) {C:Cl} (hC:C.In xs rs):C.In xs fs:=by
 cases C with
 | least a b c=>
  have tm:∀ {t:Tm},t.In xs rs→t.In xs fs:=fun {t} ht=>by
   cases t with
   | is x=>exact ht
   | at_ r x d=>exact ⟨hr _ ht.1,ht.2⟩
  exact ⟨tm hC.1,tm hC.2⟩
 | each t td u ud r way b c=>
  obtain ⟨a1,a2,a3,a4,a5⟩:=hC
  refine ⟨a1,a2,hr _ a3,a4,?_⟩
  cases b with
  | is x=>exact a5
  | row x=>exact hr _ a5
 | rise t td u ud r=>exact ⟨hC.1,hC.2.1,hr _ hC.2.2⟩
theorem jcA {p0 p1:Pc} {nums free rows:List Str} (hf:∀ x∈free,x∈nums) {S:Sm} (h:SmIn p0 p1 nums free rows S):∀ x∈S.ns,InE nums x:=by
 have tm:∀ {xs rs:List Str} {t:Tm},t.In xs rs→∀ x∈t.ns,InE xs x:=fun {xs rs t} ht=>by
  cases t with
  | is y=>intro x hx;rw [List.mem_singleton.mp hx];exact ht
  | at_ r y d=>intro x hx;rw [List.mem_singleton.mp hx];exact ht.2
 intro x hx
 cases h with
 | @call y p as rs h=>
  rcases List.mem_append.mp hx with hx | hx
  ·rw [List.mem_singleton.mp hx];exact .inl (hf _ h.ix)
  ·exact .inl (h.ia x hx)
 | @claim C h=>
  cases C with
  | least a b c=>
   rcases List.mem_append.mp hx with hx | hx
   ·exact tm h.1 x hx
   ·exact tm h.2 x hx
  | each t td u ud r way b c=>
   obtain ⟨h1,h2,_,_,h5⟩:=h
   rcases List.mem_append.mp hx with hx | hx
   ·rcases List.mem_cons.mp hx with rfl | hx
    ·exact h1
    ·rw [List.mem_singleton.mp hx];exact h2
   ·cases b with
    | is y=>rw [List.mem_singleton.mp hx];exact h5
    | row y=>cases hx
  | rise t td u ud r=>
   rcases List.mem_cons.mp hx with rfl | hx
   ·exact h.1
   ·rw [List.mem_singleton.mp hx];exact h.2.1
 | @set y t c hy h=>
  rcases List.mem_append.mp hx with hx | hx
  ·rw [List.mem_singleton.mp hx];exact .inl (hf _ hy)
  ·exact tm h x hx
 | @put r y d c hr hy=>
  rcases List.mem_append.mp hx with hx | hx
  ·rw [List.mem_singleton.mp hx];exact hy
  ·rw [List.mem_singleton.mp hx];exact .inr rfl
theorem jc0 {W:Wd} {p:Pc} {f:Str} {ps rs:List Str} {p0 p1:Pc} {nums free rows:List Str} {bd:List Sm} (h:HdIn p f ps rs) (hf:f∈W.fs) (hps:∀ x∈ps,x∈W.pl) (lps:ps.length≤4) (hrs:∀ x∈rs,x∈W.rw) (lrs:rs.length≤3) (nrs:rs.Nodup)
  (hb:∀ S∈bd,SmIn p0 p1 nums free rows S) (hn:∀ x∈nums,x∈W.pool) (hfr:∀ x∈free,x∈nums) (hrow:∀ r∈rows,r∈W.rw) (h0:p0.f∈W.fs) (h1:p1.f∈W.fs):PcW W { p with bd:=bd }:=by
 have hfar:∀ r∈rs,r∈W.far:=fun r hr=>List.mem_append.mpr (.inr (hrs r hr))
 refine ⟨by rw [h.ef];exact hf,by rw [h.eps];exact hps,by rw [h.eps];exact lps,by rw [h.ers];exact hrs,by rw [h.ers];exact lrs,by rw [h.ers];exact nrs,h.nd.1,h.gv.1,fun x hx=>?_,?_⟩
 ·rcases List.mem_append.mp hx with hx | hx
  ·exact jdF h hps x hx
  ·obtain ⟨S,hS,hx⟩:=List.mem_flatMap.mp hx
   exact (jcA hfr (hb S hS) x hx).imp (fun z=>hn x z) id
 ·rw [jaO]
  unfold Pc.named
  rw [List.flatMap_append,List.append_assoc]
  refine LvOk.app (Z3 (xs:=ps) fun C hC=>cl_mono hfar (h.nd.2 C hC)) (LvOk.app (Z3 (xs:=ps++[("out" : Str)]) fun C hC=>cl_mono hfar (h.gv.2 C hC)) ?_)
  have:∀ l:List Sm,(∀ S∈l,SmIn p0 p1 nums free rows S)→LvOk W.far (l.flatMap Sm.ns) (lvL (l.map Sm.toD)):=by
   intro l
   induction l with
   | nil=>intro _;rw [List.map_nil,jT];exact LvOk.nil
   | cons S l ih=>
    intro hl
    rw [List.map_cons,jG,List.flatMap_cons]
    exact LvOk.app (jeP (hl S List.mem_cons_self) (fun r hr=>List.mem_append.mpr (.inr (hrow r hr))) (List.mem_append.mpr (.inl h0)) (List.mem_append.mpr (.inl h1))) (ih fun T hT=>hl T (List.mem_cons_of_mem _ hT))
  exact this bd hb
def yq (p0 p1:Pc) (g:Str):Pc:=if g=p0.f then p0 else p1
theorem KI (p0 p1:Pc):yq p0 p1 p0.f=p0:=if_pos rfl
theorem KH {p0 p1:Pc} (h:p0.f≠p1.f):yq p0 p1 p1.f=p1:=if_neg fun z=>h z.symm
theorem jd8 {p0 p1:Pc} {nums free rows:List Str} {S:Sm} (bd:List Sm) (h:SmIn p0 p1 nums free rows S):SmIn p0 { p1 with bd:=bd } nums free rows S:=by
 cases h with
 | @call x p as rs h=>
  rcases h.ep with rfl | rfl
  ·exact .call ⟨.inl rfl,h.ix,h.la,h.ia,h.lr,h.ir⟩
  ·exact .call (p:={ p with bd:=bd }) ⟨.inr rfl,h.ix,h.la,h.ia,h.lr,h.ir⟩
 | claim h=>exact .claim h
 | set hx h=>exact .set hx h
 | put hr hx=>exact .put hr hx
structure TwoOk (W:Wd) (p0 p1:Pc) (nums free rows:List Str):Prop where
 w:W.Ok
 h0:PcW W p0
 h1:PcW W p1
 ne:p0.f≠p1.f
 b0:p0.bd=[]
 b1:p1.bd.length≤12
 sm:∀ S∈p1.bd,SmIn p0 p1 nums free rows S
theorem TwoOk.few {W:Wd} {p0 p1:Pc} {nums free rows:List Str} (T:TwoOk W p0 p1 nums free rows) {S:Sm} (h:SmIn p0 p1 nums free rows S):S.few:=by
 cases h with
 | @call x p as rs h=>
  have:p.ps.length≤4∧p.rs.length≤3:=by
   rcases h.ep with rfl | rfl
   ·exact ⟨T.h0.psl,T.h0.rsl⟩
   ·exact ⟨T.h1.psl,T.h1.rsl⟩
  have:=h.la
  have:=h.lr
  exact ⟨by omega,by omega⟩
 | claim h=>trivial
 | set hx h=>trivial
 | put hr hx=>trivial
theorem TwoOk.fit {W:Wd} {p0 p1:Pc} {nums free rows gs:List Str} (T:TwoOk W p0 p1 nums free rows) (g0:p0.f∈gs) (g1:p1.f∈gs) {S:Sm} (h:SmIn p0 p1 nums free rows S):S.fit gs (yq p0 p1):=by
 cases h with
 | @call x p as rs h=>
  rcases h.ep with rfl | rfl
  ·exact ⟨g0,by rw [KI];exact T.h0.cal T.w,by rw [KI];exact h.la.symm,by rw [KI];exact h.lr.symm⟩
  ·exact ⟨g1,by rw [KH T.ne];exact T.h1.cal T.w,by rw [KH T.ne];exact h.la.symm,by rw [KH T.ne];exact h.lr.symm⟩
 | claim h=>trivial
 | set hx h=>trivial
 | put hr hx=>trivial
theorem TwoOk.fit0 {W:Wd} {p0 p1:Pc} {nums free rows:List Str} (T:TwoOk W p0 p1 nums free rows) (gs:List Str):PcFit gs (yq p0 p1) p0:=
 ⟨T.h0.ok T.w (by rw [T.b0];exact Nat.zero_le _) (fun S hS=>by rw [T.b0] at hS;cases hS),fun S hS=>(by rw [T.b0] at hS;cases hS),by rw [T.b0];exact Nat.zero_le _⟩
theorem TwoOk.fit1 {W:Wd} {p0 p1:Pc} {nums free rows gs:List Str} (T:TwoOk W p0 p1 nums free rows) (g0:p0.f∈gs) (g1:p1.f∈gs):PcFit gs (yq p0 p1) p1:=
 ⟨T.h1.ok T.w T.b1 (fun S hS=>T.few (T.sm S hS)),fun S hS=>T.fit g0 g1 (T.sm S hS),Nat.le_trans T.b1 (by decide)⟩
theorem TwoOk.due0 {W:Wd} {p0 p1:Pc} {nums free rows ns:List Str} (T:TwoOk W p0 p1 nums free rows) (gs:List Str) (hn:NumsOf p0 ns):DueOk p0 p0 p1 (yq p0 p1) gs W.pool ns nums free rows:=
 ⟨T.fit0 gs,by rw [T.b0];exact Nat.zero_le _,hn,T.h0.mem T.w,Nat.le_trans (yI T.w) (by decide),fun S hS=>(by rw [T.b0] at hS;cases hS),T.ne,⟨T.h0.clash T.w,T.h0.cal T.w,KI _ _⟩,⟨T.h1.clash T.w,T.h1.cal T.w,KH T.ne⟩⟩
theorem TwoOk.due1 {W:Wd} {p0 p1:Pc} {nums free rows ns gs:List Str} (T:TwoOk W p0 p1 nums free rows) (g0:p0.f∈gs) (g1:p1.f∈gs) (hn:NumsOf p1 ns):DueOk p1 p0 p1 (yq p0 p1) gs W.pool ns nums free rows:=
 ⟨T.fit1 g0 g1,T.b1,hn,T.h1.mem T.w,Nat.le_trans (yI T.w) (by decide),T.sm,T.ne,⟨T.h0.clash T.w,T.h0.cal T.w,KI _ _⟩,⟨T.h1.clash T.w,T.h1.cal T.w,KH T.ne⟩⟩
abbrev Y6:Stmt:=top 50
def jaz (K:W.Frag):Sp:=fun vs H Q _=>∃ (a:Addr) (ns:List Int),vs=[.ref a]∧SqL K H a (ns.map V.int)∧ns.length≤63∧∀ H',Q (.bl true) H'
theorem ZA {xs:List Str} {i m:Nat} (h:i+m≤xs.length+1) (hm:0 < m) (c:Int):∃ n,n < m∧ki (xs.map V.str) (some (i:Int)) (some ((i:Int)+c % (m:Int)))=((xs.drop i).take n).map V.str:=by
 have h0:=Int.emod_nonneg c (b:=(m:Int)) (by omega)
 have h1:=Int.emod_lt_of_pos c (b:=(m:Int)) (by omega)
 refine ⟨(c % (m:Int)).toNat,by omega,?_⟩
 unfold ki
 rw [List.length_map,show (i:Int)+c % (m:Int)=((i+(c % (m:Int)).toNat:Nat):Int) by omega,HT.sIx_nat,HT.sIx_nat,Nat.min_eq_left (by omega),Nat.min_eq_left (by omega),← List.map_drop,← List.map_take,Nat.add_sub_cancel_left]
section
variable {P:Program} {w:World} {K:W.Frag} {mg:Str→Option Value} {base:Heap}
theorem jfT {f:Addr} {fd:FuncData} (F:Fun K "law" "law" Y6 f fd) (B:Free0 mg) (F_cell:Fn P w K mg base 1 "_law_cell" ["_law_script","_law_k"] (JL K)) (F_words:Fn P w K mg base 2 "_law_words" ["_law_script","_law_start","_law_many"] (jas K)) (F_head:Fn P w K mg base 5 "_law_head" ["_law_script","_law_at","_law_f","_law_params","_law_rows"] (jcy K)) (F_body:Fn P w K mg base 5 "_law_body" ["_law_script","_law_heads","_law_nums","_law_free","_law_rows"] (jaE K)) (F_due:Fn P w K mg base 8 "_law_due" ["_law_heads","_law_proc","_law_names"] jfd) (F_duties:Fn P w K mg base 9 "duties" ["program"] Y2):FnOk P w K mg base CX0 10 f fd ["_law_script"] (jaz K):=by
 have sc:FnScope ["_law_script","_law_words_here","_law_params","_law_callee","_law_own","_law_nums","_law_caller","_law_heads","_law_body_here","_law_procs","_law_pool","_law_due_here","_law_proc"] ["_law_script"] (js Y6):=fQ
 refine F.okZ sc (fun vs H Q E h=>?_) (fun cdv A outer s H vs Q E hr h=>?_)
 ·obtain ⟨a,ns,rfl,_⟩:=h
  rfl
 obtain ⟨a,ns,rfl,hS,hln,q⟩:=h
 have hu6:(A.deeper (PyProof.Rows.envOfC "law" (js Y6) s.heap.objs.size f cdv)).units+1+6 < cLine:=by have:=hr.units;omega
 refine ⟨_,(jg (jx (i:=1) sc.nd rfl oQ (ju F_words hr (ja (zpv 0) (ja je (ja je jd)))))
   (jg (jx (i:=2) sc.nd rfl oQ (jV zj (zpv 1) (jO je) (jO (jm kd je (jm jS (ju F_cell hr (ja (zpv 0) (ja je jd))) je)))))
   (jg (jx (i:=3) sc.nd rfl oQ (ju F_head hr (ja (zpv 0) (ja je (ja (jj jX (zpv 1) je (fun _ _=>rfl)) (ja (zpv 2) (ja (jV zj (zpv 1) (jO je) (jO (jm kd je (jm jS (ju F_cell hr (ja (zpv 0) (ja je jd))) je)))) jd)))))))
   (jg (jx (i:=4) sc.nd rfl oQ (jV zj (zpv 1) (jO je) (jO je)))
   (jg (jx (i:=5) sc.nd rfl oQ (jI (ja (jj jX (zpv 1) je (fun _ _=>rfl)) (ja (jj jX (zpv 1) je (fun _ _=>rfl)) (ja jo jd)))))
   (jg (qC (jL (jz jY (jm jS (ju F_cell hr (ja (zpv 0) (ja je jd))) je) je (jH _)) (ji (jx (i:=4) sc.nd rfl oQ (jI (ja (jj jX (zpv 1) je (fun _ _=>rfl)) (ja (jj jX (zpv 1) je (fun _ _=>rfl)) (ja (jj jX (zpv 1) je (fun _ _=>rfl)) jd)))))) jD))
   (jg (jx (i:=6) sc.nd rfl oQ (ju F_head hr (ja (zpv 0) (ja je (ja (jj jX (zpv 1) je (fun _ _=>rfl)) (ja (jI (ja (jj jX (zpv 1) je (fun _ _=>rfl)) jd)) (ja (zpv 4) jd)))))))
   (jg (jx (i:=7) sc.nd rfl oQ (jI (ja (zpv 3) (ja (zpv 6) jd))))
   (jg (jx (i:=8) sc.nd rfl oQ (ju F_body hr (ja (zpv 0) (ja (zpv 7) (ja (zpv 5) (ja (jI (ja (jj jX (zpv 1) je (fun _ _=>rfl)) (ja jo jd))) (ja (zpv 4) jd)))))))
   (jg (jx (i:=9) sc.nd rfl oQ (jI (ja (jm yJ (zpv 3) (jy (ja (jy jd) jd))) (ja (jm yJ (zpv 6) (jy (ja (zpv 8) jd))) jd))))
   (jg (qC (jL (jz jY (jm jS (ju F_cell hr (ja (zpv 0) (ja je jd))) je) je (jH _)) (ji (jK (jd3 PySem.F.plainAttrs_list PySem.F.slot_list_reverse PySem.F.type_list_reverse ZZ (zpv 9)))) jD))
   (jg (jx (i:=10) sc.nd rfl oQ (jm kD (jV zj (zpv 1) (jO je) (jO je)) (jI (ja jo jd))))
   (jg (jx (i:=11) sc.nd rfl oQ (jI jd))
   (jg (jZ PassesOwn.never rfl (kW (zpv 9)) (jt (i:=12) sc.nd rfl oQ) (ji (jx (i:=11) sc.nd rfl oQ (jm kD (zpv 11) (ju F_due hr (ja (zpv 7) (ja (zpv 12) (ja (zpv 10) jd))))))))
   (ji (jw (jb6 (jeE 6 hu6) (ju F_duties hr (ja (kJ ke (by rfl) B.tuple_ qw (ja (zpv 9) jd)) jd)) (zpv 11) (jH _)))))))))))))))))),?_⟩
 refine jR (σ':=[some (.ref a),none,none,none,none,none,none,none,none,none,none,none,none]) rfl ?_
 have hSQ:∀ H',Same H H'→SqL K H' a (ns.map V.int):=fun H' s'=>s'.seq hS
 refine ⟨_,rfl,a,ns,rfl,hSQ,fun lw ws H1 hwl hwn hwo s1 hlw=>?_⟩
 have WO:WsOk ws:=⟨hwl,hwn,hwo⟩
 have W:=jgf WO
 refine gQ ?_
 refine ⟨_,rfl,_,rfl,_,rfl,a,ns,1,rfl,hSQ _ s1,by decide,by decide,fun c1=>⟨_,_,rfl,rfl,(by show (0:Int) < 5;decide),_,_,rfl,rfl,_,rfl,lw,_,rfl,SqL.of hlw,fun l1 hl1=>?_⟩⟩
 obtain ⟨n1,hn1,ec1⟩:=ZA (xs:=ws) (i:=2) (m:=5) (by omega) (by decide) c1
 rw [show ki (ws.map V.str) (some 2) (some (2+c1 % 5))=((ws.drop 2).take n1).map V.str from ec1]
 generalize hps:(ws.drop 2).take n1=ps at *
 have x1:=jf hl1 (.lst (ps.map V.str))
 have y1:upd H1 l1 (.lst (ps.map V.str)) l1=some (.lst (ps.map V.str)):=jb
 generalize upd H1 l1 (.lst (ps.map V.str))=H2 at *
 have s2:=s1.trans x1
 have hlw2:=x1 _ _ hlw
 obtain ⟨w0,w1,w2,w3,w4,w5,w6,w7,w8,w9,wa,wb,ews⟩:=jge hwl
 have ewv:ws.map V.str=[V.str w0,.str w1,.str w2,.str w3,.str w4,.str w5,.str w6,.str w7,.str w8,.str w9,.str wa,.str wb]:=by rw [ews];rfl
 have lps:ps.length≤4:=by rw [← hps,List.length_take];omega
 have ips:∀ x∈ps,x∈(qj ws).pl:=fun x hx=>by
  rw [← hps] at hx
  have:(ws.drop 2).take n1=((ws.drop 2).take 4).take n1:=by rw [List.take_take,Nat.min_eq_left (by omega)]
  rw [this] at hx
  exact List.mem_of_mem_take hx
 refine gQ ?_
 refine ⟨_,rfl,_,rfl,lw,_,_,_,rfl,rfl,SqL.of hlw2,(by rw [ewv];rfl),_,rfl,_,rfl,_,rfl,_,rfl,a,ns,2,rfl,hSQ _ s2,by decide,by decide,fun c2=>⟨_,_,rfl,rfl,(by show (0:Int) < 4;decide),_,_,rfl,rfl,_,rfl,lw,_,rfl,SqL.of hlw2,fun l2 hl2=>?_⟩⟩
 obtain ⟨n2,hn2,ec2⟩:=ZA (xs:=ws) (i:=6) (m:=4) (by omega) (by decide) c2
 rw [show ki (ws.map V.str) (some 6) (some (6+c2 % 4))=((ws.drop 6).take n2).map V.str from ec2]
 generalize hrs:(ws.drop 6).take n2=rs at *
 have x2:=jf hl2 (.lst (rs.map V.str))
 have y2:upd H2 l2 (.lst (rs.map V.str)) l2=some (.lst (rs.map V.str)):=jb
 generalize upd H2 l2 (.lst (rs.map V.str))=H3 at *
 have s3:=s2.trans x2
 have lrs:rs.length≤3:=by rw [← hrs,List.length_take];omega
 have irs:∀ x∈rs,x∈(qj ws).rw:=fun x hx=>by rw [← hrs] at hx;exact List.mem_of_mem_take hx
 have nrs:rs.Nodup:=by rw [← hrs];exact (hwn.sublist (List.drop_sublist _ _)).sublist (List.take_sublist _ _)
 refine ⟨a,l1,l2,ns,52,w0,ps,rs,rfl,fun H' s'=>hSQ _ (s3.trans s'),by decide,by decide,x2 _ _ y1,y2,by omega,by omega,fun v0 p0 H4 hp0 x3 hv0=>?_⟩
 have s4:=s3.trans x3
 have hlw4:=x3 _ _ (x2 _ _ hlw2)
 refine gQ ?_
 refine ⟨_,rfl,_,rfl,_,rfl,lw,_,rfl,SqL.of hlw4,fun l3 hl3=>?_⟩
 have ec3:ki (ws.map V.str) (some 9) (some 12)=[V.str w9,.str wa,.str wb]:=by rw [ewv];rfl
 rw [ec3]
 have x4:=jf hl3 (.lst [V.str w9,.str wa,.str wb])
 have y4:upd H4 l3 (.lst [V.str w9,.str wa,.str wb]) l3=some (.lst ([w9,wa,wb].map V.str)):=jb
 generalize upd H4 l3 (.lst [V.str w9,.str wa,.str wb])=H5 at *
 have hlw5:=x4 _ _ hlw4
 refine gQ ?_
 refine ⟨_,rfl,lw,_,_,_,rfl,rfl,SqL.of hlw5,(by rw [ewv];rfl),_,rfl,lw,_,_,_,rfl,rfl,SqL.of hlw5,(by rw [ewv];rfl),sm rfl,fun l4 hl4=>?_⟩
 have x5:=jf hl4 (.lst [V.str w2,.str w3,.str "out"])
 have y5:upd H5 l4 (.lst [V.str w2,.str w3,.str "out"]) l4=some (.lst ([w2,w3,("out" : Str)].map V.str)):=jb
 generalize upd H5 l4 (.lst [V.str w2,.str w3,.str "out"])=H6 at *
 have hlw6:=x5 _ _ hlw5
 have x46:=x4.trans x5
 have s6:=s4.trans x46
 refine gQ ?_
 refine ⟨fun σ' G=>∃ (ow:Addr) (own:List Str),σ'=[some (.ref a),some (.ref lw),some (.ref l1),some v0,some (.ref ow),some (.ref l4),none,none,none,none,none,none,none]∧Same H6 G∧G ow=some (.lst (own.map V.str))∧(own=[w9,wa,wb]∨own=[w6,w9,w7]),?_,?_⟩
 ·refine ⟨_,rfl,a,ns,3,rfl,hSQ _ s6,by decide,by decide,fun c3=>⟨_,_,rfl,rfl,(by show (0:Int) < 2;decide),rfl,_,rfl,j3 (fun _=>?_) (fun _=>⟨l3,_,rfl,Same.refl _,x5 _ _ y4,.inl rfl⟩)⟩⟩
  refine ⟨_,rfl,lw,_,_,_,rfl,rfl,SqL.of hlw6,(by rw [ewv];rfl),_,rfl,lw,_,_,_,rfl,rfl,SqL.of hlw6,(by rw [ewv];rfl),_,rfl,lw,_,_,_,rfl,rfl,SqL.of hlw6,(by rw [ewv];rfl),sm rfl,fun l5 hl5=>?_⟩
  refine ⟨l5,[w6,w9,w7],?_,jf hl5 _,jb,.inr rfl⟩
  rfl
 rintro σ' H7 ⟨ow,own,rfl,x7,hown,eown⟩
 have s7:=s6.trans x7
 have hlw7:=x7 _ _ hlw6
 have lown:own.length=3:=by rcases eown with rfl | rfl <;> rfl
 refine ⟨_,rfl,_,rfl,lw,_,_,_,rfl,rfl,SqL.of hlw7,(by rw [ewv];rfl),_,rfl,lw,_,_,_,rfl,rfl,SqL.of hlw7,(by rw [ewv];rfl),sm rfl,fun l6 hl6=>?_⟩
 have x8:=jf hl6 (.lst [V.str w2])
 have y8:upd H7 l6 (.lst [V.str w2]) l6=some (.lst ([w2].map V.str)):=jb
 generalize upd H7 l6 (.lst [V.str w2])=H8 at *
 have s8:=s7.trans x8
 refine ⟨_,rfl,a,l6,ow,ns,3,w1,[w2],own,rfl,fun H' s'=>hSQ _ (s8.trans s'),by decide,by decide,y8,x8 _ _ hown,Nat.le_of_ble_eq_true rfl,by omega,fun v1 p1 H9 hp1 x9 hv1=>?_⟩
 have s9:=s8.trans x9
 have x49:=x46.trans (x7.trans (x8.trans x9))
 have hv09:=hv0.mono x49
 refine gQ ?_
 refine ⟨_,rfl,_,rfl,sm rfl,fun hd hhd'=>?_⟩
 have x10:=jf hhd' (.lst [v0,v1])
 have y10:upd H9 hd (.lst [v0,v1]) hd=some (.lst [v0,v1]):=jb
 generalize upd H9 hd (.lst [v0,v1])=H10 at *
 have s10:=s9.trans x10
 have hlw10:=(x8.trans (x9.trans x10)) _ _ hlw7
 refine gQ ?_
 refine ⟨_,rfl,_,rfl,_,rfl,_,rfl,lw,_,_,_,rfl,rfl,SqL.of hlw10,(by rw [ewv];rfl),sm rfl,fun l7 hl7=>?_⟩
 have x11:=jf hl7 (.lst [V.str w3,.str "out"])
 have y11:upd H10 l7 (.lst [V.str w3,.str "out"]) l7=some (.lst ([w3,("out" : Str)].map V.str)):=jb
 generalize upd H10 l7 (.lst [V.str w3,.str "out"])=H11 at *
 have s11:=s10.trans x11
 have x911:=x10.trans x11
 have L:LwAt H11 hd l4 l7 ow p0 p1 [w2,w3,("out" : Str)] [w3,("out" : Str)] own:=⟨⟨v0,v1,x11 _ _ y10,hv09.mono x911,hv1.mono x911⟩,(x7.trans (x8.trans (x9.trans x911))) _ _ y5,y11,(x8.trans (x9.trans x911)) _ _ hown⟩
 have O:LwOk p0 p1 [w2,w3,("out" : Str)] [w3,("out" : Str)] own:=⟨rfl,rfl,lown,by rw [hp0.eps,hp0.ers];exact ⟨by omega,lrs⟩,by rw [hp1.eps,hp1.ers];exact ⟨(by show 1≤6;decide),by omega⟩⟩
 refine ⟨_,rfl,a,hd,l4,l7,ow,ns,p0,p1,[w2,w3,("out" : Str)],[w3,("out" : Str)],own,rfl,fun H' s'=>hSQ _ (s11.trans s'),L,O,fun vb bd H12 lbd hbd x12 hvb=>?_⟩
 have s12:=s11.trans x12
 have x912:=x911.trans x12
 have hv012:=hv09.mono x912
 have hv112:=hv1.mono x912
 have hdl12:=(x11.trans x12) _ _ y10
 have hlw12:=(x11.trans x12) _ _ hlw10
 have dis:[w0,w1,w2,w3,w4,w5,w6,w7,w8,w9,wa,wb].Nodup:=by rw [← ews];exact hwn
 have ne01:w0≠w1:=fun z=>by rw [z] at dis;exact absurd List.mem_cons_self (List.nodup_cons.mp dis).1
 have mfs0:w0∈(qj ws).fs:=by rw [ews];exact List.mem_cons_self
 have mfs1:w1∈(qj ws).fs:=by rw [ews];exact List.mem_cons_of_mem _ List.mem_cons_self
 have mpl2:w2∈(qj ws).pl:=by rw [ews];exact List.mem_cons_self
 have mpl3:w3∈(qj ws).pl:=by rw [ews];exact List.mem_cons_of_mem _ List.mem_cons_self
 have nown:own.Nodup:=by
  rcases eown with rfl | rfl
  ·exact dis.sublist (show [w9,wa,wb].Sublist _ from List.drop_sublist 9 [w0,w1,w2,w3,w4,w5,w6,w7,w8,w9,wa,wb])
  ·have:[w6,w7,w9].Nodup:=dis.sublist (List.Sublist.cons _ (List.Sublist.cons _ (List.Sublist.cons _ (List.Sublist.cons _ (List.Sublist.cons _ (List.Sublist.cons _ (List.Sublist.cons_cons _ (List.Sublist.cons_cons _ (List.Sublist.cons _ (List.Sublist.cons_cons _ (List.nil_sublist _)))))))))))
   exact (List.Perm.nodup_iff (List.Perm.cons _ (List.Perm.swap _ _ _))).mp this
 have mown:∀ x∈own,x∈(qj ws).rw:=fun x hx=>by
  have e:(qj ws).rw=[w6,w7,w8,w9,wa,wb]:=by rw [ews];rfl
  rw [e]
  rcases eown with rfl | rfl
  ·simp only [List.mem_cons,List.mem_nil_iff,or_false] at hx ⊢
   rcases hx with rfl | rfl | rfl <;> simp
  ·simp only [List.mem_cons,List.mem_nil_iff,or_false] at hx ⊢
   rcases hx with rfl | rfl | rfl <;> simp
 have mnum:∀ x∈[w2,w3,("out" : Str)],x∈(qj ws).pool:=fun x hx=>by
  simp only [List.mem_cons,List.mem_nil_iff,or_false] at hx
  rcases hx with rfl | rfl | rfl
  ·exact List.mem_append.mpr (.inl mpl2)
  ·exact List.mem_append.mpr (.inl mpl3)
  ·exact List.mem_append.mpr (.inr (List.mem_singleton.mpr rfl))
 have hbd':∀ S∈bd,SmIn p0 { p1 with bd:=bd } [w2,w3,("out" : Str)] [w3,("out" : Str)] own S:=fun S hS'=>jd8 bd (hbd S hS')
 have ef1:({ p1 with bd:=bd }:Pc).f=w1:=hp1.ef
 have T:TwoOk (qj ws) p0 { p1 with bd:=bd } [w2,w3,("out" : Str)] [w3,("out" : Str)] own:=by
  refine ⟨W,?_,?_,by rw [hp0.ef,ef1];exact ne01,hp0.bd,lbd,hbd'⟩
  ·have:=jc0 (bd:=[]) (p0:=p0) (p1:=p1) (nums:=[]) (free:=[]) (rows:=[]) hp0 mfs0 ips lps irs lrs nrs (fun _ z=>by cases z) (fun _ z=>by cases z) (fun _ z=>by cases z) (fun _ z=>by cases z) (by rw [hp0.ef];exact mfs0) (by rw [hp1.ef];exact mfs1)
   rw [← hp0.bd] at this
   exact this
  ·exact jc0 hp1 mfs1 (fun x hx=>by rw [List.mem_singleton.mp hx];exact mpl2) (by show 1≤4;decide) mown (by omega) nown hbd' mnum (fun x hx=>List.mem_cons_of_mem _ hx) mown (by rw [hp0.ef];exact mfs0) (by rw [ef1];exact mfs1)
 obtain ⟨n0,hn0⟩:=T.h0.nums W
 obtain ⟨n1',hn1'⟩:=T.h1.nums W
 refine gQ ?_
 obtain ⟨a0,ap0,ar0,an0,ag0,vn0,vg0,rfl,ha0,hap0,har0,han0,hnn0,hag0,hgg0⟩:=JZ hv012
 obtain ⟨a1,ap1,ar1,an1,ag1,vn1,vg1,rfl,ha1,hap1,har1,han1,hnn1,hag1,hgg1⟩:=JZ hv112
 refine ⟨_,rfl,sm rfl,fun t1 ht1=>?_⟩
 have z1:=jf ht1 (.tup [])
 have b1:upd H12 t1 (.tup []) t1=some (.tup []):=jb
 generalize upd H12 t1 (.tup [])=G1 at *
 refine ⟨sm rfl,fun t2 ht2=>?_⟩
 have z2:=jf ht2 (.tup [V.ref t1])
 have b2:upd G1 t2 (.tup [V.ref t1]) t2=some (.tup [V.ref t1]):=jb
 generalize upd G1 t2 (.tup [V.ref t1])=G2 at *
 have z12:=z1.trans z2
 refine ⟨a0,t2,_,_,rfl,rfl,z12 _ _ ha0,b2,sm rfl,fun t3 G3 z3 b3=>?_⟩
 have z13:=z12.trans z3
 refine ⟨_,rfl,_,rfl,sm rfl,fun t4 ht4=>?_⟩
 have z4:=jf ht4 (.tup [vb])
 have b4:upd G3 t4 (.tup [vb]) t4=some (.tup [vb]):=jb
 generalize upd G3 t4 (.tup [vb])=G4 at *
 have z14:=z13.trans z4
 refine ⟨a1,t4,_,_,rfl,rfl,z14 _ _ ha1,b4,sm rfl,fun t5 G5 z5 b5=>?_⟩
 have z15:=z14.trans z5
 refine ⟨sm rfl,fun pl hpl=>?_⟩
 have z6:=jf hpl (.lst [V.ref t3,.ref t5])
 have b6:upd G5 pl (.lst [V.ref t3,.ref t5]) pl=some (.lst [V.ref t3,.ref t5]):=jb
 generalize upd G5 pl (.lst [V.ref t3,.ref t5])=G6 at *
 have z16:=z15.trans z6
 have sG6:=s12.trans z16
 have hP0:Held G6 p0.toD (.ref t3):=by
  unfold Pc.toD
  rw [hp0.bd]
  exact jp ((z4.trans (z5.trans z6)) _ _ b3) (jc jk (jc jk (jc (jp (z16 _ _ hap0) (kF _)) (jc (jp (z16 _ _ har0) (kF _)) (jc (jp (z16 _ _ han0) (hnn0.mono z16)) (jc (jp (z16 _ _ hag0) (hgg0.mono z16)) (jc (jp ((z2.trans (z3.trans (z4.trans (z5.trans z6)))) _ _ b1) jl) jl)))))))
 have hP1:Held G6 ({ p1 with bd:=bd }:Pc).toD (.ref t5):=jp (z6 _ _ b5) (jc jk (jc jk (jc (jp (z16 _ _ hap1) (kF _)) (jc (jp (z16 _ _ har1) (kF _)) (jc (jp (z16 _ _ han1) (hnn1.mono z16)) (jc (jp (z16 _ _ hag1) (hgg1.mono z16)) (jc (hvb.mono z16) jl)))))))
 have hH0:Held G6 p0.hdD (.ref a0):=hv012.mono z16
 have hH1:Held G6 ({ p1 with bd:=bd }:Pc).hdD (.ref a1):=hv112.mono z16
 generalize ({ p1 with bd:=bd }:Pc)=pF at *
 have hhd6:=z16 _ _ hdl12
 have hlw6':=z16 _ _ hlw12
 have hdpl:hd≠pl:=fun z=>by rw [← z,z15 _ _ hdl12] at hpl;cases hpl
 have hlpl:lw≠pl:=fun z=>by rw [← z,z15 _ _ hlw12] at hpl;cases hpl
 have hapl:∀ {b:Addr} {ys:List V},G6 b=some (.tup ys)→b≠pl:=fun e=>zO e b6
 refine gQ ?_
 refine ⟨fun σ' G=>σ'=[some (.ref a),some (.ref lw),some (.ref l1),some (.ref a0),some (.ref ow),some (.ref l4),some (.ref a1),some (.ref hd),some vb,some (.ref pl),none,none,none]∧(∀ b o,b≠pl→G6 b=some o→G b=some o)∧∃ (prog:List Pc) (vs:List V),G pl=some (.lst vs)∧((prog=[p0,pF]∧vs=[V.ref t3,.ref t5])∨(prog=[pF,p0]∧vs=[V.ref t5,.ref t3])),?_,?_⟩
 ·refine ⟨_,rfl,a,ns,4,rfl,hSQ _ sG6,by decide,by decide,fun c4=>⟨_,_,rfl,rfl,(by show (0:Int) < 2;decide),rfl,_,rfl,j3 (fun _=>?_) (fun _=>⟨rfl,fun _ _ _ e=>e,_,_,b6,.inl ⟨rfl,rfl⟩⟩)⟩⟩
  refine ⟨_,rfl,.inl ⟨rfl,_,SqL.of b6⟩,pl,_,rfl,rfl,b6,?_⟩
  exact ⟨rfl,fun b o hb e=>(by rw [jr hb];exact e),[pF,p0],_,jb,.inr ⟨rfl,rfl⟩⟩
 rintro σ' G7 ⟨rfl,k7,prog,vs,hpl7,hpv⟩
 have tk7:TK G6 G7:=j5 k7 b6
 have hP0':=tk7.held hP0
 have hP1':=tk7.held hP1
 have hH0':=tk7.held hH0
 have hH1':=tk7.held hH1
 have hhd7:=k7 _ _ hdpl hhd6
 have hlw7':=k7 _ _ hlpl hlw6'
 clear hP0 hP1 hH0 hH1 tk7
 have hPL:HeldL G7 (prog.map Pc.toD) vs:=by
  rcases hpv with ⟨rfl,rfl⟩ | ⟨rfl,rfl⟩
  ·exact jc hP0' (jc hP1' jl)
  ·exact jc hP1' (jc hP0' jl)
 have hpm:∀ p∈prog,p=p0∨p=pF:=fun p hp=>by
  rcases hpv with ⟨rfl,rfl⟩ | ⟨rfl,rfl⟩
  ·simpa using hp
  ·have:p=pF∨p=p0:=by simpa using hp
   exact this.symm
 have hg0:p0.f∈prog.map Pc.f:=by rcases hpv with ⟨rfl,rfl⟩ | ⟨rfl,rfl⟩ <;> simp
 have hg1:pF.f∈prog.map Pc.f:=by rcases hpv with ⟨rfl,rfl⟩ | ⟨rfl,rfl⟩ <;> simp
 have hpn:(prog.map Pc.f).Nodup:=by
  have h1:=T.ne
  rcases hpv with ⟨rfl,rfl⟩ | ⟨rfl,rfl⟩
  ·simp [h1]
  ·simp [Ne.symm h1]
 have hpl2:prog.length=2:=by rcases hpv with ⟨rfl,rfl⟩ | ⟨rfl,rfl⟩ <;> rfl
 obtain ⟨num,hnum0,hnum1⟩:∃ num:Pc→List Str,num p0=n0∧num pF=n1':=⟨fun p=>if p.f=p0.f then n0 else n1',if_pos rfl,if_neg fun z=>T.ne z.symm⟩
 have hall:∀ p∈prog,yq p0 pF p.f=p∧PcFit (prog.map Pc.f) (yq p0 pF) p∧NumsOf p (num p):=fun p hp=>by
  rcases hpm p hp with rfl | rfl
  ·exact ⟨KI _ _,T.fit0 _,by rw [hnum0];exact hn0⟩
  ·exact ⟨KH T.ne,T.fit1 hg0 hg1,by rw [hnum1];exact hn1'⟩
 have hdue:∀ p∈prog,DueOk p p0 pF (yq p0 pF) (prog.map Pc.f) (qj ws).pool (num p) [w2,w3,("out" : Str)] [w3,("out" : Str)] own:=fun p hp=>by
  rcases hpm p hp with rfl | rfl
  ·exact T.due0 _ (by rw [hnum0];exact hn0)
  ·exact T.due1 hg0 hg1 (by rw [hnum1];exact hn1')
 clear hpv
 refine ⟨_,rfl,_,rfl,_,rfl,lw,_,rfl,SqL.of hlw7',fun l8 hl8=>?_⟩
 have ec8:ki (ws.map V.str) (some 2) (some 6)=(qj ws).pl.map V.str:=by rw [ews];rfl
 rw [ec8]
 have z8:=jf hl8 (.lst ((qj ws).pl.map V.str))
 have b8:upd G7 l8 (.lst ((qj ws).pl.map V.str)) l8=some (.lst ((qj ws).pl.map V.str)):=jb
 generalize upd G7 l8 (.lst ((qj ws).pl.map V.str))=G8 at *
 refine ⟨sm rfl,fun l9 hl9=>?_⟩
 have z9:=jf hl9 (.lst [V.str "out"])
 have b9:upd G8 l9 (.lst [V.str "out"]) l9=some (.lst [V.str "out"]):=jb
 generalize upd G8 l9 (.lst [V.str "out"])=G9 at *
 have lpl4:=W.len
 refine ⟨l8,l9,_,_,rfl,rfl,z9 _ _ b8,b9,Nat.le_trans (by rw [List.length_map];exact Nat.le_trans (Nat.add_le_add_right lpl4 1) (by decide:4+1≤1000)) (ka (Nat.le_refl 1000)),fun l10 hl10=>?_⟩
 rw [show (qj ws).pl.map V.str++[V.str "out"]=(qj ws).pool.map V.str by unfold Wd.pool;rw [List.map_append];rfl]
 have z10:=jf hl10 (.lst ((qj ws).pool.map V.str))
 have b10:upd G9 l10 (.lst ((qj ws).pool.map V.str)) l10=some (.lst ((qj ws).pool.map V.str)):=jb
 generalize upd G9 l10 (.lst ((qj ws).pool.map V.str))=G10 at *
 refine gQ ?_
 refine ⟨sm rfl,fun l11 hl11=>?_⟩
 have z11:=jf hl11 (.lst [])
 have b11:upd G10 l11 (.lst []) l11=some (.lst []):=jb
 generalize upd G10 l11 (.lst [])=G11 at *
 have z711:=z8.trans (z9.trans (z10.trans z11))
 refine gQ ?_
 have hvl:=hPL.length
 rw [List.length_map] at hvl
 refine ⟨_,rfl,pl,rfl,⟨_,SqL.of (z711 _ _ hpl7)⟩,?_⟩
 refine yN (xs:=vs) (fun i σ G=>∃ dl u12 ms wls,σ=[some (.ref a),some (.ref lw),some (.ref l1),some (.ref a0),some (.ref ow),some (.ref l4),some (.ref a1),some (.ref hd),some vb,some (.ref pl),some (.ref l10),some (.ref dl),u12]∧Same G11 G∧G dl=some (.lst ms)∧DutsAt G ((prog.take i).flatMap fun p=>p.dus (yq p0 pF) (num p)) ms wls) ⟨l11,none,[],[],rfl,Same.refl _,b11,by rw [List.take_zero];trivial⟩ ?_ ?_ ?_
 ·rintro i σ G _ ⟨dl,u12,ms,wls,rfl,sG,_⟩
  exact SqL.of (sG _ _ (z711 _ _ hpl7))
 ·rintro i v σ G hx ⟨dl,u12,ms,wls,rfl,sG,hG,hD⟩
  have hi:i < prog.length:=by have:=(List.getElem?_eq_some_iff.mp hx).1;omega
  obtain ⟨x',hx',hxH⟩:=hPL.get (show (prog.map Pc.toD)[i]?=some prog[i].toD by rw [List.getElem?_map,List.getElem?_eq_getElem hi];rfl)
  rw [hx] at hx'
  cases hx'
  have z7G:=z711.trans sG
  have ld1:=hD.len
  have ld2:=jdM (num:=num) (l:=prog.take i) fun p hp=>(hall p (List.mem_of_mem_take hp)).2.1
  rw [List.length_take] at ld2
  have etk:prog.take (i+1)=prog.take i++[prog[i]]:=by rw [List.take_succ,List.getElem?_eq_getElem hi];rfl
  have hfi:=(hall _ (List.getElem_mem hi)).2.1
  have ld3:=J8 (ns:=num prog[i]) hfi
  refine gQ ?_
  refine ⟨_,rfl,_,rfl,_,rfl,_,rfl,v,.ref a0,.ref a1,hd,l10,prog[i],p0,pF,yq p0 pF,prog.map Pc.f,(qj ws).pool,num prog[i],_,_,_,rfl,z7G _ _ hhd7,hH0'.mono z7G,hH1'.mono z7G,hxH.mono z7G,hdue _ (List.getElem_mem hi),sG _ _ (z11 _ _ b10),fun l12 ms2 wls2 G2 y2 hl12 hD2=>?_⟩
  have ld4:=hD2.len
  refine ⟨dl,l12,_,_,rfl,rfl,y2 _ _ hG,hl12,Nat.le_trans (by omega) (ka (Nat.le_refl 1000)),fun l13 hl13=>?_⟩
  have y3:=jf hl13 (.lst (ms++ms2))
  refine ⟨l13,_,ms++ms2,wls++wls2,rfl,sG.trans (y2.trans y3),jb,?_⟩
  rw [etk,List.flatMap_append,show ([prog[i]].flatMap fun p=>p.dus (yq p0 pF) (num p))=prog[i].dus (yq p0 pF) (num prog[i]) by simp]
  exact DutsAt.app (hD.mono (y2.trans y3)) (hD2.mono y3)
 rintro σ G ⟨dl,u12,ms,wls,rfl,sG,hG,hD⟩
 rw [← hvl,List.take_length] at hD
 have z7G:=z711.trans sG
 refine ⟨_,rfl,pl,_,rfl,.inl ⟨SqL.of (z7G _ _ hpl7),fun tp htp=>?_⟩⟩
 have y4:=jf htp (.tup vs)
 have b12:upd G tp (.tup vs) tp=some (.tup vs):=jb
 generalize upd G tp (.tup vs)=G13 at *
 refine ⟨tp,vs,prog,yq p0 pF,num,rfl,b12,hPL.mono (z7G.trans y4),by omega,hpn,hall,fun ml ms3 wls3 G14 y5 hml hm14 hD3 _ _ _=>?_⟩
 have hlk:=KZ (K:=K) (fun d hd'=>by
  obtain ⟨p,_,hd'⟩:=List.mem_flatMap.mp hd'
  exact jf6 p _ _ d hd') hD3 (hD.mono (y4.trans y5))
 exact ⟨_,rfl,ml,dl,_,_,rfl,rfl,SqL.of hm14,SqL.of ((y4.trans y5) _ _ hG),hlk,q _⟩
end
section
variable {P:Program} {w:World} {K:W.Frag} {mg:Str→Option Value} {base:Heap}
theorem jdb {f:Addr} {fd:FuncData} (F:Fun K "_law_used" "_law_used" JP f fd):FnOk P w K mg base CX0 1 f fd ["_law_thing","_law_nums"] (JH 0):=by
 have sc:FnScope ["_law_thing","_law_nums","_law_found","_law_one"] ["_law_thing","_law_nums"] (js JP):=fQ
 refine F.okZ sc (fun vs H Q E h=>?_) (fun cdv A outer s H vs Q E hr h=>?_)
 ·obtain ⟨a,b,us,ds,xs,rfl,_⟩:=h
  rfl
 obtain ⟨a,b,us,ds,xs,rfl,ha,hds,dep,_⟩:=h
 exact dep.elim
theorem JB {f1:Addr} {fd1:FuncData} (B:Free0 mg) (U1:Fun K "_law_used" "_law_used" JP f1 fd1) (b1:Binds K fd1 ["_law_thing","_law_nums"] []) (m1:mg "_law_used" = some (.ref f1)):∀ n,Fn P w K mg base (n+1) "_law_used" ["_law_thing","_law_nums"] (JH n)
 | 0=>Fn.mk' U1 b1 m1 (jdb U1)
 | n+1=>Fn.mk' U1 b1 m1 (jeI U1 B (JB B U1 b1 m1 n))
end
abbrev LkF (K:W.Frag) (f:Addr) (x n:Str) (st:Stmt) (oc:Value) (od:Option Addr) (kV dc pm:Value) (an:Option Addr) (cd ct:Value) (sl:Array (Option Value)):Prop:=K.lookup f=some ⟨oc,od,.func (W.fnOf x n (yh st) (qL st) (js st) .none kV dc pm an cd ct),sl⟩
set_option autoImplicit true in
theorem all_mk {l:PySem.W.OpenLaw} {w:World} {K:W.Frag} {h:Heap} {mg:Str→Option Value} {fa:Addr} (X:K.In h) (G:h.Ns mainGlobals mg) (hfa:mg "law" = some (.ref fa))
  (a0:W.nsIn K mainGlobals "term_numbers" = some (some (.ref f0)))
  (l0:LkF K f0 "term_numbers" "term_numbers" qB oc0 od0 kV0 dc0 pm0 an0 cd0 ct0 sl0) (c0:W.codeIn K cd0 "term_numbers" = true) (k0:W.keepIn K (.ref f0)=true)
  (a1:W.nsIn K mainGlobals "claim_numbers" = some (some (.ref f1)))
  (l1:LkF K f1 "claim_numbers" "claim_numbers" qr oc1 od1 kV1 dc1 pm1 an1 cd1 ct1 sl1) (c1:W.codeIn K cd1 "claim_numbers" = true) (k1:W.keepIn K (.ref f1)=true)
  (a2:W.nsIn K mainGlobals "claims_numbers" = some (some (.ref f2)))
  (l2:LkF K f2 "claims_numbers" "claims_numbers" kZ oc2 od2 kV2 dc2 pm2 an2 cd2 ct2 sl2) (c2:W.codeIn K cd2 "claims_numbers" = true) (k2:W.keepIn K (.ref f2)=true)
  (a3:W.nsIn K mainGlobals "own_claims" = some (some (.ref f3)))
  (l3:LkF K f3 "own_claims" "own_claims" qY oc3 od3 kV3 dc3 pm3 an3 cd3 ct3 sl3) (c3:W.codeIn K cd3 "own_claims" = true) (k3:W.keepIn K (.ref f3)=true)
  (a4:W.nsIn K mainGlobals "numbers_named" = some (some (.ref f4)))
  (l4:LkF K f4 "numbers_named" "numbers_named" qq oc4 od4 kV4 dc4 pm4 an4 cd4 ct4 sl4) (c4:W.codeIn K cd4 "numbers_named" = true) (k4:W.keepIn K (.ref f4)=true)
  (a5:W.nsIn K mainGlobals "bodies_of" = some (some (.ref f5)))
  (l5:LkF K f5 "bodies_of" "bodies_of" zr oc5 od5 kV5 dc5 pm5 an5 cd5 ct5 sl5) (c5:W.codeIn K cd5 "bodies_of" = true) (k5:W.keepIn K (.ref f5)=true)
  (a6:W.nsIn K mainGlobals "all_statements" = some (some (.ref f6)))
  (l6:LkF K f6 "all_statements" "all_statements" qa oc6 od6 kV6 dc6 pm6 an6 cd6 ct6 sl6) (c6:W.codeIn K cd6 "all_statements" = true) (k6:W.keepIn K (.ref f6)=true)
  (a7:W.nsIn K mainGlobals "numbers_of" = some (some (.ref f7)))
  (l7:LkF K f7 "numbers_of" "numbers_of" qE oc7 od7 kV7 dc7 pm7 an7 cd7 ct7 sl7) (c7:W.codeIn K cd7 "numbers_of" = true) (k7:W.keepIn K (.ref f7)=true)
  (a8:W.nsIn K mainGlobals "set_to_nought" = some (some (.ref f8)))
  (l8:LkF K f8 "set_to_nought" "set_to_nought" qp oc8 od8 kV8 dc8 pm8 an8 cd8 ct8 sl8) (c8:W.codeIn K cd8 "set_to_nought" = true) (k8:W.keepIn K (.ref f8)=true)
  (a9:W.nsIn K mainGlobals "known" = some (some (.ref f9)))
  (l9:LkF K f9 "known" "known" zM oc9 od9 kV9 dc9 pm9 an9 cd9 ct9 sl9) (c9:W.codeIn K cd9 "known" = true) (k9:W.keepIn K (.ref f9)=true)
  (a10:W.nsIn K mainGlobals "first_way" = some (some (.ref f10)))
  (l10:LkF K f10 "first_way" "first_way" qS oc10 od10 kV10 dc10 pm10 an10 cd10 ct10 sl10) (c10:W.codeIn K cd10 "first_way" = true) (k10:W.keepIn K (.ref f10)=true)
  (a11:W.nsIn K mainGlobals "meet" = some (some (.ref f11)))
  (l11:LkF K f11 "meet" "meet" KF oc11 od11 kV11 dc11 pm11 an11 cd11 ct11 sl11) (c11:W.codeIn K cd11 "meet" = true) (k11:W.keepIn K (.ref f11)=true)
  (a12:W.nsIn K mainGlobals "behind_each" = some (some (.ref f12)))
  (l12:LkF K f12 "behind_each" "behind_each" qt oc12 od12 kV12 dc12 pm12 an12 cd12 ct12 sl12) (c12:W.codeIn K cd12 "behind_each" = true) (k12:W.keepIn K (.ref f12)=true)
  (a13:W.nsIn K mainGlobals "name_said" = some (some (.ref f13)))
  (l13:LkF K f13 "name_said" "name_said" zn oc13 od13 kV13 dc13 pm13 an13 cd13 ct13 sl13) (c13:W.codeIn K cd13 "name_said" = true) (k13:W.keepIn K (.ref f13)=true)
  (a14:W.nsIn K mainGlobals "place_said" = some (some (.ref f14)))
  (l14:LkF K f14 "place_said" "place_said" qX oc14 od14 kV14 dc14 pm14 an14 cd14 ct14 sl14) (c14:W.codeIn K cd14 "place_said" = true) (k14:W.keepIn K (.ref f14)=true)
  (a15:W.nsIn K mainGlobals "term_said" = some (some (.ref f15)))
  (l15:LkF K f15 "term_said" "term_said" zm oc15 od15 kV15 dc15 pm15 an15 cd15 ct15 sl15) (c15:W.codeIn K cd15 "term_said" = true) (k15:W.keepIn K (.ref f15)=true)
  (a16:W.nsIn K mainGlobals "said" = some (some (.ref f16)))
  (l16:LkF K f16 "said" "said" jaJ oc16 od16 kV16 dc16 pm16 an16 cd16 ct16 sl16) (c16:W.codeIn K cd16 "said" = true) (k16:W.keepIn K (.ref f16)=true)
  (a17:W.nsIn K mainGlobals "walk_call" = some (some (.ref f17)))
  (l17:LkF K f17 "walk_call" "walk_call" qb oc17 od17 kV17 dc17 pm17 an17 cd17 ct17 sl17) (c17:W.codeIn K cd17 "walk_call" = true) (k17:W.keepIn K (.ref f17)=true)
  (a18:W.nsIn K mainGlobals "walk_statement" = some (some (.ref f18)))
  (l18:LkF K f18 "walk_statement" "walk_statement" kY oc18 od18 kV18 dc18 pm18 an18 cd18 ct18 sl18) (c18:W.codeIn K cd18 "walk_statement" = true) (k18:W.keepIn K (.ref f18)=true)
  (a19:W.nsIn K mainGlobals "walk_body" = some (some (.ref f19)))
  (l19:LkF K f19 "walk_body" "walk_body" zl oc19 od19 kV19 dc19 pm19 an19 cd19 ct19 sl19) (c19:W.codeIn K cd19 "walk_body" = true) (k19:W.keepIn K (.ref f19)=true)
  (a20:W.nsIn K mainGlobals "duties_of" = some (some (.ref f20)))
  (l20:LkF K f20 "duties_of" "duties_of" zq oc20 od20 kV20 dc20 pm20 an20 cd20 ct20 sl20) (c20:W.codeIn K cd20 "duties_of" = true) (k20:W.keepIn K (.ref f20)=true)
  (a21:W.nsIn K mainGlobals "procs_by_name" = some (some (.ref f21)))
  (l21:LkF K f21 "procs_by_name" "procs_by_name" kM oc21 od21 kV21 dc21 pm21 an21 cd21 ct21 sl21) (c21:W.codeIn K cd21 "procs_by_name" = true) (k21:W.keepIn K (.ref f21)=true)
  (a22:W.nsIn K mainGlobals "duties" = some (some (.ref f22)))
  (l22:LkF K f22 "duties" "duties" Jq oc22 od22 kV22 dc22 pm22 an22 cd22 ct22 sl22) (c22:W.codeIn K cd22 "duties" = true) (k22:W.keepIn K (.ref f22)=true)
  (a23:W.nsIn K mainGlobals "_law_cell" = some (some (.ref f23)))
  (l23:LkF K f23 "_law_cell" "_law_cell" jaL oc23 od23 kV23 dc23 pm23 an23 cd23 ct23 sl23) (c23:W.codeIn K cd23 "_law_cell" = true) (k23:W.keepIn K (.ref f23)=true)
  (a24:W.nsIn K mainGlobals "_law_word" = some (some (.ref f24)))
  (l24:LkF K f24 "_law_word" "_law_word" jaH oc24 od24 kV24 dc24 pm24 an24 cd24 ct24 sl24) (c24:W.codeIn K cd24 "_law_word" = true) (k24:W.keepIn K (.ref f24)=true)
  (a25:W.nsIn K mainGlobals "_law_words" = some (some (.ref f25)))
  (l25:LkF K f25 "_law_words" "_law_words" Yi oc25 od25 kV25 dc25 pm25 an25 cd25 ct25 sl25) (c25:W.codeIn K cd25 "_law_words" = true) (k25:W.keepIn K (.ref f25)=true)
  (a26:W.nsIn K mainGlobals "_law_far" = some (some (.ref f26)))
  (l26:LkF K f26 "_law_far" "_law_far" jea oc26 od26 kV26 dc26 pm26 an26 cd26 ct26 sl26) (c26:W.codeIn K cd26 "_law_far" = true) (k26:W.keepIn K (.ref f26)=true)
  (a27:W.nsIn K mainGlobals "_law_place" = some (some (.ref f27)))
  (l27:LkF K f27 "_law_place" "_law_place" Yj oc27 od27 kV27 dc27 pm27 an27 cd27 ct27 sl27) (c27:W.codeIn K cd27 "_law_place" = true) (k27:W.keepIn K (.ref f27)=true)
  (a28:W.nsIn K mainGlobals "_law_term" = some (some (.ref f28)))
  (l28:LkF K f28 "_law_term" "_law_term" jaI oc28 od28 kV28 dc28 pm28 an28 cd28 ct28 sl28) (c28:W.codeIn K cd28 "_law_term" = true) (k28:W.keepIn K (.ref f28)=true)
  (a29:W.nsIn K mainGlobals "_law_claim" = some (some (.ref f29)))
  (l29:LkF K f29 "_law_claim" "_law_claim" Yl oc29 od29 kV29 dc29 pm29 an29 cd29 ct29 sl29) (c29:W.codeIn K cd29 "_law_claim" = true) (k29:W.keepIn K (.ref f29)=true)
  (a30:W.nsIn K mainGlobals "_law_used" = some (some (.ref f30)))
  (l30:LkF K f30 "_law_used" "_law_used" JP oc30 od30 kV30 dc30 pm30 an30 cd30 ct30 sl30) (c30:W.codeIn K cd30 "_law_used" = true) (k30:W.keepIn K (.ref f30)=true)
  (a31:W.nsIn K mainGlobals "_law_head" = some (some (.ref f31)))
  (l31:LkF K f31 "_law_head" "_law_head" jaK oc31 od31 kV31 dc31 pm31 an31 cd31 ct31 sl31) (c31:W.codeIn K cd31 "_law_head" = true) (k31:W.keepIn K (.ref f31)=true)
  (a32:W.nsIn K mainGlobals "_law_call" = some (some (.ref f32)))
  (l32:LkF K f32 "_law_call" "_law_call" JQ oc32 od32 kV32 dc32 pm32 an32 cd32 ct32 sl32) (c32:W.codeIn K cd32 "_law_call" = true) (k32:W.keepIn K (.ref f32)=true)
  (a33:W.nsIn K mainGlobals "_law_body" = some (some (.ref f33)))
  (l33:LkF K f33 "_law_body" "_law_body" Ym oc33 od33 kV33 dc33 pm33 an33 cd33 ct33 sl33) (c33:W.codeIn K cd33 "_law_body" = true) (k33:W.keepIn K (.ref f33)=true)
  (a34:W.nsIn K mainGlobals "_law_named" = some (some (.ref f34)))
  (l34:LkF K f34 "_law_named" "_law_named" Yk oc34 od34 kV34 dc34 pm34 an34 cd34 ct34 sl34) (c34:W.codeIn K cd34 "_law_named" = true) (k34:W.keepIn K (.ref f34)=true)
  (a35:W.nsIn K mainGlobals "_law_said" = some (some (.ref f35)))
  (l35:LkF K f35 "_law_said" "_law_said" yW oc35 od35 kV35 dc35 pm35 an35 cd35 ct35 sl35) (c35:W.codeIn K cd35 "_law_said" = true) (k35:W.keepIn K (.ref f35)=true)
  (a36:W.nsIn K mainGlobals "_law_through" = some (some (.ref f36)))
  (l36:LkF K f36 "_law_through" "_law_through" zL oc36 od36 kV36 dc36 pm36 an36 cd36 ct36 sl36) (c36:W.codeIn K cd36 "_law_through" = true) (k36:W.keepIn K (.ref f36)=true)
  (a37:W.nsIn K mainGlobals "_law_due" = some (some (.ref f37)))
  (l37:LkF K f37 "_law_due" "_law_due" jbp oc37 od37 kV37 dc37 pm37 an37 cd37 ct37 sl37) (c37:W.codeIn K cd37 "_law_due" = true) (k37:W.keepIn K (.ref f37)=true)
  (a38:W.nsIn K mainGlobals "law" = some (some (.ref f38)))
  (l38:LkF K f38 "law" "law" Y6 oc38 od38 kV38 dc38 pm38 an38 cd38 ct38 sl38) (c38:W.codeIn K cd38 "law" = true) (k38:W.keepIn K (.ref f38)=true)
  (aC0:W.nsIn K mainGlobals "Walk" = some (some (.ref C0))) (a39:W.findIn K (.ref C0) "__init__" = some (some (.ref f39))) (i39:W.isFn K (.ref f39)=true)
  (l39:LkF K f39 "__init__" "Walk.__init__" qA oc39 od39 kV39 dc39 pm39 an39 cd39 ct39 sl39) (c39:W.codeIn K cd39 "Walk.__init__" = true) (k39:W.keepIn K (.ref f39)=true)
  (pg0:W.plainGet K C0 Str.empty=true) (hd0:W.hasDictIn K C0=true) (po0:W.plainOver K C0=true) (sa0:W.findIn K (.ref C0) "__setattr__" = some (some (.builtin "object.__setattr__"))) (mk0:W.makesIn K C0=true) (kc0:W.keepIn K (.ref C0)=true)
  (n0_0:W.findIn K (.ref C0) "f" = some none)
  (n0_1:W.findIn K (.ref C0) "procs" = some none)
  (n0_2:W.findIn K (.ref C0) "met" = some none)
  {tkd:Tok} (dag:W.nsIn K mainGlobals "MOST_WAYS" = some (some (.int 16 tkd)))
  (z0:W.nsIn K mainGlobals "len" = some none) (z1:W.nsIn K mainGlobals "max" = some none) (z2:W.nsIn K mainGlobals "min" = some none) (z3:W.nsIn K mainGlobals "all" = some none) (z4:W.nsIn K mainGlobals "isinstance" = some none) (z5:W.nsIn K mainGlobals "abs" = some none) (z6:W.nsIn K mainGlobals "sorted" = some none) (z7:W.nsIn K mainGlobals "int" = some none) (z8:W.nsIn K mainGlobals "str" = some none) (z9:W.nsIn K mainGlobals "bool" = some none) (z10:W.nsIn K mainGlobals "tuple" = some none) (z11:W.nsIn K mainGlobals "list" = some none) (z12:W.nsIn K mainGlobals "dict" = some none) (z13:W.nsIn K mainGlobals "range" = some none) (z14:W.nsIn K mainGlobals "set" = some none) (z15:W.nsIn K mainGlobals "enumerate" = some none) (z16:W.nsIn K mainGlobals "zip" = some none) :
  ∃ fd:FuncData,(∀ (s:Shared) (v:Value),BindsTo s fd ⟨[v],[]⟩ [("_law_script",v)])∧∀ base:Heap,K.In base→base.Ns mainGlobals mg→FnOk l.prog w K mg base CX0 10 fa fd ["_law_script"] (jaz K):=by
 have e:=hfa.symm.trans (W.mg_of X G a38)
 cases e
 have B:Free0 mg:=⟨W.mg_none_of X G z0,W.mg_none_of X G z1,W.mg_none_of X G z2,W.mg_none_of X G z3,W.mg_none_of X G z4,W.mg_none_of X G z5,W.mg_none_of X G z6,W.mg_none_of X G z7,W.mg_none_of X G z8,W.mg_none_of X G z9,W.mg_none_of X G z10,W.mg_none_of X G z11,W.mg_none_of X G z12,W.mg_none_of X G z13,W.mg_none_of X G z14⟩
 have Z_enumerate:mg "enumerate" = none:=W.mg_none_of X G z15
 have Z_zip:mg "zip" = none:=W.mg_none_of X G z16
 have G_ways:mg "MOST_WAYS" = some (.int 16 tkd):=W.mg_of X G dag
 have U0:=jP (st:=qB) l0 c0 k0
 have b0:=U0.binds (ps:=["term"]) fun _ _ _ _ _ _ us hl=>match us,hl with | [_],_=>rfl
 have U1:=jP (st:=qr) l1 c1 k1
 have b1:=U1.binds (ps:=["claim"]) fun _ _ _ _ _ _ us hl=>match us,hl with | [_],_=>rfl
 have U2:=jP (st:=kZ) l2 c2 k2
 have b2:=U2.binds (ps:=["claims"]) fun _ _ _ _ _ _ us hl=>match us,hl with | [_],_=>rfl
 have U3:=jP (st:=qY) l3 c3 k3
 have b3:=U3.binds (ps:=["statement"]) fun _ _ _ _ _ _ us hl=>match us,hl with | [_],_=>rfl
 have U4:=jP (st:=qq) l4 c4 k4
 have b4:=U4.binds (ps:=["statement"]) fun _ _ _ _ _ _ us hl=>match us,hl with | [_],_=>rfl
 have U5:=jP (st:=zr) l5 c5 k5
 have b5:=U5.binds (ps:=["statement"]) fun _ _ _ _ _ _ us hl=>match us,hl with | [_],_=>rfl
 have U6:=jP (st:=qa) l6 c6 k6
 have b6:=U6.binds (ps:=["body"]) fun _ _ _ _ _ _ us hl=>match us,hl with | [_],_=>rfl
 have U7:=jP (st:=qE) l7 c7 k7
 have b7:=U7.binds (ps:=["proc"]) fun _ _ _ _ _ _ us hl=>match us,hl with | [_],_=>rfl
 have U8:=jP (st:=qp) l8 c8 k8
 have b8:=U8.binds (ps:=["x"]) fun _ _ _ _ _ _ us hl=>match us,hl with | [_],_=>rfl
 have U9:=jP (st:=zM) l9 c9 k9
 have b9:=U9.binds (ps:=["claims"]) fun _ _ _ _ _ _ us hl=>match us,hl with | [_],_=>rfl
 have U10:=jP (st:=qS) l10 c10 k10
 have b10:=U10.binds (ps:=["proc"]) fun _ _ _ _ _ _ us hl=>match us,hl with | [_],_=>rfl
 have U11:=jP (st:=KF) l11 c11 k11
 have b11:=U11.binds (ps:=["walk","kind","path","ways","claims"]) fun _ _ _ _ _ _ us hl=>match us,hl with | [_,_,_,_,_],_=>rfl
 have U12:=jP (st:=qt) l12 c12 k12
 have b12:=U12.binds (ps:=["ways","rows"]) fun _ _ _ _ _ _ us hl=>match us,hl with | [_,_],_=>rfl
 have U13:=jP (st:=zn) l13 c13 k13
 have b13:=U13.binds (ps:=["name","names"]) fun _ _ _ _ _ _ us hl=>match us,hl with | [_,_],_=>rfl
 have U14:=jP (st:=qX) l14 c14 k14
 have b14:=U14.binds (ps:=["place","names"]) fun _ _ _ _ _ _ us hl=>match us,hl with | [_,_],_=>rfl
 have U15:=jP (st:=zm) l15 c15 k15
 have b15:=U15.binds (ps:=["term","names"]) fun _ _ _ _ _ _ us hl=>match us,hl with | [_,_],_=>rfl
 have U16:=jP (st:=jaJ) l16 c16 k16
 have b16:=U16.binds (ps:=["claim","names"]) fun _ _ _ _ _ _ us hl=>match us,hl with | [_,_],_=>rfl
 have U17:=jP (st:=qb) l17 c17 k17
 have b17:=U17.binds (ps:=["walk","statement","ways","path"]) fun _ _ _ _ _ _ us hl=>match us,hl with | [_,_,_,_],_=>rfl
 have U18:=jP (st:=kY) l18 c18 k18
 have b18:=U18.binds (ps:=["walk","statement","ways","path"]) fun _ _ _ _ _ _ us hl=>match us,hl with | [_,_,_,_],_=>rfl
 have U19:=jP (st:=zl) l19 c19 k19
 have b19:=U19.binds (ps:=["walk","body","ways","around"]) fun _ _ _ _ _ _ us hl=>match us,hl with | [_,_,_,_],_=>rfl
 have U20:=jP (st:=zq) l20 c20 k20
 have b20:=U20.binds (ps:=["proc","procs"]) fun _ _ _ _ _ _ us hl=>match us,hl with | [_,_],_=>rfl
 have U21:=jP (st:=kM) l21 c21 k21
 have b21:=U21.binds (ps:=["program"]) fun _ _ _ _ _ _ us hl=>match us,hl with | [_],_=>rfl
 have U22:=jP (st:=Jq) l22 c22 k22
 have b22:=U22.binds (ps:=["program"]) fun _ _ _ _ _ _ us hl=>match us,hl with | [_],_=>rfl
 have U23:=jP (st:=jaL) l23 c23 k23
 have b23:=U23.binds (ps:=["_law_script","_law_k"]) fun _ _ _ _ _ _ us hl=>match us,hl with | [_,_],_=>rfl
 have U24:=jP (st:=jaH) l24 c24 k24
 have b24:=U24.binds (ps:=["_law_cell_here"]) fun _ _ _ _ _ _ us hl=>match us,hl with | [_],_=>rfl
 have U25:=jP (st:=Yi) l25 c25 k25
 have b25:=U25.binds (ps:=["_law_script","_law_start","_law_many"]) fun _ _ _ _ _ _ us hl=>match us,hl with | [_,_,_],_=>rfl
 have U26:=jP (st:=jea) l26 c26 k26
 have b26:=U26.binds (ps:=["_law_cell_here"]) fun _ _ _ _ _ _ us hl=>match us,hl with | [_],_=>rfl
 have U27:=jP (st:=Yj) l27 c27 k27
 have b27:=U27.binds (ps:=["_law_cell_here","_law_nums"]) fun _ _ _ _ _ _ us hl=>match us,hl with | [_,_],_=>rfl
 have U28:=jP (st:=jaI) l28 c28 k28
 have b28:=U28.binds (ps:=["_law_cell_here","_law_nums","_law_rows"]) fun _ _ _ _ _ _ us hl=>match us,hl with | [_,_,_],_=>rfl
 have U29:=jP (st:=Yl) l29 c29 k29
 have b29:=U29.binds (ps:=["_law_cell_here","_law_nums","_law_rows"]) fun _ _ _ _ _ _ us hl=>match us,hl with | [_,_,_],_=>rfl
 have U30:=jP (st:=JP) l30 c30 k30
 have b30:=U30.binds (ps:=["_law_thing","_law_nums"]) fun _ _ _ _ _ _ us hl=>match us,hl with | [_,_],_=>rfl
 have U31:=jP (st:=jaK) l31 c31 k31
 have b31:=U31.binds (ps:=["_law_script","_law_at","_law_f","_law_params","_law_rows"]) fun _ _ _ _ _ _ us hl=>match us,hl with | [_,_,_,_,_],_=>rfl
 have U32:=jP (st:=JQ) l32 c32 k32
 have b32:=U32.binds (ps:=["_law_cell_here","_law_heads","_law_nums","_law_free","_law_rows"]) fun _ _ _ _ _ _ us hl=>match us,hl with | [_,_,_,_,_],_=>rfl
 have U33:=jP (st:=Ym) l33 c33 k33
 have b33:=U33.binds (ps:=["_law_script","_law_heads","_law_nums","_law_free","_law_rows"]) fun _ _ _ _ _ _ us hl=>match us,hl with | [_,_,_,_,_],_=>rfl
 have U34:=jP (st:=Yk) l34 c34 k34
 have b34:=U34.binds (ps:=["_law_names","_law_word_here"]) fun _ _ _ _ _ _ us hl=>match us,hl with | [_,_],_=>rfl
 have U35:=jP (st:=yW) l35 c35 k35
 have b35:=U35.binds (ps:=["_law_thing","_law_names"]) fun _ _ _ _ _ _ us hl=>match us,hl with | [_,_],_=>rfl
 have U36:=jP (st:=zL) l36 c36 k36
 have b36:=U36.binds (ps:=["_law_heads","_law_f","_law_n","_law_statement","_law_way","_law_due_here"]) fun _ _ _ _ _ _ us hl=>match us,hl with | [_,_,_,_,_,_],_=>rfl
 have U37:=jP (st:=jbp) l37 c37 k37
 have b37:=U37.binds (ps:=["_law_heads","_law_proc","_law_names"]) fun _ _ _ _ _ _ us hl=>match us,hl with | [_,_,_],_=>rfl
 have U38:=jP (st:=Y6) l38 c38 k38
 have U39:=jP (st:=qA) l39 c39 k39
 have b39:=U39.binds (ps:=["self","f","procs"]) fun _ _ _ _ _ _ us hl=>match us,hl with | [_,_,_],_=>rfl
 have T_Walk:ClsW K C0:=⟨⟨pg0,hd0,po0,sa0⟩,n0_0,n0_1,n0_2⟩
 refine ⟨W.fnOf "law" "law" (yh Y6) (qL Y6) (js Y6) .none kV38 dc38 pm38 an38 cd38 ct38,fun s v=>.of_eq rfl,fun base _ _=>?_⟩
 have F_term_numbers:=Fn.mk' U0 b0 (W.mg_of X G a0) (jdc (P:=l.prog) (w:=w) (base:=base) U0)
 have F_claim_numbers:=Fn.mk' U1 b1 (W.mg_of X G a1) (jbB (P:=l.prog) (w:=w) (base:=base) U1 F_term_numbers)
 have F_claims_numbers:=Fn.mk' U2 b2 (W.mg_of X G a2) (ZX (P:=l.prog) (w:=w) (base:=base) U2 F_claim_numbers)
 have F_own_claims:=Fn.mk' U3 b3 (W.mg_of X G a3) (jfS (P:=l.prog) (w:=w) (base:=base) U3)
 have F_numbers_named:=Fn.mk' U4 b4 (W.mg_of X G a4) (jdh (P:=l.prog) (w:=w) (base:=base) U4 B F_term_numbers F_claims_numbers F_own_claims)
 have F_bodies_of:=Fn.mk' U5 b5 (W.mg_of X G a5) (jbD (P:=l.prog) (w:=w) (base:=base) U5)
 have F_all_statements:=Fn.mk' U6 b6 (W.mg_of X G a6) (jfW (P:=l.prog) (w:=w) (base:=base) U6 F_bodies_of)
 have F_numbers_of:=Fn.mk' U7 b7 (W.mg_of X G a7) (Yt (P:=l.prog) (w:=w) (base:=base) U7 B F_claims_numbers F_all_statements F_numbers_named)
 have F_set_to_nought:=Fn.mk' U8 b8 (W.mg_of X G a8) (jbx (P:=l.prog) (w:=w) (base:=base) U8)
 have F_known:=Fn.mk' U9 b9 (W.mg_of X G a9) (jdk (P:=l.prog) (w:=w) (base:=base) U9)
 have F_first_way:=Fn.mk' U10 b10 (W.mg_of X G a10) (jdl (P:=l.prog) (w:=w) (base:=base) U10 F_numbers_of F_set_to_nought F_known)
 have F_meet:=Fn.mk' U11 b11 (W.mg_of X G a11) (jdi (P:=l.prog) (w:=w) (base:=base) T_Walk U11 B Z_enumerate)
 have F_behind_each:=Fn.mk' U12 b12 (W.mg_of X G a12) (jbE (P:=l.prog) (w:=w) (base:=base) U12)
 have F_name_said:=Fn.mk' U13 b13 (W.mg_of X G a13) (Yu (P:=l.prog) (w:=w) (base:=base) U13)
 have F_place_said:=Fn.mk' U14 b14 (W.mg_of X G a14) (Kl (P:=l.prog) (w:=w) (base:=base) U14 F_name_said)
 have F_term_said:=Fn.mk' U15 b15 (W.mg_of X G a15) (Ys (P:=l.prog) (w:=w) (base:=base) U15 F_name_said F_place_said)
 have F_said:=Fn.mk' U16 b16 (W.mg_of X G a16) (jeK (P:=l.prog) (w:=w) (base:=base) U16 F_name_said F_place_said F_term_said)
 have F_walk_call:=Fn.mk' U17 b17 (W.mg_of X G a17) (jda (P:=l.prog) (w:=w) (base:=base) T_Walk U17 B Z_zip (Fn.mk' U11 b11 (W.mg_of X G a11) (jdj (P:=l.prog) (w:=w) (base:=base) T_Walk U11 B Z_enumerate)) F_behind_each F_said (Fn.mk' U9 b9 (W.mg_of X G a9) (jbz (P:=l.prog) (w:=w) (base:=base) U9)))
 have F_walk_statement:=Fn.mk' U18 b18 (W.mg_of X G a18) (jeJ (P:=l.prog) (w:=w) (base:=base) U18 F_meet F_behind_each F_walk_call)
 have F_walk_body:=Fn.mk' U19 b19 (W.mg_of X G a19) (jeN (P:=l.prog) (w:=w) (base:=base) U19 B Z_enumerate G_ways F_walk_statement)
 have M_Walk:MkFn l.prog w K mg base _ "Walk" C0 _ _:=⟨f39,_,⟨mk0,a39,i39,kc0⟩,jeH (P:=l.prog) (w:=w) (base:=base) T_Walk U39,b39,W.mg_of X G aC0⟩
 have F_duties_of:=Fn.mk' U20 b20 (W.mg_of X G a20) (Zc (P:=l.prog) (w:=w) (base:=base) T_Walk U20 M_Walk F_first_way F_walk_body F_meet)
 have F_procs_by_name:=Fn.mk' U21 b21 (W.mg_of X G a21) (jdg (P:=l.prog) (w:=w) (base:=base) U21)
 have F_duties:=Fn.mk' U22 b22 (W.mg_of X G a22) (jbA (P:=l.prog) (w:=w) (base:=base) U22 F_procs_by_name F_duties_of)
 have F_cell:=Fn.mk' U23 b23 (W.mg_of X G a23) (jeM (P:=l.prog) (w:=w) (base:=base) U23 B)
 have F_word:=Fn.mk' U24 b24 (W.mg_of X G a24) (jeG (P:=l.prog) (w:=w) (base:=base) U24 B)
 have F_words:=Fn.mk' U25 b25 (W.mg_of X G a25) (jc9 (P:=l.prog) (w:=w) (base:=base) U25 B F_cell F_word)
 have F_far:=Fn.mk' U26 b26 (W.mg_of X G a26) (jfU (P:=l.prog) (w:=w) (base:=base) U26)
 have F_place:=Fn.mk' U27 b27 (W.mg_of X G a27) (jbw (P:=l.prog) (w:=w) (base:=base) U27 B F_far)
 have F_term:=Fn.mk' U28 b28 (W.mg_of X G a28) (jdd (P:=l.prog) (w:=w) (base:=base) U28 B F_place)
 have F_claim:=Fn.mk' U29 b29 (W.mg_of X G a29) (jbC (P:=l.prog) (w:=w) (base:=base) U29 B F_far F_place F_term)
 have F_used:=JB (P:=l.prog) (w:=w) (base:=base) B U30 b30 (W.mg_of X G a30) 6
 have F_head:=Fn.mk' U31 b31 (W.mg_of X G a31) (jeL (P:=l.prog) (w:=w) (base:=base) U31 B F_cell F_claim)
 have F_call:=Fn.mk' U32 b32 (W.mg_of X G a32) (jdm (P:=l.prog) (w:=w) (base:=base) U32 B)
 have F_body:=Fn.mk' U33 b33 (W.mg_of X G a33) (jdn (P:=l.prog) (w:=w) (base:=base) U33 B F_cell F_far F_place F_term F_claim F_call)
 have F_named:=Fn.mk' U34 b34 (W.mg_of X G a34) (jby (P:=l.prog) (w:=w) (base:=base) U34)
 have F_lsaid:=Fn.mk' U35 b35 (W.mg_of X G a35) (jdf (P:=l.prog) (w:=w) (base:=base) U35 F_named (Fn.mk' U35 b35 (W.mg_of X G a35) (jde (P:=l.prog) (w:=w) (base:=base) U35 F_named)))
 have F_through:=Fn.mk' U36 b36 (W.mg_of X G a36) (ZW (P:=l.prog) (w:=w) (base:=base) U36 B Z_zip Z_enumerate F_lsaid)
 have F_due:=Fn.mk' U37 b37 (W.mg_of X G a37) (jfV (P:=l.prog) (w:=w) (base:=base) U37 B Z_enumerate F_used F_through)
 exact jfT U38 B F_cell F_words F_head F_body F_due F_duties
theorem walk {l:PySem.W.OpenLaw} {q:Program} {loose:List Str} {XP:(Str→Option Value)→Heap→Prop} {YP:World→Heap→Prop} {d:DefRec} {K:Params→W.Frag} (hn:l.most=some 63) (hdf:d.params.defaults=[])
  (hY:∀ (w:World) (h:Heap),YP w h→(K w.params).In h)
  (F:∀ (w:World) (mg:Str→Option Value) (fa:Addr) (h:Heap),(K w.params).In h→h.Ns mainGlobals mg→mg d.name=some (.ref fa)→
   ∃ fd:FuncData,(∀ (s:Shared) (u:Value),BindsTo s fd ⟨[u],[]⟩ [("_law_script",u)])∧∀ base:Heap,(K w.params).In base→base.Ns mainGlobals mg→FnOk l.prog w (K w.params) mg base CX0 10 fa fd ["_law_script"] (jaz (K w.params))) :
  PySem.W.WalkO q loose XP YP l.row.toRowW d [] (fun f vs=>PySem.call f vs):=
 L2.walk_of (n:=63) (k:=10) (x:="_law_script") (CX:=fun _=>CX0) (sp:=fun w=>jaz (K w.params)) hn (by decide) hdf ⟨rfl,by decide,by decide⟩ hY F (fun _ _ a ns hl _ hS=>⟨a,ns,rfl,hS,hl,fun _=>rfl⟩) fun _ _ _ _ _ z=>z
end LW
namespace PySem.W.Fast
def tw10011338083198308352:=()
def tw10113108305322184349:=()
def tw10176170104624300183:=()
def tw10177769216802371273:=()
def tw10347637249885204230:=()
def tw10439633988832211580:=()
def tw10494958859449839274:=()
def tw10529547948213381591:=()
def tw10610179539146875912:=()
def tw10739366596836105161:=()
def tw10759956404946761210:=()
def tw10792059724264469591:=()
def tw10906254394604321878:=()
def tw1101490563714496393:=()
def tw1108230481179770549:=()
def tw11159476556027571913:=()
def tw11269317377418138336:=()
def tw11435946433238595907:=()
def tw11928854449239149532:=()
def tw12171163309974107537:=()
def tw12335193514261630312:=()
def tw12492183681100723426:=()
def tw12493197045708892962:=()
def tw12654378827183440323:=()
def tw12762100570580097353:=()
def tw12765495737782785303:=()
def tw12777345348117485842:=()
def tw12968252213303281007:=()
def tw13209538314563864458:=()
def tw13237395330748716308:=()
def tw13241466517867085719:=()
def tw1330484882760750832:=()
def tw13504382219307980956:=()
def tw13617048049580630501:=()
def tw13639816533390572019:=()
def tw13681665583173457596:=()
def tw13695768338725391975:=()
def tw13834832203012872859:=()
def tw14118685759284991215:=()
def tw14230654080083899981:=()
def tw14306676090431854467:=()
def tw14958656216860170616:=()
def tw14998722080468654412:=()
def tw15004725057923344264:=()
def tw15187007031320213406:=()
def tw15438690560477170393:=()
def tw1568076576192857760:=()
def tw15730296886644531393:=()
def tw15912167744975061839:=()
def tw15921934939632014141:=()
def tw15943733047787230573:=()
def tw15948849501999517992:=()
def tw15977383225566606944:=()
def tw16005961053446846428:=()
def tw16107236421858321843:=()
def tw16143247174372880172:=()
def tw16219374096948647855:=()
def tw16225728615559505013:=()
def tw1624124299048940396:=()
def tw16242942892171589914:=()
def tw1647035308000130772:=()
def tw1675721201995733993:=()
def tw16887360869504411546:=()
def tw17549596676474084588:=()
def tw17798807551942117097:=()
def tw17926650947408035319:=()
def tw17989140194865863045:=()
def tw18023417371510269358:=()
def tw18145697838306424175:=()
def tw18254729294680500160:=()
def tw18342454335263052364:=()
def tw18409675191853452853:=()
def tw1868521907247722290:=()
def tw1932437203418405374:=()
def tw219236469639548829:=()
def tw2341944543749717151:=()
def tw2727390533618420243:=()
def tw2731096576223662556:=()
def tw2890690838767286306:=()
def tw2955094152148351208:=()
def tw3031612114043097972:=()
def tw3096562405798172356:=()
def tw3147964019246840436:=()
def tw3394671661039103907:=()
def tw3421793596483312162:=()
def tw3461361432553739410:=()
def tw3855865004505835276:=()
def tw3885216468250679721:=()
def tw3904230862337884755:=()
def tw393263911476243549:=()
def tw4034247392953262532:=()
def tw4246573574285335126:=()
def tw449509406702376104:=()
def tw4498544287923895069:=()
def tw4531418662309191240:=()
def tw4898987671147293251:=()
def tw4909317535866597148:=()
def tw5045831581408743804:=()
def tw5186491505408390310:=()
def tw5210022501699827997:=()
def tw5568042039245547024:=()
def tw5968831690565770041:=()
def tw6245990345589194810:=()
def tw6248790228295498776:=()
def tw6534277215292751811:=()
def tw6679941287819774660:=()
def tw6746847907003499653:=()
def tw6771191808469252636:=()
def tw6890546633163597831:=()
def tw7204976139996189485:=()
def tw7330913289107831464:=()
def tw75344116863662287:=()
def tw7609253205049946911:=()
def tw783620456156682615:=()
def tw7920831660127560943:=()
def tw8006416831834778878:=()
def tw8178404092834651108:=()
def tw818741313577963303:=()
def tw839579116837331760:=()
def tw8400835307413890446:=()
def tw8578623787334995989:=()
def tw8738931437366544939:=()
def tw9135558608099286155:=()
def tw924804765670122185:=()
def tw9272106527693378307:=()
def tw9414578913568694173:=()
def tw9768843837655015637:=()
def tw9874357686875160099:=()
end PySem.W.Fast
open PySem PySem.W PyProof.Rows
set_option maxRecDepth 100000 in
set_option maxHeartbeats 0 in
theorem PySem.Challenge.cw_outlineward_k63_duties_of_calls_holds : PySem.Challenge.rw_outlineward_k63_duties_of_calls.Holds := by
 w_on;o_law;k_head;(case hw=>w_witness2)
 k_fill
 refine LW.walk (l:=PySem.Challenge.rw_outlineward_k63_duties_of_calls) rfl rfl (fun w h Y=>W.kIn_of Y) ?F
 case F=>
  intro w mg fa h KX G hmg
  refine' LW.all_mk KX G hmg ?_ ?_ ?_ ?_ ?_ ?_ ?_ ?_ ?_ ?_ ?_ ?_ ?_ ?_ ?_ ?_ ?_ ?_ ?_ ?_ ?_ ?_ ?_ ?_ ?_ ?_ ?_ ?_ ?_ ?_ ?_ ?_ ?_ ?_ ?_ ?_ ?_ ?_ ?_ ?_ ?_ ?_ ?_ ?_ ?_ ?_ ?_ ?_ ?_ ?_ ?_ ?_ ?_ ?_ ?_ ?_ ?_ ?_ ?_ ?_ ?_ ?_ ?_ ?_ ?_ ?_ ?_ ?_ ?_ ?_ ?_ ?_ ?_ ?_ ?_ ?_ ?_ ?_ ?_ ?_ ?_ ?_ ?_ ?_ ?_ ?_ ?_ ?_ ?_ ?_ ?_ ?_ ?_ ?_ ?_ ?_ ?_ ?_ ?_ ?_ ?_ ?_ ?_ ?_ ?_ ?_ ?_ ?_ ?_ ?_ ?_ ?_ ?_ ?_ ?_ ?_ ?_ ?_ ?_ ?_ ?_ ?_ ?_ ?_ ?_ ?_ ?_ ?_ ?_ ?_ ?_ ?_ ?_ ?_ ?_ ?_ ?_ ?_ ?_ ?_ ?_ ?_ ?_ ?_ ?_ ?_ ?_ ?_ ?_ ?_ ?_ ?_ ?_ ?_ ?_ ?_ ?_ ?_ ?_ ?_ ?_ ?_ ?_ ?_ ?_ ?_ ?_ ?_ ?_ ?_ ?_ ?_ ?_ ?_ ?_ ?_ ?_ ?_ ?_ ?_ ?_ ?_ ?_ ?_ ?_ ?_ ?_ ?_ ?_
  all_goals try ((try unfold LW.LkF);k_is)
