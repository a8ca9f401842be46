import PyProof.Rows.All
import Wide.All
import OpenK.AllK
import Wide.FinOn
import Lean
import PyProof.EqAt
import PyProof.EqKinds
import PyProof.TupleCall
import PyProof.NeKinds
import KE.KEqDict
import KE.KDictSum
import PyProof.Rows.StrMul
import PyProof.Rows.SortStr
import PyProof.Rows.SortWalk
import KE.KSortTup
import PyProof.IsiH_list
import KE.KDictOf
import KE.KItemsList
import PyProof.SetKind
import PyProof.Rows.SetFrom
import PyProof.IsRules
import PyProof.EnumStmt
import PyProof.EnumFor
import PyProof.EnumMake
import PyProof.Rows.StrJoin2
import KE.KDictList
import PyProof.ZipIter
import PyProof.DictCompW
import PyProof.DictUpdate
import PyProof.Rows.SortShellK
import PyProof.TupleKey
import PyProof.ReprRoads
import KE.KDictLaws
import PyProof.Rows.SumAny
import PyProof.FactsAll.set_2
import KE.KSetDisp
import PyProof.SeqI3
import PySem.Challenge.RW_outlineward_k51_papers
set_option Elab.async false
set_option linter.all false
set_option maxRecDepth 100000
set_option maxHeartbeats 4000000
namespace L2
open PySem PySem.Spec PyProof.Rows
abbrev Key:=Sum Int Str
def KH:Key→Value→Bool
 | .inl k,v=>Value.isInt k v
 | .inr x,v=>Value.isStrOf x v
def jhd (w:World):Key→Int
 | .inl k=>hashInt k
 | .inr x=>hashStr w x
theorem jW:∀ {k:Key} {v:Value},KH k v=true→(∃ i t,k=Sum.inl i∧v=Value.int i t)∨(∃ x t,k=Sum.inr x∧v=Value.str x t)
 | .inl i,v,h=>by
  obtain ⟨t,e⟩:=Value.isInt_shape (k:=i) (v:=v) h
  exact .inl ⟨i,t,rfl,e⟩
 | .inr x,v,h=>by
  obtain ⟨t,e⟩:=Value.isStrOf_shape (x:=x) (v:=v) h
  exact .inr ⟨x,t,rfl,e⟩
theorem jch (i:Int) (t:Tok):KH (.inl i) (.int i t)=true:=by simp [KH,Value.isInt]
theorem jcg (x:Str) (t:Tok):KH (.inr x) (.str x t)=true:=by simp [KH,Value.isStrOf]
theorem jf7 (a b:Int):decide ((Sum.inl a:Key)=Sum.inl b)=(a == b):=by
 by_cases e:a=b
 ·subst e;simp
 ·have h:¬ (Sum.inl a:Key)=Sum.inl b:=fun q=>e (Sum.inl.inj q)
  rw [decide_eq_false h]
  exact (beq_eq_false_iff_ne.mpr e).symm
theorem jf4 (a b:Str):decide ((Sum.inr a:Key)=Sum.inr b)=decide (a=b):=by
 by_cases e:a=b
 ·subst e;simp
 ·have h:¬ (Sum.inr a:Key)=Sum.inr b:=fun q=>e (Sum.inr.inj q)
  rw [decide_eq_false h,decide_eq_false e]
theorem jf6 (a:Int) (b:Str):decide ((Sum.inl a:Key)=Sum.inr b)=false:=decide_eq_false (fun q=>nomatch q)
theorem jf5 (a:Str) (b:Int):decide ((Sum.inr a:Key)=Sum.inl b)=false:=decide_eq_false (fun q=>nomatch q)
def jY (prog:Program) (w:World):PySem.KeyKind prog w Key where
 is:=KH
 hash:=jhd w
 inj:=fun v a b ha hb=>by
  rcases jW ha with ⟨i,t,rfl,rfl⟩ | ⟨x,t,rfl,rfl⟩
  ·rcases jW hb with ⟨j,u,rfl,e⟩ | ⟨y,u,rfl,e⟩
   ·injection e with e1 _;rw [e1]
   ·exact nomatch e
  ·rcases jW hb with ⟨j,u,rfl,e⟩ | ⟨y,u,rfl,e⟩
   ·exact nomatch e
   ·injection e with e1 _;rw [e1]
 byValue:=fun k v h=>by
  rcases jW h with ⟨i,t,rfl,rfl⟩ | ⟨x,t,rfl,rfl⟩ <;> rfl
 pyHash:=fun hv h=>by
  rcases jW hv with ⟨i,t,rfl,rfl⟩ | ⟨x,t,rfl,rfl⟩
  ·exact wpAny_pyHash_int h
  ·exact wpAny_pyHash_str h
 eqBool:=fun hu hv h=>by
  rcases jW hu with ⟨i,t,rfl,rfl⟩ | ⟨x,t,rfl,rfl⟩
  ·rcases jW hv with ⟨j,u,rfl,rfl⟩ | ⟨y,u,rfl,rfl⟩
   ·rw [jf7] at h;exact wpAny_eqBool_int h
   ·rw [jf6] at h;exact SeqAt.EqAt.int_str i t y u _ _ _ _ h
  ·rcases jW hv with ⟨j,u,rfl,rfl⟩ | ⟨y,u,rfl,rfl⟩
   ·rw [jf5] at h;exact SeqAt.EqAt.str_int x t j u _ _ _ _ h
   ·rw [jf4] at h;exact wpAny_eqBool_str h
 «strs»:=fun k x t v h=>by
  rcases jW h with ⟨i,u,rfl,e⟩ | ⟨y,u,rfl,e⟩
  ·exact nomatch e
  ·injection e with e1 _
   subst e1
   cases v <;> rfl
theorem Zk (prog:Program) (w:World) (i:Int) (t:Tok):(jY prog w).is (.inl i) (.int i t)=true:=jch i t
theorem Zj (prog:Program) (w:World) (x:Str) (t:Tok):(jY prog w).is (.inr x) (.str x t)=true:=jcg x t
inductive V where
 | non | bl (b:Bool) | int (i:Int) | str (x:Str) | byt (b:Array UInt8) | flt (b:UInt64) | ref (a:Addr) | ty (n:String)
 deriving DecidableEq
def RelV:V→Value→Prop
 | .non,u=>u=Value.none
 | .bl b,u=>u=Value.bool b
 | .int i,u=>∃ t,u=Value.int i t
 | .str x,u=>∃ t,u=Value.str x t
 | .byt b,u=>∃ t,u=Value.bytes b t
 | .flt b,u=>∃ t,u=Value.float b t
 | .ref a,u=>u=Value.ref a
 | .ty n,u=>u=Value.type n
abbrev Vals:List V→List Value→Prop:=Paired RelV
theorem Vals.length {xs:List V} {us:List Value} (r:Vals xs us):xs.length=us.length:=Paired.length r
theorem Vals.get:∀ {xs:List V} {us:List Value} {i:Nat} {x:V},Vals xs us→xs[i]?=some x→∃ u,us[i]?=some u∧RelV x u
 | _,_,_,_,.nil,e=>by simp at e
 | _,_,0,_,.cons r _,e=>by simp at e;subst e;exact ⟨_,rfl,r⟩
 | _,_,i+1,x,.cons _ t,e=>by
  obtain ⟨u,h1,h2⟩:=Vals.get (i:=i) (x:=x) t (by simpa using e)
  exact ⟨u,by simpa using h1,h2⟩
theorem Vals.set {x:V} {u:Value} (r:RelV x u):∀ {xs:List V} {us:List Value} (i:Nat),Vals xs us→Vals (xs.set i x) (us.set i u)
 | _,_,_,.nil=>.nil
 | _,_,0,.cons _ t=>.cons r t
 | _,_,i+1,.cons q t=>.cons q (Vals.set r i t)
theorem Vals.append:∀ {xs ys:List V} {us ws:List Value},Vals xs us→Vals ys ws→Vals (xs++ys) (us++ws)
 | _,_,_,_,.nil,s=>s
 | _,_,_,_,.cons r t,s=>.cons r (Vals.append t s)
theorem Vals.take:∀ {xs:List V} {us:List Value} (n:Nat),Vals xs us→Vals (xs.take n) (us.take n)
 | _,_,0,_=>.nil
 | _,_,_+1,.nil=>.nil
 | _,_,n+1,.cons r t=>.cons r (Vals.take n t)
theorem Vals.drop:∀ {xs:List V} {us:List Value} (n:Nat),Vals xs us→Vals (xs.drop n) (us.drop n)
 | _,_,0,r=>r
 | _,_,_+1,.nil=>.nil
 | _,_,n+1,.cons _ t=>Vals.drop n t
def RelO:Option V→Option Value→Prop
 | some v,some u=>RelV v u
 | none,none=>True
 | _,_=>False
def KV {κ:Type}:List (κ×V)→List (κ×Value)→Prop:=Paired fun (p:κ×V) (q:κ×Value)=>p.1=q.1∧RelV p.2 q.2
def kV:Key→V
 | .inl i=>.int i
 | .inr x=>.str x
inductive HO where
 | lst (xs:List V)
 | tup (xs:List V)
 | dK (kvs:List (Key×V)) | dT (kvs:List (List Key×V))
 | set (S:Int→Bool) (n:Nat)
 | ins (C dx:Addr) (fs:List (Str×V))
 | own (x:Addr)
 | xd (fs:List (Str×V))
 | met (f x:Addr)
 | rng (lo hi:Int)
 | frz (o:Obj) (u:HO)
 | tbl (ps:Array Value)
 | ext (φ:Heap→Prop)
abbrev Hp:=Addr→Option HO
def upd (H:Hp) (a:Addr) (o:HO):Hp:=fun b=>if b=a then some o else H b
theorem jd {H:Hp} {a:Addr} {o:HO}:upd H a o a=some o:=by unfold upd;rw [if_pos rfl]
theorem jm {H:Hp} {a b:Addr} {o:HO} (h:b≠a):upd H a o b=H b:=by unfold upd;rw [if_neg h]
theorem jgT {H:Hp} {a b:Addr} {o u:HO} (h:H a=some o) (h':H b=some u) (d:o≠u):a≠b:=by
 intro e;subst e;rw [h] at h';exact d (Option.some.inj h')
theorem js {H:Hp} {a b:Addr} {o:HO} (h:H a=some o) (h':H b=none):a≠b:=by
 intro e;subst e;rw [h] at h';cases h'
section
variable (P:Program) (w:World)
def ObjOk (H:Hp) (h:Heap) (a:Addr):HO→Prop
 | .lst xs=>xs.length≤sizeLine∧∃ (its:List Value) (n:Nat),Vals xs its∧h.get? a=some { cls:=.type "list",data:=.seq its.toArray n }
 | .tup xs=>xs.length≤sizeLine∧∃ its:List Value,Vals xs its∧IsTup h a its.toArray
 | .dK kvs=>kvs.length≤sizeLine∧(a == sysModules)=false∧∃ vs,KV kvs vs∧h.DictOf (jY P w) a vs
 | .dT kvs=>kvs.length≤sizeLine∧(a == sysModules)=false∧∃ xs:List (List Key×Addr×Value),
   Paired (fun (p:List Key×V) (q:List Key×Addr×Value)=>p.1=q.1∧H q.2.1=some (.tup (p.1.map kV))∧RelV p.2 q.2.2) kvs xs∧
   ∃ o es ep,h.get? a=some o∧o.ExactDict∧o.data=.dict es ep∧es.toList=xs.map (entryOfKey (tupleKind (jY P w)))∧(xs.map (·.1)).Nodup
 | .set S n=>h.SetOf (intKind P w) a S n
 | .ins C dx fs=>H dx=some (.own a)∧fs.length≤1000∧dx≠a∧h.get? a=some (PySem.W.instObj C dx)∧
   ∃ mA,h.Ns1 dx mA∧(∀ f,RelO (fs.lookup f) (mA f))∧PySem.Within mA (fs.map (·.1))
 | .own _=>∃ o,h.get? a=some o
 | .xd fs=>∃ mA,h.Ns1 a mA∧∀ f,RelO (fs.lookup f) (mA f)
 | .rng lo hi=>∃ t u v,h.get? a=some { cls:=.type "range",data:=.fields #[.int lo t,.int hi u,.int 1 v] }
 | .frz o u=>h.get? a=some o∧ObjOk H h a u
 | .tbl ps=>h.get? a=some { cls:=.none,data:=.fields ps }
 | .met f x=>h.get? a=some (PySem.W.methodObj (.ref f) (.ref x))
 | .ext φ=>φ h∧(∃ o,h.get? a=some o)∧∀ h1 h2:Heap,φ h1→(∀ o,h1.get? a=some o→h2.get? a=some o)→φ h2
def HOk (H:Hp) (h:Heap):Prop:=∀ a o,H a=some o→ObjOk P w H h a o
end
section
variable {P:Program} {w:World} {H H':Hp} {h h':Heap} {a:Addr} {o:HO}
theorem ObjOk.lt (x:ObjOk P w H h a o):a < h.objs.size:=by
 cases o with
 | lst xs=>obtain ⟨_,_,_,_,e⟩:=x;exact Heap.lt_size e
 | tup xs=>obtain ⟨_,_,_,p⟩:=x;exact p.lt
 | dK kvs=>obtain ⟨_,_,_,_,o,_,_,e,_⟩:=x;exact Heap.lt_size e
 | dT kvs=>obtain ⟨_,_,_,_,o,_,_,e,_⟩:=x;exact Heap.lt_size e
 | set S n=>obtain ⟨o,_,_,_,e,_⟩:=x;exact Heap.lt_size e
 | ins C dx fs=>obtain ⟨_,_,_,e,_⟩:=x;exact Heap.lt_size e
 | own y=>obtain ⟨_,e⟩:=x;exact Heap.lt_size e
 | xd fs=>obtain ⟨_,⟨_,_,_,e,_⟩,_⟩:=x;exact Heap.lt_size e
 | rng lo hi=>obtain ⟨_,_,_,e⟩:=x;exact Heap.lt_size e
 | frz ob u=>obtain ⟨e,_⟩:=x;exact Heap.lt_size e
 | tbl ps=>exact Heap.lt_size (show h.get? a=some _ from x)
 | met f y=>exact Heap.lt_size (show h.get? a=some _ from x)
 | ext φ=>obtain ⟨_,⟨_,e⟩,_⟩:=x;exact Heap.lt_size e
theorem Paired.mapP {α β:Type} {F G:α→β→Prop}:∀ {l₁:List α} {l₂:List β},Paired F l₁ l₂→(∀ a b,F a b→G a b)→Paired G l₁ l₂
 | _,_,.nil,_=>.nil
 | _,_,.cons r t,f=>.cons (f _ _ r) (Paired.mapP t f)
theorem ObjOk.stay (x:ObjOk P w H h a o) (k:∀ b u,(b=a∨H b=some (.own a))→h.get? b=some u→h'.get? b=some u)
  (ho:∀ b,H b=some (.own a)→H' b=some (.own a)) (ht:∀ b xs,H b=some (.tup xs)→H' b=some (.tup xs)):ObjOk P w H' h' a o:=by
 induction o with
 | lst xs=>obtain ⟨z,its,n,r,e⟩:=x;exact ⟨z,its,n,r,k _ _ (.inl rfl) e⟩
 | tup xs=>obtain ⟨z,its,r,ob,e,c⟩:=x;exact ⟨z,its,r,ob,k _ _ (.inl rfl) e,c⟩
 | dK kvs=>obtain ⟨z,y,vs,r,ob,es,ep,e,c⟩:=x;exact ⟨z,y,vs,r,ob,es,ep,k _ _ (.inl rfl) e,c⟩
 | dT kvs=>
  obtain ⟨z,y,xs,r,ob,es,ep,e,c⟩:=x
  exact ⟨z,y,xs,Paired.mapP r fun p q z=>⟨z.1,ht _ _ z.2.1,z.2.2⟩,ob,es,ep,k _ _ (.inl rfl) e,c⟩
 | set S n=>obtain ⟨ob,es,ep,t,e,c⟩:=x;exact ⟨ob,es,ep,t,k _ _ (.inl rfl) e,c⟩
 | ins C dx fs=>
  obtain ⟨d,z,ne,e,mA,⟨od,es,ep,e2,c⟩,r⟩:=x
  exact ⟨ho _ d,z,ne,k _ _ (.inl rfl) e,mA,⟨od,es,ep,k _ _ (.inr d) e2,c⟩,r⟩
 | own y=>obtain ⟨ob,e⟩:=x;exact ⟨ob,k _ _ (.inl rfl) e⟩
 | xd fs=>obtain ⟨mA,⟨od,es,ep,e,c⟩,r⟩:=x;exact ⟨mA,⟨od,es,ep,k _ _ (.inl rfl) e,c⟩,r⟩
 | rng lo hi=>obtain ⟨t,u,v,e⟩:=x;exact ⟨t,u,v,k _ _ (.inl rfl) e⟩
 | frz ob u ih=>obtain ⟨e,q⟩:=x;exact ⟨k _ _ (.inl rfl) e,ih q⟩
 | tbl ps=>
  have e:h.get? a=some { cls:=.none,data:=.fields ps }:=x
  show h'.get? a=some { cls:=.none,data:=.fields ps }
  exact k a _ (.inl rfl) e
 | met f y=>
  have e:h.get? a=some (PySem.W.methodObj (.ref f) (.ref y)):=x
  show h'.get? a=some (PySem.W.methodObj (.ref f) (.ref y))
  exact k a _ (.inl rfl) e
 | ext φ=>obtain ⟨p,⟨o,e⟩,st⟩:=x;exact ⟨st _ _ p fun o q=>k _ _ (.inl rfl) q,⟨o,k _ _ (.inl rfl) e⟩,st⟩
theorem HOk.lt (x:HOk P w H h) (e:H a=some o):a < h.objs.size:=(x a o e).lt
theorem HOk.fresh (x:HOk P w H h) (e:h.objs.size≤a):H a=none:=by
 cases q:H a with
 | none=>rfl
 | some u=>exact absurd (Nat.lt_of_lt_of_le (x.lt q) e) (Nat.lt_irrefl _)
theorem HOk.kept (x:HOk P w H h) (k:∀ b u,h.get? b=some u→h'.get? b=some u):HOk P w H h':=fun a o e=>
 (x a o e).stay (fun b u _ q=>k b u q) (fun _ q=>q) fun _ _ q=>q
theorem HOk.laid (x:HOk P w H h) (k:∀ b u,h.get? b=some u→h'.get? b=some u) (hp:h.objs.size≤a) (new:ObjOk P w (upd H a o) h' a o):HOk P w (upd H a o) h':=fun b u e=>by
 have hn:=x.fresh hp
 by_cases hb:b=a
 ·subst hb;rw [jd] at e;cases e;exact new
 ·rw [jm hb] at e
  exact (x b u e).stay (fun c v _ q=>k c v q) (fun c q=>by rw [jm (js q hn)];exact q) fun c xs q=>by rw [jm (js q hn)];exact q
end
def Rd (H:Hp) (a:Addr) (u:HO):Prop:=H a=some u∨∃ o,H a=some (.frz o u)
theorem Rd.of {H:Hp} {a:Addr} {u:HO} (h:H a=some u):Rd H a u:=.inl h
theorem Rd.ok {P:Program} {w:World} {H:Hp} {h:Heap} {a:Addr} {u:HO} (r:Rd H a u) (x:HOk P w H h):ObjOk P w H h a u:=by
 rcases r with r | ⟨o,r⟩
 ·exact x a u r
 ·obtain ⟨_,q⟩:=x a _ r
  exact q
def Mut:Option HO→Prop
 | some (.lst _)=>True
 | some (.dK _)=>True
 | some (.dT _)=>True
 | some (.set _ _)=>True
 | some (.ins _ _ _)=>True
 | some (.ext _)=>True
 | _=>False
section
variable {P:Program} {w:World} {H:Hp} {h h':Heap} {x e:Addr} {o':HO}
theorem HOk.write (ok:HOk P w H h) (mu:Mut (H x)) (he:e=x∨H e=some (.own x)) (k:∀ b u,b≠e→h.get? b=some u→h'.get? b=some u) (heo:∃ u,h'.get? e=some u)
  (new:ObjOk P w (upd H x o') h' x o'):HOk P w (upd H x o') h':=fun b u q=>by
 have nown:∀ c y,H c=some (.own y)→c≠x:=fun c y r z=>by subst z;rw [r] at mu;exact mu
 have ntup:∀ c xs,H c=some (.tup xs)→c≠x:=fun c xs r z=>by subst z;rw [r] at mu;exact mu
 by_cases hb:b=x
 ·subst hb;rw [jd] at q;cases q;exact new
 ·rw [jm hb] at q
  by_cases hbe:b=e
  ·have q':H b=some (.own x):=by
    rcases he with z | z
    ·exact absurd (hbe.trans z) hb
    ·rw [hbe];exact z
   rw [q] at q';cases q'
   obtain ⟨v,hv⟩:=heo
   exact ⟨v,by rw [hbe];exact hv⟩
  ·refine (ok b u q).stay (fun c v hc r=>k c v ?_ r) (fun c r=>by rw [jm (nown c b r)];exact r) fun c xs r=>by rw [jm (ntup c xs r)];exact r
   rcases hc with rfl | hc
   ·exact hbe
   ·rintro rfl
    rcases he with z | z
    ·exact nown c b hc z
    ·rw [hc] at z;cases z;exact hb rfl
end
structure Un (fs ex:List Addr) (H H':Hp) (h h':Heap):Prop where
 keep:∀ b o,h.get? b=some o→H b=none→b ∉ fs→b ∉ ex→h'.get? b=some o
 slot:∀ b o,h.get? b=some o→H b=none→b∈fs→b ∉ ex→∃ sl,h'.get? b=some { o with slots:=sl }
 free:∀ b o,h.get? b=some o→H b=none→b ∉ ex→H' b=none
 there:∀ b o,h.get? b=some o→b ∉ ex→∃ o',h'.get? b=some o'
 tups:∀ b xs,H b=some (.tup xs)→H' b=some (.tup xs)
 frzs:∀ b o u,H b=some (.frz o u)→H' b=some (.frz o u)
 tbls:∀ b ps,H b=some (.tbl ps)→∃ more,H' b=some (.tbl (ps++more))
section
variable {fs fs' ex ex':List Addr} {H H1 H2:Hp} {h h1 h2 h':Heap} {a x e:Addr} {o:HO}
theorem Un.any (u:Un fs ex H H1 h h1) {b:Addr} {ob:Obj} (q:h.get? b=some ob) (n:H b=none) (hx:b ∉ ex):∃ sl,h1.get? b=some { ob with slots:=sl }:=by
 by_cases hb:b∈fs
 ·exact u.slot b ob q n hb hx
 ·exact ⟨ob.slots,u.keep b ob q n hb hx⟩
theorem Un.kept (k:∀ b u,h.get? b=some u→h'.get? b=some u):Un fs ex H H h h':=
 ⟨fun b ob q _ _ _=>k b ob q,fun b ob q _ _ _=>⟨ob.slots,k b ob q⟩,fun _ _ _ n _=>n,fun b ob q _=>⟨ob,k b ob q⟩,fun _ _ q=>q,fun _ _ _ q=>q,fun _ ps q=>⟨#[],by rw [q];simp⟩⟩
theorem Un.refl:Un fs ex H H h h:=Un.kept fun _ _ q=>q
theorem Un.laid (k:∀ b u,h.get? b=some u→h'.get? b=some u) (hp:h.objs.size≤a) (hn:H a=none):Un fs ex H (upd H a o) h h' where
 keep:=fun b u q _ _ _=>k b u q
 slot:=fun b u q _ _ _=>⟨u.slots,k b u q⟩
 free:=fun b u q n _=>by rw [jm (Nat.ne_of_lt (Nat.lt_of_lt_of_le (Heap.lt_size q) hp))];exact n
 there:=fun b u q _=>⟨u,k b u q⟩
 tups:=fun b xs q=>by rw [jm (js q hn)];exact q
 frzs:=fun b u xs q=>by rw [jm (js q hn)];exact q
 tbls:=fun b ps q=>⟨#[],by rw [jm (js q hn),q];simp⟩
theorem Un.write (mu:Mut (H x)) (he:e=x∨H e=some (.own x)) (k:∀ b u,b≠e→h.get? b=some u→h'.get? b=some u) (heo:∃ u,h'.get? e=some u):Un fs ex H (upd H x o) h h':=by
 have hx:∀ b,H b=none→b≠x:=fun b n z=>by subst z;rw [n] at mu;exact mu
 have hb:∀ b,H b=none→b≠e:=fun b n z=>by
  subst z
  rcases he with r | r
  ·exact hx b n r
  ·rw [n] at r;cases r
 have hm:∀ b u,H b=some u→¬ Mut (some u)→b≠x:=fun b u q nm z=>by subst z;rw [q] at mu;exact nm mu
 refine ⟨fun b u q n _ _=>k b u (hb b n) q,fun b u q n _ _=>⟨u.slots,k b u (hb b n) q⟩,fun b u q n _=>by rw [jm (hx b n)];exact n,fun b u q _=>?_,
  fun b xs q=>by rw [jm (hm b _ q fun z=>z)];exact q,fun b u xs q=>by rw [jm (hm b _ q fun z=>z)];exact q,fun b ps q=>⟨#[],by rw [jm (hm b _ q fun z=>z),q];simp⟩⟩
 by_cases hbe:b=e
 ·subst hbe;exact heo
 ·exact ⟨u,k b u hbe q⟩
end
def trk (h:Heap) (H:Hp):List Addr:=(List.range h.objs.size).filter fun a=>(H a).isSome
def Yq (h:Heap) (H:Hp):Heap:=PySem.W.hideAll h (trk h H)
theorem jcl (h:Heap) (H:Hp):(Yq h H).objs.size=h.objs.size:=PySem.W.hideAll_size _ _
theorem jdE {h:Heap} {H:Hp} {b:Addr} {o:Obj} (e:h.get? b=some o) (n:H b=none):(Yq h H).get? b=some o:=
 PySem.W.hideAll_get _ e fun hm=>by
  have q:(H b).isSome=true:=(List.mem_filter.mp hm).2
  rw [n] at q;simp at q
theorem jeL {h:Heap} {H:Hp} {b:Addr} {o:Obj} (e:(Yq h H).get? b=some o):h.get? b=some o∧H b=none:=by
 have e':h.get? b=some o:=PySem.W.of_hideAll (trk h H) e
 refine ⟨e',?_⟩
 cases q:H b with
 | none=>rfl
 | some x=>
  have hm:b∈trk h H:=List.mem_filter.mpr ⟨List.mem_range.mpr (Heap.lt_size e'),by simp [q]⟩
  have z:(Yq h H).get? b=none:=PySem.W.hideAll_none (trk h H) hm
  rw [z] at e;cases e
def je5 (g h:Heap) (L:Addr):List (Addr×Obj):=(List.range h.objs.size).filterMap fun a=>if a=L∨(g.get? a).isSome=true then none else (h.get? a).map fun o=>(a,o)
def jG (g h:Heap) (L d:Addr):List (Addr×Obj):=(je5 g h L).filter fun p=>decide (p.1≠d)
structure Mod (K:PySem.W.Frag) (mg:Str→Option Value) (base:Heap):Prop where
 kin:K.In base
 glob:base.Ns mainGlobals mg
 blt:∃ mb,base.Ns builtinsNs mb∧∀ x:Str,x≠"__name__"→mb x=bootBuiltins x
 nolimit:base.NoLimit
structure Cx where
 prog:Program
 w:World
 K:PySem.W.Frag
 mg:Str→Option Value
 base:Heap
 A:Around
 N:List Str
 s₀:Shared
 H₀:Hp
 env:Env
 outer:List Env
 stack:List Env
 ex:List Addr
 fn:Str→Bool
 calm:Bool
 pn:List (Addr×Obj)
 xe:Value→Shared→Prop
def frs (l:List Env):List Addr:=l.filterMap (·.frame)
abbrev Cx.fs (X:Cx):List Addr:=frs X.outer
def Vis (sc:Scope) (x:Str):Prop:=sc.names.lookup x=some .local∨sc.names.lookup x=some .cell∨sc.names.lookup x=some .free
def Loc (sc:Scope) (x:Str):Prop:=sc.names.lookup x=some .local∨sc.names.lookup x=some .cell
def jhn (env:Env) (h:Heap) (m:Str→Option Value) (x:Str) (u:Value):Prop:=
 (env.kindOf x=some .local∧m x=some u)∨((env.kindOf x=some .cell∨env.kindOf x=some .free)∧∃ c,env.cells.lookup x=some c∧h.IsCell c (some u))
structure Cx.Ok (X:Cx):Prop where
 mod:Mod X.K X.mg X.base
 kind:X.env.scope.kind=.function
 glob:X.env.globals=mainGlobals
 blt:X.env.builtins=builtinsNs
 above:X.s₀.heap.objs.size≤X.env.locals
 inj:∀ x y c,X.env.cells.lookup x=some c→X.env.cells.lookup y=some c→x=y
 has:∀ x,(X.env.kindOf x=some .cell∨X.env.kindOf x=some .free)→∃ c,X.env.cells.lookup x=some c
 cab:∀ x c,X.fn x=true→X.env.cells.lookup x=some c→X.s₀.heap.objs.size≤c
 hd:X.calm=true→X.A.handled=none
 frames:X.A.frames=some X.stack
 stk:X.stack=X.outer∨(X.stack=X.env :: X.outer∧X.env.frame=some X.env.locals)
 exf:∀ b∈X.ex,b≠X.env.locals∧∀ x c,X.env.cells.lookup x=some c→c≠b
 bs:∀ b o,X.base.get? b=some o→X.s₀.heap.get? b=some o∧X.H₀ b=none
 bsz:X.base.objs.size≤X.s₀.heap.objs.size
 noex:∀ b o,X.base.get? b=some o→b ∉ X.ex
 exfs:∀ b∈X.ex,b ∉ X.fs
 funs:X.s₀.heap.FunFrames X.base X.outer
 frf:∀ b∈X.fs,X.H₀ b=none
structure Inv (X:Cx) (pins:List (Addr×Obj)) (σ:List (Option V)) (H:Hp) (s:Shared):Prop where
 ok:X.Ok
 os:s.os=X.s₀.os
 bare:AllBare s.gens
 base:Un X.fs X.ex X.H₀ H X.s₀.heap s.heap
 loc:∃ m,s.heap.Ns X.env.locals m∧∀ (i:Nat) (x:Str) (v:V),X.N[i]?=some x→σ[i]?=some (some v)→Vis X.env.scope x→∃ u,RelV v u∧jhn X.env s.heap m x u
 cell:∀ x c,X.env.cells.lookup x=some c→∃ v,s.heap.IsCell c v
 free:H X.env.locals=none
 freeC:∀ x c,X.env.cells.lookup x=some c→H c=none
 pin:∀ p∈X.pn++pins,s.heap.get? p.1=some p.2∧H p.1=none∧p.1≠X.env.locals∧p.1 ∉ X.fs∧∀ v,p.2.data≠.cell v
 hok:HOk X.prog X.w H s.heap
 len:σ.length=X.N.length
section
variable {X:Cx} {pins:List (Addr×Obj)} {σ:List (Option V)} {H H':Hp} {s:Shared} {h':Heap}
theorem Cx.Ok.nofr (ok:X.Ok) {b:Addr} {o:Obj} (e:X.base.get? b=some o):b ∉ X.fs:=fun hb=>by
 have:=(ok.funs.mem hb).1
 rw [e] at this;cases this
theorem Inv.bs (I:Inv X pins σ H s):∀ b o,X.base.get? b=some o→s.heap.get? b=some o∧H b=none:=fun b o e=>
 ⟨I.base.keep b o (I.ok.bs b o e).1 (I.ok.bs b o e).2 (I.ok.nofr e) (I.ok.noex b o e),I.base.free b o (I.ok.bs b o e).1 (I.ok.bs b o e).2 (I.ok.noex b o e)⟩
theorem Inv.bk (I:Inv X pins σ H s):∀ b o,X.base.get? b=some o→s.heap.get? b=some o:=fun b o e=>(I.bs b o e).1
theorem Inv.mod (I:Inv X pins σ H s):Mod X.K X.mg X.base:=I.ok.mod
theorem Inv.kIn (I:Inv X pins σ H s):X.K.In s.heap:=I.ok.mod.kin.keeps I.bk
theorem Inv.nolimit (I:Inv X pins σ H s):s.heap.NoLimit:=I.ok.mod.nolimit.keeps I.bk
theorem Inv.fr (I:Inv X pins σ H s):∃ m,Fr X.base X.env.locals s.heap m:=
 let ⟨m,hn,_⟩:=I.loc
 ⟨m,hn,I.bk,Nat.le_trans I.ok.bsz I.ok.above⟩
theorem Inv.lt (I:Inv X pins σ H s):X.env.locals < s.heap.objs.size:=let ⟨_,hn,_⟩:=I.loc;hn.lt
theorem Inv.sz (I:Inv X pins σ H s):X.s₀.heap.objs.size≤s.heap.objs.size:=Nat.le_trans I.ok.above (Nat.le_of_lt I.lt)
theorem Inv.nofs (I:Inv X pins σ H s) {a:Addr} (h:s.heap.objs.size≤a):a ∉ X.fs:=fun hb=>by
 obtain ⟨_,o,ho,_⟩:=I.ok.funs.mem hb
 exact absurd (Nat.lt_of_lt_of_le (Heap.lt_size ho) (Nat.le_trans I.sz h)) (Nat.lt_irrefl _)
theorem Inv.cne (I:Inv X pins σ H s):∀ x c,X.env.cells.lookup x=some c→c≠X.env.locals:=fun x c e z=>by
 obtain ⟨v,o,ho,hd⟩:=I.cell x c e
 obtain ⟨m,⟨o',es,ep,ho',hd',_⟩,_⟩:=I.loc
 rw [z,ho'] at ho;cases ho;rw [hd'] at hd;cases hd
theorem Inv.funs (I:Inv X pins σ H s):s.heap.FunFrames X.base X.outer:=by
 have all:∀ (l:List Env),(∀ b∈frs l,b∈X.fs)→X.s₀.heap.FunFrames X.base l→s.heap.FunFrames X.base l:=by
  intro l
  induction l with
  | nil=>intro _ _;trivial
  | cons env r ih=>
   intro hs hl
   obtain ⟨hk,⟨L,o,hf,hn,ho,hd⟩,hr⟩:=hl
   have hL:L∈X.fs:=hs L (by unfold frs;rw [List.filterMap_cons,hf];exact List.mem_cons_self)
   obtain ⟨sl,e⟩:=I.base.slot L o ho (I.ok.frf L hL) hL fun z=>I.ok.exfs L z hL
   exact ⟨hk,⟨L,_,hf,hn,e,hd⟩,ih (fun b hb=>hs b (by unfold frs;rw [List.filterMap_cons,hf];exact List.mem_cons_of_mem _ hb)) hr⟩
 exact all X.outer (fun _ hb=>hb) I.ok.funs
theorem Inv.stack (I:Inv X pins σ H s):s.heap.FunFrames X.base X.stack:=by
 rcases I.ok.stk with e | ⟨e,hf⟩
 ·rw [e];exact I.funs
 ·rw [e]
  obtain ⟨m,hn,_⟩:=I.loc
  refine .cons (by rw [I.ok.kind];decide) hf hn ?_ I.funs
  exact Heap.get?_none_of_le (Nat.le_trans I.ok.bsz I.ok.above)
theorem Inv.stkSub (I:Inv X pins σ H s):∀ b∈frs X.stack,b∈X.env.locals :: X.fs:=fun b hb=>by
 rcases I.ok.stk with e | ⟨e,hf⟩
 ·rw [e] at hb;exact List.mem_cons_of_mem _ hb
 ·rw [e] at hb
  unfold frs at hb
  rw [List.filterMap_cons,hf] at hb
  exact hb
theorem Inv.stkFree (I:Inv X pins σ H s):∀ b∈frs X.stack,H b=none:=fun b hb=>by
 rcases List.mem_cons.mp (I.stkSub b hb) with e | hb
 ·rw [e];exact I.free
 ·obtain ⟨_,o,ho,_⟩:=I.ok.funs.mem hb
  exact I.base.free b o ho (I.ok.frf b hb) fun z=>I.ok.exfs b z hb
theorem Inv.step {g':Array GenState} {t':Nat} {d':Drawn} {ch:List Addr} (I:Inv X pins σ H s)
  (hch:∀ b∈ch,(b∈X.ex∨X.s₀.heap.objs.size≤b)∧b≠X.env.locals∧(∀ x c,X.env.cells.lookup x=some c→c≠b)∧∀ p∈X.pn++pins,p.1≠b)
  (keep:∀ b o,b≠X.env.locals→b ∉ X.fs→b ∉ ch→s.heap.get? b=some o→H b=none→h'.get? b=some o)
  (slot:∀ b o,b≠X.env.locals→b∈X.fs→b ∉ ch→s.heap.get? b=some o→H b=none→∃ sl,h'.get? b=some { o with slots:=sl }) (free:∀ b o,b ∉ ch→s.heap.get? b=some o→H b=none→H' b=none)
  (there:∀ b o,b ∉ ch→s.heap.get? b=some o→∃ o',h'.get? b=some o')
  (tups:∀ b xs,H b=some (.tup xs)→H' b=some (.tup xs)) (frzs:∀ b o u,H b=some (.frz o u)→H' b=some (.frz o u)) (tbls:∀ b ps,H b=some (.tbl ps)→∃ more,H' b=some (.tbl (ps++more)))
  (ns:∀ m,s.heap.Ns X.env.locals m→h'.Ns X.env.locals m) (hok:HOk X.prog X.w H' h') (hg:AllBare g') :
  Inv X pins σ H' { s with heap:=h',gens:=g',drawn:=d',toks:=t' }:=by
 have neL:∀ b o,X.s₀.heap.get? b=some o→b≠X.env.locals:=fun b o e=>Nat.ne_of_lt (Nat.lt_of_lt_of_le (Heap.lt_size e) I.ok.above)
 have neC:∀ b o,X.s₀.heap.get? b=some o→b ∉ X.ex→b ∉ ch:=fun b o e hx hb=>by
  rcases (hch b hb).1 with z | z
  ·exact hx z
  ·exact absurd (Nat.lt_of_lt_of_le (Heap.lt_size e) z) (Nat.lt_irrefl _)
 have cellK:∀ x c,X.env.cells.lookup x=some c→∀ v,s.heap.IsCell c v→h'.IsCell c v:=fun x c e v ⟨o,ho,hd⟩=>by
  have nch:c ∉ ch:=fun z=>(hch c z).2.2.1 x c e rfl
  by_cases hc:c∈X.fs
  ·obtain ⟨sl,q⟩:=slot c o (I.cne x c e) hc nch ho (I.freeC x c e)
   exact ⟨_,q,hd⟩
  ·exact ⟨o,keep c o (I.cne x c e) hc nch ho (I.freeC x c e),hd⟩
 refine ⟨I.ok,I.os,hg,⟨fun b o e n hb hx=>?_,fun b o e n hb hx=>?_,fun b o e n hx=>?_,fun b o e hx=>?_,fun b xs e=>tups b xs (I.base.tups b xs e),fun b o xs e=>frzs b o xs (I.base.frzs b o xs e),fun b ps e=>?_⟩,?_,fun x c e=>?_,?_,fun x c e=>?_,fun p hp=>?_,hok,I.len⟩
 ·exact keep b o (neL b o e) hb (neC b o e hx) (I.base.keep b o e n hb hx) (I.base.free b o e n hx)
 ·obtain ⟨sl,e1⟩:=I.base.slot b o e n hb hx
  obtain ⟨sl',e2⟩:=slot b _ (neL b o e) hb (neC b o e hx) e1 (I.base.free b o e n hx)
  exact ⟨sl',e2⟩
 ·obtain ⟨o',e1⟩:=I.base.there b o e hx
  exact free b o' (neC b o e hx) e1 (I.base.free b o e n hx)
 ·obtain ⟨o',e1⟩:=I.base.there b o e hx
  exact there b o' (neC b o e hx) e1
 ·obtain ⟨m1,e1⟩:=I.base.tbls b ps e
  obtain ⟨m2,e2⟩:=tbls b _ e1
  exact ⟨m1++m2,by rw [e2,Array.append_assoc]⟩
 ·obtain ⟨m,hn,hl⟩:=I.loc
  refine ⟨m,ns m hn,fun i x v e1 e2 e3=>?_⟩
  obtain ⟨u,r,l⟩:=hl i x v e1 e2 e3
  refine ⟨u,r,?_⟩
  rcases l with l | ⟨k,c,e,z⟩
  ·exact .inl l
  ·exact .inr ⟨k,c,e,cellK x c e _ z⟩
 ·obtain ⟨v,z⟩:=I.cell x c e
  exact ⟨v,cellK x c e v z⟩
 ·obtain ⟨m,⟨o,_,_,ho,_⟩,_⟩:=I.loc
  exact free _ o (fun z=>(hch _ z).2.1 rfl) ho I.free
 ·obtain ⟨v,o,ho,hd⟩:=I.cell x c e
  exact free c o (fun z=>(hch c z).2.2.1 x c e rfl) ho (I.freeC x c e)
 ·obtain ⟨e,n,ne,nf,d⟩:=I.pin p hp
  have nch:p.1 ∉ ch:=fun z=>(hch p.1 z).2.2.2 p hp rfl
  exact ⟨keep p.1 p.2 ne nf nch e n,free p.1 p.2 nch e n,ne,nf,d⟩
theorem Inv.un {t':Nat} (I:Inv X pins σ H s) (u:Un X.fs [] H H' s.heap h') (hok:HOk X.prog X.w H' h'):Inv X pins σ H' { s with heap:=h',toks:=t' }:=by
 obtain ⟨m,⟨o,es,ep,ho,r⟩,_⟩:=id I.loc
 obtain ⟨sl,hL⟩:=u.any ho I.free (by simp)
 exact I.step (g':=s.gens) (d':=s.drawn) (ch:=[]) (fun _ z=>nomatch z) (fun b o _ hb _ e n=>u.keep b o e n hb (by simp)) (fun b o _ hb _ e n=>u.slot b o e n hb (by simp)) (fun b o _ e n=>u.free b o e n (by simp)) (fun b o _ e=>u.there b o e (by simp)) u.tups u.frzs u.tbls (fun m' hm=>by
  obtain ⟨o',es',ep',ho',r'⟩:=hm
  rw [ho] at ho';cases ho'
  exact ⟨_,es',ep',hL,r'⟩) hok I.bare
theorem Inv.call {g':Array GenState} {t':Nat} {d':Drawn} {ch:List Addr} (I:Inv X pins σ H s) (u:Un (frs X.stack) ch H H' s.heap h') (hok:HOk X.prog X.w H' h') (hg:AllBare g')
  (hch:∀ b∈ch,(b∈X.ex∨X.s₀.heap.objs.size≤b)∧b≠X.env.locals∧(∀ x c,X.env.cells.lookup x=some c→c≠b)∧∀ p∈X.pn++pins,p.1≠b) :
  Inv X pins σ H' { s with heap:=h',gens:=g',drawn:=d',toks:=t' }:=by
 obtain ⟨m,⟨o,es,ep,ho,r⟩,_⟩:=id I.loc
 obtain ⟨sl,hL⟩:=u.any ho I.free fun z=>(hch _ z).2.1 rfl
 exact I.step (ch:=ch) hch (fun b o hL hb hc e n=>u.keep b o e n (fun z=>(List.mem_cons.mp (I.stkSub b z)).elim hL hb) hc) (fun b o _ _ hc e n=>u.any e n hc) (fun b o hc e n=>u.free b o e n hc) (fun b o hc e=>u.there b o e hc) u.tups u.frzs u.tbls (fun m' hm=>by
  obtain ⟨o',es',ep',ho',r'⟩:=hm
  rw [ho] at ho';cases ho'
  exact ⟨_,es',ep',hL,r'⟩) hok hg
theorem Inv.turned {t':Nat} {it:Addr} (I:Inv X pins σ H s) (k:∀ b o,b≠it→s.heap.get? b=some o→h'.get? b=some o) (hn:H it=none) (hL:it≠X.env.locals)
  (h1:it∈X.ex∨X.s₀.heap.objs.size≤it) (h2:∀ x c,X.env.cells.lookup x=some c→c≠it) (h3:∀ p∈X.pn++pins,p.1≠it):Inv X pins σ H { s with heap:=h',toks:=t' }:=by
 have nit:∀ b u,H b=some u→b≠it:=fun b u e z=>by rw [z,hn] at e;cases e
 refine I.step (g':=s.gens) (d':=s.drawn) (ch:=[it]) (fun b hb=>?_) (fun b o _ _ hc e _=>k b o (fun z=>hc (by simp [z])) e) (fun b o _ _ hc e _=>⟨o.slots,k b o (fun z=>hc (by simp [z])) e⟩) (fun _ _ _ _ n=>n)
  (fun b o hc e=>⟨o,k b o (fun z=>hc (by simp [z])) e⟩) (fun _ _ e=>e) (fun _ _ _ e=>e) (fun b ps e=>⟨#[],by rw [e];simp⟩) (fun m hm=>?_) (fun b u e=>?_) I.bare
 ·have e:b=it:=by simpa using hb
  subst e
  exact ⟨h1,hL,h2,h3⟩
 ·obtain ⟨o,es,ep,ho,r⟩:=hm
  exact ⟨o,es,ep,k _ o (Ne.symm hL) ho,r⟩
 ·refine (I.hok b u e).stay (fun c v hc q=>k c v ?_ q) (fun _ q=>q) fun _ _ q=>q
  rcases hc with z | z
  ·rw [z];exact nit b u e
  ·exact nit c _ z
theorem Inv.tok (I:Inv X pins σ H s) (t:Nat):Inv X pins σ H { s with toks:=t }:=I.un (h':=s.heap) (t':=t) Un.refl I.hok
theorem Inv.kept {t':Nat} (I:Inv X pins σ H s) (k:∀ b u,s.heap.get? b=some u→h'.get? b=some u):Inv X pins σ H { s with heap:=h',toks:=t' }:=I.un (Un.kept k) (I.hok.kept k)
theorem Inv.laid {a:Addr} {o:HO} {t':Nat} (I:Inv X pins σ H s) (k:∀ b u,s.heap.get? b=some u→h'.get? b=some u) (hp:s.heap.objs.size≤a) (new:ObjOk X.prog X.w (upd H a o) h' a o) :
  Inv X pins σ (upd H a o) { s with heap:=h',toks:=t' }:=I.un (Un.laid k hp (I.hok.fresh hp)) (I.hok.laid k hp new)
theorem Inv.write {x e:Addr} {o:HO} {t':Nat} (I:Inv X pins σ H s) (mu:Mut (H x)) (he:e=x∨H e=some (.own x)) (k:∀ b u,b≠e→s.heap.get? b=some u→h'.get? b=some u) (heo:∃ u,h'.get? e=some u)
  (new:ObjOk X.prog X.w (upd H x o) h' x o):Inv X pins σ (upd H x o) { s with heap:=h',toks:=t' }:=I.un (Un.write mu he k heo) (I.hok.write mu he k heo new)
theorem Inv.pins_of {pins':List (Addr×Obj)} (I:Inv X pins σ H s) (h:∀ p∈pins',s.heap.get? p.1=some p.2∧H p.1=none∧p.1≠X.env.locals∧p.1 ∉ X.fs∧∀ v,p.2.data≠.cell v):Inv X pins' σ H s:=
 ⟨I.ok,I.os,I.bare,I.base,I.loc,I.cell,I.free,I.freeC,fun p hp=>(List.mem_append.mp hp).elim (fun z=>I.pin p (List.mem_append_left _ z)) (h p),I.hok,I.len⟩
theorem Zg {N:List Str} (hN:N.Nodup) {i j:Nat} {x:Str} (a:N[i]?=some x) (b:N[j]?=some x):i=j:=by
 obtain ⟨h1,e1⟩:=List.getElem?_eq_some_iff.mp a
 obtain ⟨h2,e2⟩:=List.getElem?_eq_some_iff.mp b
 exact (List.getElem_inj hN).mp (e1.trans e2.symm)
theorem yX {M:Model} {A:Around} {E:Value→Shared→Prop} {i:Nat} {x:Str} {v:V} {u:Value} {Q:Unit→Shared→Prop} (I:Inv X pins σ H s) (hN:X.N.Nodup) (hi:X.N[i]?=some x) (hx:Loc X.env.scope x) (r:RelV v u)
  (h:∀ s',Inv X pins (σ.set i (some v)) H s'→(∃ a,Heap.SameBut a s.heap s'.heap∧(a=X.env.locals∨X.env.cells.lookup x=some a))→Q () s') (hf:X.fn x=true∨X.env.scope.names.lookup x=some .local:=by first | exact .inl rfl | exact .inr rfl | assumption):wpAny M A (storeName X.env x u) Q E s:=by
 obtain ⟨m,hn,hl⟩:=id I.loc
 have hcls:(X.env.scope.kind == .class || (X.env.scope.kind == .module && X.env.locals != X.env.globals))=false:=by rw [I.ok.kind];rfl
 have hiσ:i < σ.length:=by rw [I.len];exact (List.getElem?_eq_some_iff.mp hi).1
 have cne:=I.cne
 have tracked:∀ {a:Addr} {h':Heap},(∃ o,s.heap.get? a=some o∧H a=none)→Heap.SameBut a s.heap h'→HOk X.prog X.w H h':=fun {a h'} ha hs b ob e=>by
  obtain ⟨_,_,hfree⟩:=ha
  refine (I.hok b ob e).stay (fun c w' hc q=>(hs.2 c ?_).trans q) (fun _ q=>q) fun _ _ q=>q
  rintro rfl
  rcases hc with rfl | hc
  ·rw [hfree] at e;cases e
  ·rw [hfree] at hc;cases hc
 rcases hx with hk | hk
 ·refine wpAny_storeName_local hk hn (fun h' hn' hs=>?_) hcls
  obtain ⟨oL,_,_,hoL,_⟩:=id hn
  refine h _ ⟨I.ok,I.os,I.bare,⟨fun b o e n hb hx=>?_,fun b o e n hb hx=>?_,I.base.free,fun b o e hx=>?_,I.base.tups,I.base.frzs,I.base.tbls⟩,⟨_,hn',fun j y v' e1 e2 e3=>?_⟩,fun y c e=>?_,I.free,I.freeC,fun p hp=>?_,tracked ⟨oL,hoL,I.free⟩ hs,by simpa using I.len⟩ ⟨_,hs,.inl rfl⟩
  ·exact (hs.2 b (Nat.ne_of_lt (Nat.lt_of_lt_of_le (Heap.lt_size e) I.ok.above))).trans (I.base.keep b o e n hb hx)
  ·obtain ⟨sl,e1⟩:=I.base.slot b o e n hb hx
   exact ⟨sl,(hs.2 b (Nat.ne_of_lt (Nat.lt_of_lt_of_le (Heap.lt_size e) I.ok.above))).trans e1⟩
  ·obtain ⟨o',e1⟩:=I.base.there b o e hx
   exact ⟨o',(hs.2 b (Nat.ne_of_lt (Nat.lt_of_lt_of_le (Heap.lt_size e) I.ok.above))).trans e1⟩
  ·by_cases hj:j=i
   ·subst hj
    rw [hi] at e1;cases e1
    rw [List.getElem?_set_self hiσ] at e2
    cases e2
    exact ⟨u,r,.inl ⟨hk,by simp⟩⟩
   ·rw [List.getElem?_set_ne (Ne.symm hj)] at e2
    obtain ⟨u',r',q⟩:=hl j y v' e1 e2 e3
    refine ⟨u',r',?_⟩
    rcases q with ⟨k,e⟩ | ⟨k,c,e,z⟩
    ·refine .inl ⟨k,?_⟩
     have:y≠x:=fun e=>hj (Zg hN e1 (e ▸ hi))
     simp [this,e]
    ·exact .inr ⟨k,c,e,z.sameBut hs (cne y c e)⟩
  ·obtain ⟨w',z⟩:=I.cell y c e
   exact ⟨w',z.sameBut hs (cne y c e)⟩
  ·obtain ⟨e,n,ne,nf,d⟩:=I.pin p hp
   exact ⟨(hs.2 p.1 ne).trans e,n,ne,nf,d⟩
 ·have hfn:X.fn x=true:=by
   rcases hf with z | z
   ·exact z
   ·rw [z] at hk;cases hk
  obtain ⟨c,hc⟩:=I.ok.has x (.inl hk)
  obtain ⟨w',z⟩:=I.cell x c hc
  refine wpAny_storeName_cell I.ok.kind hk hc z (fun h' hc' hs=>?_)
  obtain ⟨oc,hoc,hocd⟩:=id z
  refine h { s with heap:=h' } ⟨I.ok,I.os,I.bare,⟨fun b o e n hb hx=>?_,fun b o e n hb hx=>?_,I.base.free,fun b o e hx=>?_,I.base.tups,I.base.frzs,I.base.tbls⟩,⟨m,hn.sameBut hs (Ne.symm (cne x c hc)),fun j y v' e1 e2 e3=>?_⟩,fun y c' e=>?_,I.free,I.freeC,fun p hp=>?_,tracked ⟨oc,hoc,I.freeC x c hc⟩ hs,by simpa using I.len⟩ ⟨c,hs,.inr hc⟩
  ·exact (hs.2 b (Nat.ne_of_lt (Nat.lt_of_lt_of_le (Heap.lt_size e) (I.ok.cab x c hfn hc)))).trans (I.base.keep b o e n hb hx)
  ·obtain ⟨sl,e1⟩:=I.base.slot b o e n hb hx
   exact ⟨sl,(hs.2 b (Nat.ne_of_lt (Nat.lt_of_lt_of_le (Heap.lt_size e) (I.ok.cab x c hfn hc)))).trans e1⟩
  ·obtain ⟨o',e1⟩:=I.base.there b o e hx
   exact ⟨o',(hs.2 b (Nat.ne_of_lt (Nat.lt_of_lt_of_le (Heap.lt_size e) (I.ok.cab x c hfn hc)))).trans e1⟩
  ·by_cases hj:j=i
   ·subst hj
    rw [hi] at e1;cases e1
    rw [List.getElem?_set_self hiσ] at e2
    cases e2
    exact ⟨u,r,.inr ⟨.inl hk,c,hc,hc'⟩⟩
   ·rw [List.getElem?_set_ne (Ne.symm hj)] at e2
    obtain ⟨u',r',q⟩:=hl j y v' e1 e2 e3
    refine ⟨u',r',?_⟩
    rcases q with q | ⟨k,c',e,z'⟩
    ·exact .inl q
    ·refine .inr ⟨k,c',e,z'.sameBut hs ?_⟩
     rintro rfl
     exact hj (Zg hN e1 (I.ok.inj _ _ _ e hc ▸ hi))
  ·by_cases hcc:c'=c
   ·subst hcc;exact ⟨_,hc'⟩
   ·obtain ⟨w2,z2⟩:=I.cell y c' e
    exact ⟨w2,z2.sameBut hs hcc⟩
  ·obtain ⟨e,n,ne,nf,d⟩:=I.pin p hp
   refine ⟨(hs.2 p.1 ?_).trans e,n,ne,nf,d⟩
   intro q
   rw [q,hoc] at e
   have q':oc=p.2:=Option.some.inj e
   exact d w' (by rw [← q'];exact hocd)
theorem YV {M:Model} {A:Around} {E:Value→Shared→Prop} {i:Nat} {x:Str} {v:V} {u:Value} {Q:Unit→Shared→Prop} (I:Inv X pins σ H s) (hN:X.N.Nodup) (hi:X.N[i]?=some x) (hx:Loc X.env.scope x) (r:RelV v u)
  (h:∀ s',Inv X pins (σ.set i (some v)) H s'→Q () s') (hf:X.fn x=true∨X.env.scope.names.lookup x=some .local:=by first | exact .inl rfl | exact .inr rfl | assumption):wpAny M A (storeName X.env x u) Q E s:=
 yX I hN hi hx r (fun s' I' _=>h s' I') hf
theorem Inv.call' {s':Shared} {ch:List Addr} (I:Inv X pins σ H s) (ho:s'.os=s.os) (u:Un (frs X.stack) ch H H' s.heap s'.heap) (hok:HOk X.prog X.w H' s'.heap) (hg:AllBare s'.gens)
  (hch:∀ b∈ch,(b∈X.ex∨X.s₀.heap.objs.size≤b)∧b≠X.env.locals∧(∀ x c,X.env.cells.lookup x=some c→c≠b)∧∀ p∈X.pn++pins,p.1≠b):Inv X pins σ H' s':=by
 obtain ⟨h',g',d',t',o'⟩:=s'
 have e:o'=s.os:=ho
 subst e
 exact I.call (g':=g') (t':=t') (d':=d') u hok hg hch
end
abbrev XK:=Value→Option Addr→Hp→Prop
abbrev St:=List (Option V)
abbrev VK:=V→Hp→Prop
abbrev TE:=St→Hp→VK→Prop
abbrev TT:=St→Hp→(Bool→Hp→Prop)→Prop
abbrev TA:=St→Hp→(List V→Hp→Prop)→Prop
structure Ends where
 nx:St→Hp→Prop
 rt:VK
 bk:St→Hp→Prop:=fun _ _=>False
 ct:St→Hp→Prop:=fun _ _=>False
abbrev TS:=Ends→St→Hp→Prop
def EP (X:Cx) (pins:List (Addr×Obj)) (σ:St) (Q:VK) (u:Value) (s':Shared):Prop:=∃ v H',Inv X pins σ H' s'∧RelV v u∧Q v H'
def TP (X:Cx) (pins:List (Addr×Obj)) (σ:St) (Q:Bool→Hp→Prop) (b:Bool) (s':Shared):Prop:=∃ H',Inv X pins σ H' s'∧Q b H'
def AP (X:Cx) (pins:List (Addr×Obj)) (σ:St) (Q:List V→Hp→Prop) (us:List Value) (s':Shared):Prop:=∃ vs H',Inv X pins σ H' s'∧Vals vs us∧Q vs H'
def SP (X:Cx) (pins:List (Addr×Obj)) (D:Ends) (f:Flow) (s':Shared):Prop:=
 match f with
 | .next=>∃ σ' H',Inv X pins σ' H' s'∧D.nx σ' H'
 | .brk=>∃ σ' H',Inv X pins σ' H' s'∧D.bk σ' H'
 | .cont=>∃ σ' H',Inv X pins σ' H' s'∧D.ct σ' H'
 | .ret u=>∃ v σ' H',Inv X pins σ' H' s'∧RelV v u∧D.rt v H'
def PE (X:Cx) (e:Expr) (t:TE):Prop:=
 ∀ (pins:List (Addr×Obj)) (s:Shared) (σ:St) (H:Hp) (Q:VK),Inv X pins σ H s→t σ H Q→wpAny (model X.prog X.w) X.A (eval e X.env) (EP X pins σ Q) X.xe s
def PT (X:Cx) (e:Expr) (t:TT):Prop:=
 ∀ (pins:List (Addr×Obj)) (s:Shared) (σ:St) (H:Hp) (Q:Bool→Hp→Prop),Inv X pins σ H s→t σ H Q→wpAny (model X.prog X.w) X.A (isTrue e X.env (eval e X.env)) (TP X pins σ Q) X.xe s
def PW (X:Cx) (e:Expr) (t:TT):Prop:=
 ∀ (whole:Sem Value) (pins:List (Addr×Obj)) (s:Shared) (σ:St) (H:Hp) (Q:Bool→Hp→Prop),Inv X pins σ H s→t σ H Q→wpAny (model X.prog X.w) X.A (isTrue e X.env whole) (TP X pins σ Q) X.xe s
theorem PW.pt {X:Cx} {e:Expr} {t:TT} (h:PW X e t):PT X e t:=h _
def PA (X:Cx) (es:List Expr) (t:TA):Prop:=
 ∀ (pos:Pos) (pins:List (Addr×Obj)) (s:Shared) (σ:St) (H:Hp) (Q:List V→Hp→Prop),Inv X pins σ H s→t σ H Q→wpAny (model X.prog X.w) X.A (spliced (backTo pos (starEach es X.env))) (AP X pins σ Q) X.xe s
def PS (X:Cx) (st:Stmt) (t:TS):Prop:=
 ∀ (pins:List (Addr×Obj)) (s:Shared) (σ:St) (H:Hp) (D:Ends),Inv X pins σ H s→t D σ H→wpAny (model X.prog X.w) X.A (exec st X.env) (SP X pins D) X.xe s
def PSs (X:Cx) (st:List Stmt) (t:TS):Prop:=
 ∀ (pins:List (Addr×Obj)) (s:Shared) (σ:St) (H:Hp) (D:Ends),Inv X pins σ H s→t D σ H→wpAny (model X.prog X.w) X.A (execs st X.env) (SP X pins D) X.xe s
theorem thn {α:Type} {t:Sem α} {Q Q':α→Shared→Prop} {M:Model} {A:Around} {E:Value→Shared→Prop} {s:Shared} (h:wpAny M A t Q E s) (hQ:∀ a s,Q a s→Q' a s):wpAny M A t Q' E s:=wpAny_mono h hQ fun _ _ x=>x
section
variable {X:Cx}
theorem bin {a b:Expr} {ta tb:TE} (ha:PE X a ta) (hb:PE X b tb) {pins:List (Addr×Obj)} {s:Shared} {σ:St} {H:Hp} {R:V→V→Hp→Prop} (I:Inv X pins σ H s) (h:ta σ H fun x H1=>tb σ H1 fun y H2=>R x y H2)
  {α:Type} {Q:α→Shared→Prop} {f:Value→Value→Sem α}
  (hf:∀ v u s2 x y H2,Inv X pins σ H2 s2→RelV x v→RelV y u→R x y H2→wpAny (model X.prog X.w) X.A (f v u) Q X.xe s2) :
  wpAny (model X.prog X.w) X.A (eval a X.env) (fun v s₁=>wpAny (model X.prog X.w) X.A (eval b X.env) (fun u s₂=>wpAny (model X.prog X.w) X.A (f v u) Q X.xe s₂) X.xe s₁) X.xe s:=by
 refine thn (ha pins s σ H _ I h) fun v s1 ⟨x,H1,I1,r1,q1⟩=>?_
 refine thn (hb pins s1 σ H1 _ I1 q1) fun u s2 ⟨y,H2,I2,r2,q2⟩=>?_
 exact hf v u s2 x y H2 I2 r1 r2 q2
def ya (i:Nat):TE:=fun σ H Q=>∃ v,σ[i]?=some (some v)∧Q v H
def tC (v:V):TE:=fun _ H Q=>Q v H
theorem jfH {i:Nat} {x:Str} {pos:Pos} (hN:X.N[i]?=some x) (hv:Vis X.env.scope x) (hd:(x == ("__debug__" : Str))=false:=by decide) (hcd:(x == ("__classdict__" : Str))=false:=by decide):PE X (.Name x pos) (ya i):=by
 intro pins s σ H Q I h
 obtain ⟨v,e,h⟩:=h
 obtain ⟨m,hn,hl⟩:=I.loc
 obtain ⟨u,r,l⟩:=hl i x v hN e hv
 have fin:EP X pins σ Q u s:=⟨v,H,I,r,h⟩
 rcases l with ⟨hk,hm⟩ | ⟨hk,c,hc,hcell⟩
 ·exact wpAny_Name (wpAny_loadName_local I.ok.kind hk hn hm fin) hd
 ·rcases hk with hk | hk
  ·exact wpAny_Name (wpAny_loadName_cell I.ok.kind hk hc hcell fin) hd
  ·exact wpAny_Name (wpAny_loadName_free I.ok.kind hk hc hcell fin hcd) hd
theorem jde {i j pos}:PE X (.Constant (.int i) j pos) (tC (.int i)):=fun _ _ _ H _ I h=>wpAny_Constant_int ⟨.int i,H,I.tok _,⟨_,rfl⟩,h⟩
theorem jgM {b j pos}:PE X (.Constant (.bool b) j pos) (tC (.bl b)):=fun _ _ _ H _ I h=>Constant_bool ⟨.bl b,H,I,rfl,h⟩
theorem jdb {x j pos}:PE X (.Constant (.str x) j pos) (tC (.str x)):=fun _ _ _ H _ I h=>Calls.Constant_str ⟨.str x,H,I.tok _,⟨_,rfl⟩,h⟩
def Gl (X:Cx) (x:Str):Prop:=X.env.kindOf x=some .globalImplicit
theorem jeQ {E:Value→Shared→Prop} {pins:List (Addr×Obj)} {s:Shared} {σ:St} {H:Hp} {x:Str} {u:Value} {pos:Pos} {Q:Value→Shared→Prop} (I:Inv X pins σ H s) (hg:Gl X x) (hm:X.mg x=some u) (h:Q u s)
  (hd:(x == ("__debug__" : Str))=false:=by decide):wpAny (model X.prog X.w) X.A (eval (.Name x pos) X.env) Q E s:=
 Calls.Name_function_global I.ok.kind hg (Calls.loadGlobal_global (by rw [I.ok.glob];exact I.mod.glob.keeps I.bk) hm h) hd
theorem Yn {E:Value→Shared→Prop} {pins:List (Addr×Obj)} {s:Shared} {σ:St} {H:Hp} {x:Str} {u:Value} {pos:Pos} {Q:Value→Shared→Prop} (I:Inv X pins σ H s) (hg:Gl X x) (hm:X.mg x=none) (hv:bootBuiltins x=some u) (h:Q u s)
  (hn:x≠"__name__":=by decide) (hd:(x == ("__debug__" : Str))=false:=by decide):wpAny (model X.prog X.w) X.A (eval (.Name x pos) X.env) Q E s:=by
 obtain ⟨mb,h1,h2⟩:=I.mod.blt
 exact Calls.Name_function_global I.ok.kind hg (Calls.loadGlobal_builtin (by rw [I.ok.glob];exact I.mod.glob.keeps I.bk) hm (by rw [I.ok.blt];exact h1.keeps I.bk) ((h2 x hn).trans hv) h) hd
variable {a b:Expr} {ta tb:TE} {pos:Pos}
def PC (X:Cx) (op:CmpOp) (a b:Expr) (t:TE):Prop:=
 ∀ (pins:List (Addr×Obj)) (s:Shared) (σ:St) (H:Hp) (Q:VK),Inv X pins σ H s→t σ H Q→
  wpAny (model X.prog X.w) X.A (eval a X.env) (fun v s₁=>wpAny (model X.prog X.w) X.A (eval b X.env) (fun u s₂=>wpAny (model X.prog X.w) X.A (compareOp op v u) (EP X pins σ Q) X.xe s₂) X.xe s₁) X.xe s
theorem Zh (b:Expr) {op:CmpOp} (h:op≠.In) (h2:op≠.NotIn):behindInMarks op b=false:=by
 have e1:(op == CmpOp.In)=false:=by cases op <;> first | rfl | exact absurd rfl h
 have e2:(op == CmpOp.NotIn)=false:=by cases op <;> first | rfl | exact absurd rfl h2
 cases b <;> simp [behindInMarks,e1,e2]
def tB (t:TE):TT:=fun σ H Q=>t σ H fun x H1=>∃ c,x=.bl c∧Q c H1
theorem jfK {op:CmpOp} {t:TE} (h:PC X op a b t) (h1:behindInMarks op b=false:=by first | exact Zh _ (by decide) (by decide) | rfl):PE X (.Compare a [op] [b] pos) t:=fun pins s σ H Q I hw=>wpAny_Compare1 (h pins s σ H Q I hw) h1
theorem jfz {op:CmpOp} {t:TE} (h:PC X op a b t) (h1:behindInMarks op b=false:=by first | exact Zh _ (by decide) (by decide) | rfl):PT X (.Compare a [op] [b] pos) (tB t):=by
 intro pins s σ H Q I hw
 refine wpAny_isTrue_Compare1 (thn (h pins s σ H _ I hw) fun v s1 h1=>thn h1 fun u s2 h2=>thn h2 fun c s3 ⟨x,H1,I1,r1,q1⟩=>?_) h1
 obtain ⟨d,rfl,q⟩:=q1
 cases r1
 exact wpAny_truthy_bool ⟨H1,I1,q⟩
theorem jfx {e:Expr} {t:TE} (h:PE X e t) (he:∀ whole,isTrue e X.env whole=(do let v ← whole;standAt e.pos;holding [v] (truthy v)):=by intro _;rfl):PT X e (tB t):=by
 intro pins s σ H Q I hw
 refine isTrue_plain (thn (h pins s σ H _ I hw) fun v s1 ⟨x,H1,I1,r1,q1⟩=>?_) (he _)
 obtain ⟨d,rfl,q⟩:=q1
 cases r1
 exact wpAny_truthy_bool ⟨H1,I1,q⟩
variable {tA tB':TT} {jG:List Expr}
def jgy (t u:TT):TT:=fun σ H Q=>t σ H fun c H1=>if c=true then u σ H1 Q else Q false H1
def tOr (t u:TT):TT:=fun σ H Q=>t σ H fun c H1=>if c=true then Q true H1 else u σ H1 Q
def jgs (t:TT):TT:=fun σ H Q=>t σ H fun c H1=>Q (!c) H1
theorem jel (ha:PT X a tA):PW X (.BoolOp .And [a] pos) tA:=by
 intro wh pins s σ H Q I h
 refine isTrue_and (thn (ha pins s σ H Q I h) fun c s1 e=>?_)
 cases c with
 | true=>exact isTrue_and_nil e
 | false=>exact e
theorem jft (ha:PT X a tA):PW X (.BoolOp .Or [a] pos) tA:=by
 intro wh pins s σ H Q I h
 refine isTrue_or (thn (ha pins s σ H Q I h) fun c s1 e=>?_)
 cases c with
 | false=>exact isTrue_or_nil e
 | true=>exact e
theorem jfv (ha:PT X a tA) (hb:PW X (.BoolOp .And (b :: jG) pos) tB'):PW X (.BoolOp .And (a :: b :: jG) pos) (jgy tA tB'):=by
 intro wh pins s σ H Q I h
 refine isTrue_and (thn (ha pins s σ H _ I h) fun c s1 ⟨H1,I1,q1⟩=>?_)
 cases c with
 | true=>exact hb wh pins s1 σ H1 Q I1 q1
 | false=>exact ⟨H1,I1,q1⟩
theorem jgD (ha:PT X a tA) (hb:PW X (.BoolOp .Or (b :: jG) pos) tB'):PW X (.BoolOp .Or (a :: b :: jG) pos) (tOr tA tB'):=by
 intro wh pins s σ H Q I h
 refine isTrue_or (thn (ha pins s σ H _ I h) fun c s1 ⟨H1,I1,q1⟩=>?_)
 cases c with
 | true=>exact ⟨H1,I1,q1⟩
 | false=>exact hb wh pins s1 σ H1 Q I1 q1
theorem jfy (ha:PT X a tA):PT X (.UnaryOp .Not a pos) (jgs tA):=by
 intro pins s σ H Q I h
 exact isTrue_not (ha pins s σ H (fun c H1=>Q (!c) H1) I h)
def jfd (ta tb:TE):TE:=fun σ H Q=>ta σ H fun x H1=>∃ c,x=.bl c∧if c=true then tb σ H1 Q else Q (.bl false) H1
def jgr (ta tb:TE):TE:=fun σ H Q=>ta σ H fun x H1=>∃ c,x=.bl c∧if c=true then Q (.bl true) H1 else tb σ H1 Q
theorem jfI {op} {t:TE} (h:PE X a t):PE X (.BoolOp op [a] pos) t:=fun pins s σ H Q I hw=>BoolOp_one (h pins s σ H Q I hw)
theorem jfM (ha:PE X a ta) (hb:PE X (.BoolOp .And (b :: jG) pos) tb):PE X (.BoolOp .And (a :: b :: jG) pos) (jfd ta tb):=by
 intro pins s σ H Q I h
 refine BoolOp_and (thn (ha pins s σ H _ I h) fun v s1 ⟨x,H1,I1,r1,q1⟩=>?_)
 obtain ⟨c,rfl,q1⟩:=q1
 cases r1
 refine wpAny_truthy_bool ?_
 cases c with
 | true=>exact hb pins s1 σ H1 Q I1 q1
 | false=>exact ⟨.bl false,H1,I1,rfl,q1⟩
theorem jgG (ha:PE X a ta) (hb:PE X (.BoolOp .Or (b :: jG) pos) tb):PE X (.BoolOp .Or (a :: b :: jG) pos) (jgr ta tb):=by
 intro pins s σ H Q I h
 refine BoolOp_or (thn (ha pins s σ H _ I h) fun v s1 ⟨x,H1,I1,r1,q1⟩=>?_)
 obtain ⟨c,rfl,q1⟩:=q1
 cases r1
 refine wpAny_truthy_bool ?_
 cases c with
 | false=>exact hb pins s1 σ H1 Q I1 q1
 | true=>exact ⟨.bl true,H1,I1,rfl,q1⟩
def tIf (t:TT) (ta tb:TE):TE:=fun σ H Q=>t σ H fun c H1=>if c=true then ta σ H1 Q else tb σ H1 Q
theorem jdf {c:Expr} (hc:PT X c tA) (ha:PE X a ta) (hb:PE X b tb):PE X (.IfExp c a b pos) (tIf tA ta tb):=by
 intro pins s σ H Q I h
 refine wpAny_IfExp (thn (hc pins s σ H _ I h) fun d s1 ⟨H1,I1,q1⟩=>?_)
 cases d with
 | true=>exact ha pins s1 σ H1 Q I1 q1
 | false=>exact hb pins s1 σ H1 Q I1 q1
end
def SqL (K:PySem.W.Frag) (H:Hp) (a:Addr) (xs:List V):Prop:=
 Rd H a (.lst xs)∨
  ∃ (o:Obj) (its:Array Value) (n:Nat),K.lookup a=some o∧o.cls=.type "list"∧o.dict=none∧o.data=.seq its n∧its.size≤sizeLine∧Vals xs its.toList
def SqT (K:PySem.W.Frag) (H:Hp) (a:Addr) (xs:List V):Prop:=
 Rd H a (.tup xs)∨
  ∃ (o:Obj) (its:Array Value) (n:Nat),K.lookup a=some o∧o.cls=.type "tuple"∧o.data=.seq its n∧its.size≤sizeLine∧Vals xs its.toList
def jhl:Value→Option V
 | .none=>some .non
 | .bool b=>some (.bl b)
 | .int i _=>some (.int i)
 | .str x _=>some (.str x)
 | .bytes b _=>some (.byt b)
 | .float b _=>some (.flt b)
 | .ref a=>some (.ref a)
 | .type n=>some (.ty n)
 | _=>none
theorem RelV.abs {x:V} {u:Value} (r:RelV x u):jhl u=some x:=by
 cases x with
 | non=>cases r;rfl
 | bl _=>cases r;rfl
 | int _=>obtain ⟨t,rfl⟩:=r;rfl
 | str _=>obtain ⟨t,rfl⟩:=r;rfl
 | byt _=>obtain ⟨t,rfl⟩:=r;rfl
 | flt _=>obtain ⟨t,rfl⟩:=r;rfl
 | ref _=>cases r;rfl
 | ty _=>cases r;rfl
theorem RelV.inj {x y:V} {u:Value} (r:RelV x u) (q:RelV y u):x=y:=Option.some.inj (r.abs.symm.trans q.abs)
theorem Vals.inj:∀ {xs ys:List V} {us:List Value},Vals xs us→Vals ys us→xs=ys
 | _,_,_,.nil,.nil=>rfl
 | _,_,_,.cons r t,.cons r' t'=>by rw [r.inj r',Vals.inj t t']
section
variable {X:Cx} {pins:List (Addr×Obj)} {σ:St} {H:Hp} {s:Shared} {a:Addr} {xs ys:List V}
theorem SqL.of {K:PySem.W.Frag} (h:H a=some (.lst xs)):SqL K H a xs:=.inl (.inl h)
theorem SqT.of {K:PySem.W.Frag} (h:H a=some (.tup xs)):SqT K H a xs:=.inl (.inl h)
theorem Inv.list (I:Inv X pins σ H s) (h:SqL X.K H a xs):∃ its:List Value,Vals xs its∧PlainL s.heap a its.toArray∧xs.length≤sizeLine:=by
 rcases h with h | ⟨o,its,n,hk,hc,hd,hs,hz,r⟩
 ·obtain ⟨z,its,n,r,e⟩:=h.ok I.hok
  exact ⟨its,r,⟨_,n,e,rfl,rfl,rfl⟩,z⟩
 ·refine ⟨its.toList,r,⟨o,n,I.kIn a o hk,hc,hd,by simpa using hs⟩,?_⟩
  have e:=r.length
  simp only [Array.length_toList] at e
  omega
theorem Inv.tuple (I:Inv X pins σ H s) (h:SqT X.K H a xs):∃ its:List Value,Vals xs its∧IsTup s.heap a its.toArray∧xs.length≤sizeLine:=by
 rcases h with h | ⟨o,its,n,hk,hc,hs,hz,r⟩
 ·obtain ⟨z,its,r,p⟩:=h.ok I.hok
  exact ⟨its,r,p,z⟩
 ·refine ⟨its.toList,r,⟨o,I.kIn a o hk,hc,n,by simpa using hs⟩,?_⟩
  have e:=r.length
  simp only [Array.length_toList] at e
  omega
theorem Inv.list_inj (I:Inv X pins σ H s) (h:SqL X.K H a xs) (h':SqL X.K H a ys):xs=ys:=by
 obtain ⟨its,r,⟨o,n,e,_,_,d⟩,_⟩:=I.list h
 obtain ⟨its',r',⟨o',n',e',_,_,d'⟩,_⟩:=I.list h'
 rw [e] at e';cases e'
 rw [d] at d'
 injection d' with d1 _
 have:its=its':=by simpa using congrArg Array.toList d1
 subst this
 exact r.inj r'
theorem Inv.tuple_inj (I:Inv X pins σ H s) (h:SqT X.K H a xs) (h':SqT X.K H a ys):xs=ys:=by
 obtain ⟨its,r,⟨o,e,_,n,d⟩,_⟩:=I.tuple h
 obtain ⟨its',r',⟨o',e',_,n',d'⟩,_⟩:=I.tuple h'
 rw [e] at e';cases e'
 rw [d] at d'
 injection d' with d1 _
 have:its=its':=by simpa using congrArg Array.toList d1
 subst this
 exact r.inj r'
end
abbrev Cx.wish (X:Cx) (E:Value→Shared→Prop):Cx:={ X with xe:=E }
abbrev Cx.nox (X:Cx):Cx:=X.wish fun _ _=>False
theorem Cx.Ok.wish {X:Cx} (ok:X.Ok) (E:Value→Shared→Prop):(X.wish E).Ok:=
 ⟨ok.mod,ok.kind,ok.glob,ok.blt,ok.above,ok.inj,ok.has,ok.cab,ok.hd,ok.frames,ok.stk,ok.exf,ok.bs,ok.bsz,ok.noex,ok.exfs,ok.funs,ok.frf⟩
theorem Cx.Ok.unwish {X:Cx} {E:Value→Shared→Prop} (ok:(X.wish E).Ok):X.Ok:=
 ⟨ok.mod,ok.kind,ok.glob,ok.blt,ok.above,ok.inj,ok.has,ok.cab,ok.hd,ok.frames,ok.stk,ok.exf,ok.bs,ok.bsz,ok.noex,ok.exfs,ok.funs,ok.frf⟩
section
variable {X:Cx} {pins:List (Addr×Obj)} {σ:St} {H:Hp} {s:Shared} {E:Value→Shared→Prop}
theorem Inv.wish (I:Inv X pins σ H s) (E:Value→Shared→Prop):Inv (X.wish E) pins σ H s:=⟨I.ok.wish E,I.os,I.bare,I.base,I.loc,I.cell,I.free,I.freeC,I.pin,I.hok,I.len⟩
theorem Inv.unwish (I:Inv (X.wish E) pins σ H s):Inv X pins σ H s:=⟨I.ok.unwish,I.os,I.bare,I.base,I.loc,I.cell,I.free,I.freeC,I.pin,I.hok,I.len⟩
theorem SP.unwish {D:Ends} {f:Flow} {s':Shared} (h:SP (X.wish E) pins D f s'):SP X pins D f s':=by
 cases f with
 | next=>obtain ⟨σ',H',I,q⟩:=h;exact ⟨σ',H',I.unwish,q⟩
 | brk=>obtain ⟨σ',H',I,q⟩:=h;exact ⟨σ',H',I.unwish,q⟩
 | cont=>obtain ⟨σ',H',I,q⟩:=h;exact ⟨σ',H',I.unwish,q⟩
 | ret u=>obtain ⟨v,σ',H',I,r,q⟩:=h;exact ⟨v,σ',H',I.unwish,r,q⟩
theorem PSs.nox {st:List Stmt} {t:TS} (h:PSs X.nox st t):PSs X st t:=fun pins s σ H D I hw=>
 wpAny_mono (h pins s σ H D (I.wish _) hw) (fun _ _ q=>q.unwish) fun _ _ z=>False.elim z
end
section
variable {X:Cx} {st:Stmt} {jG:List Stmt} {t u:TS} {e:Expr} {te:TE} {pos:Pos}
def jaM:TS:=fun D σ H=>D.nx σ H
def jv (t u:TS):TS:=fun D σ H=>t { D with nx:=u D } σ H
theorem jeq:PSs X [] jaM:=fun _ _ σ H _ I h=>wpAny_execs_nil ⟨σ,H,I,h⟩
theorem jc5 (h1:PS X st t) (h2:PSs X jG u):PSs X (st :: jG) (jv t u):=by
 intro pins s σ H D I h
 refine wpAny_execs_cons (thn (h1 pins s σ H { D with nx:=u D } I h) fun f s1 q=>?_)
 cases f with
 | next=>
  obtain ⟨σ',H',I',q⟩:=q
  exact h2 pins s1 σ' H' D I' q
 | ret v=>exact q
 | brk=>exact q
 | cont=>exact q
theorem jep (h1:PS X st t):PSs X [st] t:=by
 intro pins s σ H D I h
 refine wpAny_execs_cons (thn (h1 pins s σ H D I h) fun f s1 q=>?_)
 cases f with
 | next=>exact wpAny_execs_nil q
 | ret v=>exact q
 | brk=>exact q
 | cont=>exact q
theorem Inv.quiet {pins:List (Addr×Obj)} {σ:St} {H:Hp} {s:Shared} (I:Inv X pins σ H s):interactive X.env=false:=by simp [interactive,I.ok.kind]
def jfc (te:TE):TS:=fun D σ H=>te σ H fun _ H1=>D.nx σ H1
theorem jes (he:PE X e te) (hs:swapsWith e none pos.line X.env=pure false:=by rfl):PS X (.Expr e pos) (jfc te):=by
 intro pins s σ H D I h
 exact wpAny_Expr_any (thn (he pins s σ H _ I h) fun v s1 ⟨x,H1,I1,r1,q1⟩=>⟨σ,H1,I1,q1⟩) I.quiet hs
def jgq (te:TE):TS:=fun D σ H=>te σ H D.rt
theorem jfB (he:PE X e te):PS X (.Return (some e) pos) (jgq te):=by
 intro pins s σ H D I h
 exact wpAny_Return_some (thn (he pins s σ H _ I h) fun v s1 ⟨x,H1,I1,r1,q1⟩=>⟨x,σ,H1,I1,r1,q1⟩)
def jbS (c:TT) (t u:TS):TS:=fun D σ H=>c σ H fun b H1=>if b=true then t D σ H1 else u D σ H1
theorem jgE {c:Expr} {a b:List Stmt} {tc:TT} (hc:PT X c tc) (ha:PSs X a t) (hb:PSs X b u):PS X (.If c a b pos) (jbS tc t u):=by
 intro pins s σ H D I h
 refine wpAny_If (thn (hc pins s σ H _ I h) fun d s1 ⟨H1,I1,q1⟩=>?_)
 cases d with
 | true=>exact ha pins s1 σ H1 D I1 q1
 | false=>exact hb pins s1 σ H1 D I1 q1
end
abbrev TG:=V→St→Hp→(St→Hp→Prop)→Prop
abbrev TGs:=List V→St→Hp→(St→Hp→Prop)→Prop
def PG (X:Cx) (target:Expr) (t:TG):Prop:=
 ∀ (pins:List (Addr×Obj)) (s:Shared) (σ:St) (H:Hp) (v:V) (u:Value) (Q:St→Hp→Prop),Inv X pins σ H s→RelV v u→t v σ H Q→
  wpAny (model X.prog X.w) X.A (assign target X.env u) (fun _ s'=>∃ σ' H',Inv X pins σ' H' s'∧Q σ' H') X.xe s
def PGs (X:Cx) (ts:List Expr) (t:TGs):Prop:=
 ∀ (pins:List (Addr×Obj)) (s:Shared) (σ:St) (H:Hp) (vs:List V) (us:List Value) (Q:St→Hp→Prop),Inv X pins σ H s→Vals vs us→t vs σ H Q→
  wpAny (model X.prog X.w) X.A (assignInOrder ((assignEach ts X.env).map (·.2)) us) (fun _ s'=>∃ σ' H',Inv X pins σ' H' s'∧Q σ' H') X.xe s
abbrev je7:=V→V→V→Hp→(Hp→Prop)→Prop
def jgl (X:Cx) (t:je7):Prop:=
 ∀ (pins:List (Addr×Obj)) (s:Shared) (σ:St) (H:Hp) (o i v:V) (ov iv u:Value) (Q:Hp→Prop),Inv X pins σ H s→RelV o ov→RelV i iv→RelV v u→t o i v H Q→
  wpAny (model X.prog X.w) X.A (setItem ov iv u) (fun _ s'=>∃ H',Inv X pins σ H' s'∧Q H') X.xe s
section
variable {X:Cx} {pos:Pos}
def j4 (i:Nat):TG:=fun v σ H Q=>Q (σ.set i (some v)) H
theorem jex {i:Nat} {x:Str} (hN:X.N.Nodup) (hi:X.N[i]?=some x) (hx:Loc X.env.scope x) (hf:X.fn x=true∨X.env.scope.names.lookup x=some .local:=by first | exact .inl rfl | exact .inr rfl | assumption):PG X (.Name x pos) (j4 i):=by
 intro pins s σ H v u Q I r h
 exact wpAny_assign_Name (YV I hN hi hx r (fun s' I'=>⟨_,H,I',h⟩) hf)
def jg0:TGs:=fun vs σ H Q=>vs=[]∧Q σ H
def jfj (t:TG) (u:TGs):TGs:=fun vs σ H Q=>∃ v r,vs=v :: r∧t v σ H fun σ' H'=>u r σ' H' Q
theorem jew:PGs X [] jg0:=by
 intro pins s σ H vs us Q I r h
 obtain ⟨e,h⟩:=h
 subst e
 cases r
 exact assignInOrder_nil ⟨σ,H,I,h⟩
theorem jc9 {e:Expr} {es:List Expr} {t:TG} {u:TGs} (h1:PG X e t) (h2:PGs X es u)
  (hs:(assignEach (e :: es) X.env).map (·.2)=assign e X.env :: (assignEach es X.env).map (·.2):=by rfl):PGs X (e :: es) (jfj t u):=by
 intro pins s σ H vs us Q I r h
 obtain ⟨v,vr,e1,h⟩:=h
 subst e1
 cases r with
 | cons r rr=>
  rw [hs]
  refine assignInOrder_cons (thn (h1 pins s σ H _ _ _ I r h) fun _ s1 ⟨σ1,H1,I1,q1⟩=>?_)
  exact h2 pins s1 σ1 H1 _ _ Q I1 rr q1
def jgY (K:PySem.W.Frag) (n:Nat) (t:TGs):TG:=fun v σ H Q=>∃ a xs,v=.ref a∧SqT K H a xs∧xs.length=n∧t xs σ H Q
theorem jfF {es:List Expr} {k:Nat} {t:TGs} {n:Nat} (hc:X.calm=true) (h:PGs X es t)
  (hn:(assignEach es X.env).length=n:=by rfl) (hst:(assignEach es X.env).findIdx? (·.1)=none:=by rfl):PG X (.Tuple es k pos) (jgY X.K n t):=by
 intro pins s σ H v u Q I r hw
 obtain ⟨a,xs,e1,hq,hl,hw⟩:=hw
 subst e1
 cases r
 obtain ⟨its,rv,ht,hz⟩:=I.tuple hq
 refine assign_Tuple_tuple (I.ok.hd hc) ht (by simp [hn,← hl,rv.length]) hst fun h' hx=>?_
 have I1:Inv X pins σ H { s with heap:=h' }:=I.kept (t':=s.toks) fun b o e=>hx b o (Nat.ne_of_lt (Heap.lt_size e)) e
 exact h pins _ σ H xs _ Q I1 (by simpa using rv) hw
def jgZ (to ti:TE) (t:je7):TG:=fun v σ H Q=>to σ H fun o H1=>ti σ H1 fun i H2=>t o i v H2 fun H3=>Q σ H3
theorem jfG {o i:Expr} {to ti:TE} {t:je7} (ho:PE X o to) (hi:PE X i ti) (hs:jgl X t)
  (ha:∀ v,assign (.Subscript o i pos) X.env v=(do
   let ov ← holding [v] (eval o X.env)
   let iv ← holding [v,ov] (eval i X.env)
   standAt pos
   holding [v,ov,iv] (setItem ov iv v)
   release [v,ov,iv] []):=by intro _;rfl):PG X (.Subscript o i pos) (jgZ to ti t):=by
 intro pins s σ H v u Q I r h
 rw [ha]
 refine wpAny_bind (wpAny_holding (thn (ho pins s σ H _ I h) fun ov s1 ⟨x,H1,I1,r1,q1⟩=>?_))
 refine wpAny_bind (wpAny_holding (thn (hi pins s1 σ H1 _ I1 q1) fun iv s2 ⟨y,H2,I2,r2,q2⟩=>?_))
 refine wpAny_bind (wpAny_standAt (wpAny_bind (wpAny_holding (thn (hs pins s2 σ H2 x y v ov iv u _ I2 r1 r2 r q2) fun _ s3 ⟨H3,I3,q3⟩=>?_))))
 exact wpAny_release ⟨σ,H3,I3,q3⟩
def K7 (te:TE) (g:TG):TS:=fun D σ H=>te σ H fun x H1=>g x σ H1 D.nx
theorem jfD {tg e:Expr} {te:TE} {g:TG} (he:PE X e te) (hg:PG X tg g) (hs:swapsWithSole [tg] e pos.line X.env=pure false:=by rfl) (hw:swappedStores [tg] e X.env=pure none:=by rfl)
  (h1:(assignEach [tg] X.env).map (·.2)=[assign tg X.env]:=by rfl):PS X (.Assign [tg] e pos) (K7 te g):=by
 intro pins s σ H D I h
 refine wpAny_Assign_stores (thn (he pins s σ H _ I h) fun v s1 ⟨x,H1,I1,r1,q1⟩=>?_) hs hw
 rw [h1]
 exact thn (hg pins s1 σ H1 x v _ I1 r1 q1) fun _ s2 q=>q
theorem jfA {i:Nat} {x:Str} {e:Expr} {te:TE} {pos':Pos} (hN:X.N.Nodup) (hi:X.N[i]?=some x) (hx:Loc X.env.scope x) (he:PE X e te) (hs:swapsWith e (some (.Name x pos')) pos.line X.env=pure false:=by rfl) (hf:X.fn x=true∨X.env.scope.names.lookup x=some .local:=by first | exact .inl rfl | exact .inr rfl | assumption) :
  PS X (.Assign [.Name x pos'] e pos) (K7 te (j4 i)):=by
 intro pins s σ H D I h
 refine wpAny_Assign_Name (thn (he pins s σ H _ I h) fun v s1 ⟨y,H1,I1,r1,q1⟩=>?_) hs
 exact YV I1 hN hi hx r1 (fun s2 I2=>⟨_,H1,I2,q1⟩) hf
def jcG (c:TT) (tb:TS):TS:=fun D σ H=>∃ W:Nat→St→Hp→Prop,(∃ m,W m σ H)∧∀ m σ H,W m σ H→
 c σ H fun b H1=>if b=true then ∃ N:St→Hp→Prop,(∀ σ' H',N σ' H'→∃ m',m' < m∧W m' σ' H')∧tb { D with nx:=N,ct:=N,bk:=D.nx } σ H1 else D.nx σ H1
theorem jc6 {c:Expr} {body:List Stmt} {tc:TT} {tb:TS} (hp:PassesOwn (model X.prog X.w) X.A X.env X.xe) (hc:PT X c tc) (hb:PSs X body tb):PS X (.While c body [] pos) (jcG tc tb):=by
 intro pins s σ H D I h
 obtain ⟨W,⟨m0,w0⟩,turn⟩:=h
 refine wpAny_While (codeAny_whileLoop (fun n s'=>∃ σ' H',Inv X pins σ' H' s'∧W n σ' H') ?_ m0 ⟨σ,H,I,w0⟩)
 rintro n s1 ⟨σ1,H1,I1,w1⟩
 refine wpAny_passesOwn hp (thn (hc pins s1 σ1 H1 _ I1 (turn n σ1 H1 w1)) fun b s2 ⟨H2,I2,q2⟩=>?_)
 cases b with
 | true=>
  obtain ⟨N,hN,q2⟩:=q2
  rw [if_pos rfl]
  refine wpAny_passesOwn hp (thn (hb pins s2 σ1 H2 _ I2 q2) fun f s3 q3=>?_)
  cases f with
  | next=>
   obtain ⟨σ3,H3,I3,n3⟩:=q3
   obtain ⟨m',hm,w3⟩:=hN σ3 H3 n3
   exact ⟨m',hm,σ3,H3,I3,w3⟩
  | cont=>
   obtain ⟨σ3,H3,I3,n3⟩:=q3
   obtain ⟨m',hm,w3⟩:=hN σ3 H3 n3
   exact ⟨m',hm,σ3,H3,I3,w3⟩
  | brk=>exact q3
  | ret v=>exact q3
 | false=>
  rw [if_neg Bool.false_ne_true]
  exact wpAny_execs_nil ⟨σ1,H2,I2,q2⟩
end
structure It where
 go:Nat→Hp→Prop
 yld:Nat→Hp→V→Hp→Prop
 stop:Nat→Hp→Prop
def yU (X:Cx) (pins:List (Addr×Obj)) (H:Hp) (b:Addr):Prop:=
 H b=none∧b≠X.env.locals∧b ∉ X.fs∧(b∈X.ex∨X.s₀.heap.objs.size≤b)∧(∀ x c,X.env.cells.lookup x=some c→c≠b)∧∀ p∈X.pn++pins,p.1≠b
theorem Inv.fpOk {X:Cx} {pins:List (Addr×Obj)} {σ:St} {H H':Hp} {s:Shared} {b:Addr} (I:Inv X pins σ H s) (hb:s.heap.objs.size≤b) (hn:H' b=none):yU X pins H' b:=by
 refine ⟨hn,Nat.ne_of_gt (Nat.lt_of_lt_of_le I.lt hb),I.nofs hb,.inr (Nat.le_trans I.sz hb),fun x c e z=>?_,fun p hp z=>?_⟩
 ·obtain ⟨v,q⟩:=I.cell x c e
  exact absurd (Nat.lt_of_lt_of_le q.lt (by rw [z];exact hb)) (Nat.lt_irrefl _)
 ·exact absurd (Nat.lt_of_lt_of_le (Heap.lt_size (I.pin p hp).1) (by rw [z];exact hb)) (Nat.lt_irrefl _)
structure Turn (P:Program) (w:World) (K:PySem.W.Frag) (tg:Expr) (J:It) (fp:List Addr) (it:Addr) (tn:Nat→Heap→Prop):Prop where
 mem:it∈fp
 obj:∀ i h,tn i h→∀ b∈fp,∃ o,h.get? b=some o∧∀ v,o.data≠.cell v
 keep:∀ i h h',tn i h→(∀ b∈fp,∀ o,h.get? b=some o→h'.get? b=some o)→tn i h'
 item:∀ (X:Cx),X.prog=P→X.w=w→X.K=K→X.calm=true→∀ (i:Nat) (pins:List (Addr×Obj)) (s:Shared) (σ:St) (H:Hp) (E:Value→Shared→Prop),Inv X pins σ H s→(∀ b∈fp,yU X pins H b)→tn i s.heap→J.go i H→
  wpAny (model P w) X.A (pyNext (.ref it)) (fun r s1=>∃ u,r=some u∧
   wpAny (model P w) X.A (letOwnedTupleGo tg (.ref it) u) (fun _ s2=>∃ x H',Inv X pins σ H' s2∧RelV x u∧J.yld i H x H'∧tn (i+1) s2.heap∧∀ b∈fp,H' b=none) E s1) E s
 done:∀ (X:Cx),X.prog=P→X.w=w→X.K=K→X.calm=true→∀ (i:Nat) (pins:List (Addr×Obj)) (s:Shared) (σ:St) (H:Hp) (E:Value→Shared→Prop),Inv X pins σ H s→(∀ b∈fp,yU X pins H b)→tn i s.heap→J.stop i H→
  wpAny (model P w) X.A (pyNext (.ref it)) (fun r s1=>r=none∧Inv X pins σ H s1) E s
 self:∀ (A:Around) (i:Nat) (s:Shared) (Q:Value→Shared→Prop) (E:Value→Shared→Prop),tn i s.heap→Q (.ref it) s→wpAny (model P w) A (pyIter (.ref it)) Q E s
abbrev TI:=St→Hp→(It→Hp→Prop)→Prop
def PIE (X:Cx) (pins:List (Addr×Obj)) (σ:St) (tg:Expr) (R:It→Hp→Prop) (itv:Value) (s2:Shared):Prop:=
 ∃ (it:Addr) (fp:List Addr) (tn:Nat→Heap→Prop) (J:It) (H':Hp),itv=.ref it∧Inv X pins σ H' s2∧Turn X.prog X.w X.K tg J fp it tn∧tn 0 s2.heap∧(∀ b∈fp,yU X pins H' b)∧R J H'
def PI (X:Cx) (tg iter:Expr) (wi:TI):Prop:=
 ∀ (pins:List (Addr×Obj)) (s:Shared) (σ:St) (H:Hp) (R:It→Hp→Prop),Inv X pins σ H s→wi σ H R→
  wpAny (model X.prog X.w) X.A (eval iter X.env) (fun v s1=>wpAny (model X.prog X.w) X.A (pyIter v) (PIE X pins σ tg R) X.xe s1) X.xe s
theorem jdG {M:Model} {A:Around} {E:Value→Shared→Prop} {s:Shared} {tg:Expr} {it:Addr} {u:Value} {o:Obj} {n:String} {vs:Array Value} {Q:Unit→Shared→Prop} (ho:s.heap.get? it=some o) (hc:o.cls=.type n) (hd:o.data=.fields vs)
  (hn:["enumerate","zip","dict_itemiterator","dict_reverseitemiterator","odict_iterator","itertools.zip_longest","itertools.pairwise"].contains n=false) (hQ:Q () s):wpAny M A (letOwnedTupleGo tg (.ref it) u) Q E s:=by
 unfold letOwnedTupleGo
 cases tg <;> first
  | exact wpAny_pure hQ
  | (cases u <;> first
    | exact wpAny_pure hQ
    | (refine wpAny_bind (wpAny_load ho ?_)
       rw [hc,hd]
       show wpAny M A (if (["enumerate","zip","dict_itemiterator","dict_reverseitemiterator","odict_iterator","itertools.zip_longest","itertools.pairwise"].contains n && vs[0]? == some (rawInt _))=true then _ else _) Q E s
       rw [if_neg (by intro h;rw [hn,Bool.false_and] at h;cases h)]
       exact wpAny_pure hQ))
def Itl (K:PySem.W.Frag) (a:Addr):It:=
 ⟨fun i H=>∃ xs x,SqL K H a xs∧xs[i]?=some x,fun i H x H'=>H'=H∧∀ xs,SqL K H a xs→xs[i]?=some x,fun i H=>∃ xs,SqL K H a xs∧xs.length≤i⟩
def Itt (K:PySem.W.Frag) (a:Addr):It:=
 ⟨fun i H=>∃ xs x,SqT K H a xs∧xs[i]?=some x,fun i H x H'=>H'=H∧∀ xs,SqT K H a xs→xs[i]?=some x,fun i H=>∃ xs,SqT K H a xs∧xs.length≤i⟩
def Itr (lo:Int) (n:Nat):It:=⟨fun i _=>i < n,fun i H x H'=>H'=H∧x=.int (lo+i),fun i _=>n≤i⟩
theorem jbP {P:Program} {w:World} {K:PySem.W.Frag} {tg:Expr} (a it:Addr):Turn P w K tg (Itl K a) [it] it (fun i h=>h.IsListIter it a i) where
 mem:=by simp
 obj:=fun i h st b hb=>by
  have e:b=it:=by simpa using hb
  subst e
  obtain ⟨o,e,c,d⟩:=st
  exact ⟨o,e,fun v z=>by rw [d] at z;cases z⟩
 keep:=fun i h h' st k=>st.at fun o e=>k it (by simp) o e
 item:=by
  intro X hP hw hK hc i pins s σ H E I hf st hg
  subst hP hw hK
  obtain ⟨xs,x,hq,hx⟩:=hg
  obtain ⟨its,rv,p,hz⟩:=I.list hq
  obtain ⟨u,hu,ru⟩:=rv.get hx
  obtain ⟨f0,f1,f2,f3,f4,f5⟩:=hf it (by simp)
  refine wpAny_pyNext_list_item st p.isList (x:=u) (by simpa using hu) fun h' st' sb=>?_
  have I1:Inv X pins σ H { s with heap:=h' }:=I.turned (t':=s.toks) (fun b o hb e=>(sb.2 b hb).trans e) f0 f1 f3 f4 f5
  obtain ⟨o,e,c,d⟩:=id st'
  exact ⟨u,rfl,jdG (s:={ s with heap:=h' }) e c d (by decide) ⟨x,H,I1,ru,⟨rfl,fun ys hy=>by rw [I.list_inj hy hq];exact hx⟩,st',fun b hb=>(hf b hb).1⟩⟩
 done:=by
  intro X hP hw hK hc i pins s σ H E I hf st hg
  subst hP hw hK
  obtain ⟨xs,hq,hx⟩:=hg
  obtain ⟨its,rv,p,hz⟩:=I.list hq
  obtain ⟨f0,f1,f2,f3,f4,f5⟩:=hf it (by simp)
  have hl:=rv.length
  exact wpAny_pyNext_list_end (I.ok.hd hc) st p.isList (by simp;omega) fun h' eb=>⟨rfl,I.turned (t':=s.toks) (fun b o hb e=>eb b o hb e) f0 f1 f3 f4 f5⟩
 self:=fun _ _ _ _ _ st h=>wpAny_pyIter_listiter st h
theorem ZT {P:Program} {w:World} {K:PySem.W.Frag} {tg:Expr} (a it:Addr):Turn P w K tg (Itt K a) [it] it (fun i h=>h.IsTupleIter it a i) where
 mem:=by simp
 obj:=fun i h st b hb=>by
  have e:b=it:=by simpa using hb
  subst e
  obtain ⟨o,e,c,d⟩:=st
  exact ⟨o,e,fun v z=>by rw [d] at z;cases z⟩
 keep:=fun i h h' st k=>st.at fun o e=>k it (by simp) o e
 item:=by
  intro X hP hw hK hc i pins s σ H E I hf st hg
  subst hP hw hK
  obtain ⟨xs,x,hq,hx⟩:=hg
  obtain ⟨its,rv,p,hz⟩:=I.tuple hq
  obtain ⟨u,hu,ru⟩:=rv.get hx
  obtain ⟨f0,f1,f2,f3,f4,f5⟩:=hf it (by simp)
  refine wpAny_pyNext_tuple_item st (show s.heap.IsTuple a its.toArray from p) (x:=u) (by simpa using hu) fun h' st' sb=>?_
  have I1:Inv X pins σ H { s with heap:=h' }:=I.turned (t':=s.toks) (fun b o hb e=>(sb.2 b hb).trans e) f0 f1 f3 f4 f5
  obtain ⟨o,e,c,d⟩:=id st'
  exact ⟨u,rfl,jdG (s:={ s with heap:=h' }) e c d (by decide) ⟨x,H,I1,ru,⟨rfl,fun ys hy=>by rw [I.tuple_inj hy hq];exact hx⟩,st',fun b hb=>(hf b hb).1⟩⟩
 done:=by
  intro X hP hw hK hc i pins s σ H E I hf st hg
  subst hP hw hK
  obtain ⟨xs,hq,hx⟩:=hg
  obtain ⟨its,rv,p,hz⟩:=I.tuple hq
  obtain ⟨f0,f1,f2,f3,f4,f5⟩:=hf it (by simp)
  have hl:=rv.length
  exact wpAny_pyNext_tuple_end (I.ok.hd hc) st (show s.heap.IsTuple a its.toArray from p) (by simp;omega) fun h' eb=>⟨rfl,I.turned (t':=s.toks) (fun b o hb e=>eb b o hb e) f0 f1 f3 f4 f5⟩
 self:=fun _ _ _ _ _ st h=>wpAny_pyIter_tupleiter st h
theorem ZU {P:Program} {w:World} {K:PySem.W.Frag} {tg:Expr} (it:Addr) (lo:Int) (n:Nat):Turn P w K tg (Itr lo n) [it] it (fun i h=>IsRangeIter h it (lo+(i:Nat) * 1) ((n:Int) - (i:Nat)) 1) where
 mem:=by simp
 obj:=fun i h st b hb=>by
  have e:b=it:=by simpa using hb
  subst e
  exact ⟨_,st,fun v z=>by
   have z':Data.fields _=Data.cell v:=z
   cases z'⟩
 keep:=fun i h h' st k=>k it (by simp) _ st
 item:=by
  intro X hP hw hK hc i pins s σ H E I hf st hg
  subst hP hw hK
  obtain ⟨f0,f1,f2,f3,f4,f5⟩:=hf it (by simp)
  have W:=Walks.range (prog:=X.prog) (w:=X.w) (I.ok.hd hc) it lo 1 n
  refine W.item i s _ _ hg st fun v h' tk hv st' kk=>?_
  obtain ⟨t,rfl⟩:=hv
  have I1:Inv X pins σ H { s with heap:=h',toks:=tk }:=I.turned (fun b o hb e=>kk b o (by simpa using hb) e) f0 f1 f3 f4 f5
  refine ⟨_,rfl,jdG (s:={ s with heap:=h',toks:=tk }) (n:="range_iterator") st' rfl rfl (by decide) ⟨.int (lo+i),H,I1,⟨t,?_⟩,⟨rfl,rfl⟩,st',fun b hb=>(hf b hb).1⟩⟩
  rw [Int.mul_one]
 done:=by
  intro X hP hw hK hc i pins s σ H E I hf st hg
  subst hP hw hK
  obtain ⟨f0,f1,f2,f3,f4,f5⟩:=hf it (by simp)
  exact wpAny_pyNext_range_end (I.ok.hd hc) st (by have:n≤i:=hg;omega) fun h' eb=>⟨rfl,I.turned (t':=s.toks) (fun b o hb e=>eb b o hb e) f0 f1 f3 f4 f5⟩
 self:=fun _ _ _ _ _ st h=>wpAny_pyIter_rangeiter st h
section
variable {X:Cx} {tg:Expr}
def jdA (K:PySem.W.Frag) (tl:TE):TI:=fun σ H R=>tl σ H fun x H1=>∃ a,x=.ref a∧(∃ xs,SqL K H1 a xs)∧R (Itl K a) H1
def jgW (K:PySem.W.Frag) (tl:TE):TI:=fun σ H R=>tl σ H fun x H1=>∃ a,x=.ref a∧(∃ xs,SqT K H1 a xs)∧R (Itt K a) H1
theorem jev {l:Expr} {tl:TE} (hl:PE X l tl):PI X tg l (jdA X.K tl):=by
 intro pins s σ H R I h
 refine thn (hl pins s σ H _ I h) fun v s1 ⟨x,H1,I1,r1,q1⟩=>?_
 obtain ⟨a,e,⟨xs,hq⟩,q⟩:=q1
 subst e
 cases r1
 obtain ⟨its,rv,p,hz⟩:=I1.list hq
 refine wpAny_pyIter_list p.isList ?_
 refine ⟨s1.heap.objs.size,[s1.heap.objs.size],_,_,H1,rfl,I1.kept (t':=s1.toks) fun b o e=>Heap.get?_push_of_some _ e,jbP a _,⟨_,Heap.get?_push_size _ rfl,rfl,rfl⟩,fun b hb=>?_,q⟩
 have e:b=s1.heap.objs.size:=by simpa using hb
 subst e
 exact I1.fpOk (Nat.le_refl _) (I1.hok.fresh (Nat.le_refl _))
theorem jfE {l:Expr} {tl:TE} (hl:PE X l tl):PI X tg l (jgW X.K tl):=by
 intro pins s σ H R I h
 refine thn (hl pins s σ H _ I h) fun v s1 ⟨x,H1,I1,r1,q1⟩=>?_
 obtain ⟨a,e,⟨xs,hq⟩,q⟩:=q1
 subst e
 cases r1
 obtain ⟨its,rv,p,hz⟩:=I1.tuple hq
 refine wpAny_pyIter_tuple (show s1.heap.IsTuple a its.toArray from p) ?_
 refine ⟨s1.heap.objs.size,[s1.heap.objs.size],_,_,H1,rfl,I1.kept (t':=s1.toks) fun b o e=>Heap.get?_push_of_some _ e,ZT a _,⟨_,Heap.get?_push_size _ rfl,rfl,rfl⟩,fun b hb=>?_,q⟩
 have e:b=s1.heap.objs.size:=by simpa using hb
 subst e
 exact I1.fpOk (Nat.le_refl _) (I1.hok.fresh (Nat.le_refl _))
theorem Y7 {pins:List (Addr×Obj)} {σ:St} {H:Hp} {s:Shared} {R:It→Hp→Prop} {E:Value→Shared→Prop} {lo hi:Int} {t u v:Tok} {tk:Nat} (I:Inv X pins σ H s) (h1:-(2 ^ 62)≤lo) (h2:lo < 2 ^ 62) (h3:-(2 ^ 62)≤hi) (h4:hi < 2 ^ 62)
  (q:R (Itr lo (hi - lo).toNat) H):wpAny (model X.prog X.w) X.A (pyIter (.ref s.heap.objs.size)) (PIE X pins σ tg R) E { s with heap:=s.heap.push { cls:=.type "range",data:=.fields #[.int lo t,.int hi u,.int 1 v] },toks:=tk }:=by
 refine wpAny_pyIter_range (IsRange.new ..) (small_one h1 h2 h3 h4) ?_
 have I1:Inv X pins σ H { s with heap:=s.heap.push { cls:=.type "range",data:=.fields #[.int lo t,.int hi u,.int 1 v] },toks:=tk }:=I.kept fun b o e=>Heap.get?_push_of_some _ e
 refine ⟨(s.heap.push { cls:=.type "range",data:=.fields #[.int lo t,.int hi u,.int 1 v] }).objs.size,[(s.heap.push { cls:=.type "range",data:=.fields #[.int lo t,.int hi u,.int 1 v] }).objs.size],_,_,H,rfl,
  I1.kept (t':=tk) fun b o e=>Heap.get?_push_of_some _ e,ZU _ lo (hi - lo).toNat,?_,fun b hb=>?_,q⟩
 ·have e1:lo+((0:Nat):Int) * 1=lo:=by simp
  have e2:(((hi - lo).toNat:Nat):Int) - ((0:Nat):Int)=Builtin.Range.rangeSize lo hi 1:=by rw [rangeSize_one];split <;> omega
  show IsRangeIter _ _ (lo+((0:Nat):Int) * 1) ((((hi - lo).toNat:Nat):Int) - ((0:Nat):Int)) 1
  rw [e1,e2]
  exact Heap.get?_push_size _ rfl
 ·have e:b=(s.heap.push { cls:=.type "range",data:=.fields #[.int lo t,.int hi u,.int 1 v] }).objs.size:=by simpa using hb
  subst e
  exact I1.fpOk (Nat.le_refl _) (I1.hok.fresh (Nat.le_refl _))
def jfh (ta:TA):TI:=fun σ H R=>ta σ H fun vs H1=>∃ j:Int,vs=[.int j]∧-(2 ^ 62)≤j∧j < 2 ^ 62∧R (Itr 0 j.toNat) H1
def jfg (ta:TA):TI:=fun σ H R=>ta σ H fun vs H1=>∃ i j:Int,vs=[.int i,.int j]∧(-(2 ^ 62)≤i∧i < 2 ^ 62∧-(2 ^ 62)≤j∧j < 2 ^ 62)∧R (Itr i (j - i).toNat) H1
theorem jbZ {a:Expr} {ta:TA} {p pos:Pos} (hg:Gl X "range") (hm:X.mg "range" = none) (ha:PA X [a] ta) (hs:starEach [a] X.env=[(false,eval a X.env)]:=by rfl):PI X tg (.Call (.Name "range" p) [a] [] pos) (jfh ta):=by
 intro pins s σ H R I h
 refine Call_ (Yn I hg hm boot_range (PyProof.Rows.callWith_type1 (thn (ha pos pins s σ H _ I h) fun us s1 ⟨vs,H1,I1,r1,q1⟩=>?_) hs rfl))
 obtain ⟨j,e,q1,q2,q⟩:=q1
 subst e
 cases r1 with
 | cons r rr=>
  cases rr
  obtain ⟨t,rfl⟩:=r
  exact call_range_1 (Y7 I1 (by omega) (by omega) q1 q2 (by simpa using q))
theorem jbY {a b:Expr} {ta:TA} {p pos:Pos} (hg:Gl X "range") (hm:X.mg "range" = none) (ha:PA X [a,b] ta) (hs:starEach [a,b] X.env=[(false,eval a X.env),(false,eval b X.env)]:=by rfl) (hs2:starEach [b] X.env=[(false,eval b X.env)]:=by rfl) :
  PI X tg (.Call (.Name "range" p) [a,b] [] pos) (jfg ta):=by
 intro pins s σ H R I h
 refine Call_ (Yn I hg hm boot_range (PyProof.Rows.callWith_type1 (thn (ha pos pins s σ H _ I h) fun us s1 ⟨vs,H1,I1,r1,q1⟩=>?_) (by rw [hs,hs2]) (by rw [hs2];rfl)))
 obtain ⟨i,j,e,⟨q1,q2,q3,q4⟩,q⟩:=q1
 subst e
 cases r1 with
 | cons r rr=>
  cases rr with
  | cons r' rr=>
   cases rr
   obtain ⟨t,rfl⟩:=r
   obtain ⟨t',rfl⟩:=r'
   exact call_range_2 (Y7 I1 q1 q2 q3 q4 q)
def jgv (wi:TI) (g:TG) (tb:TS):TS:=fun D σ H=>wi σ H fun J H1=>∃ W:Nat→Nat→St→Hp→Prop,(∃ m,W 0 m σ H1)∧∀ i m σ H,W i m σ H→
 (J.stop i H∧D.nx σ H)∨(J.go i H∧∃ N:St→Hp→Prop,(∀ σ' H',N σ' H'→∃ m',m' < m∧W (i+1) m' σ' H')∧∀ x H',J.yld i H x H'→g x σ H' fun σ2 H2=>tb { D with nx:=N,ct:=N,bk:=D.nx } σ2 H2)
def zg (fp:List Addr) (h:Heap):List (Addr×Obj):=fp.filterMap fun b=>(h.get? b).map fun o=>(b,o)
theorem kr {fp:List Addr} {h:Heap} {b:Addr} {o:Obj} (hb:b∈fp) (e:h.get? b=some o):(b,o)∈zg fp h:=List.mem_filterMap.mpr ⟨b,hb,by rw [e];rfl⟩
theorem jca {fp:List Addr} {h:Heap} {p:Addr×Obj} (hp:p∈zg fp h):p.1∈fp∧h.get? p.1=some p.2:=by
 obtain ⟨b,hb,e⟩:=List.mem_filterMap.mp hp
 cases q:h.get? b with
 | none=>rw [q] at e;cases e
 | some o=>
  rw [q] at e
  have e':(b,o)=p:=Option.some.inj e
  subst e'
  exact ⟨hb,q⟩
theorem Inv.pinned {pins:List (Addr×Obj)} {σ:St} {H:Hp} {s:Shared} {fp:List Addr} (I:Inv X pins σ H s) (hf:∀ b∈fp,yU X pins H b) (ho:∀ b∈fp,∃ o,s.heap.get? b=some o∧∀ v,o.data≠.cell v):Inv X (pins++zg fp s.heap) σ H s:=
 I.pins_of fun p hp=>(List.mem_append.mp hp).elim (fun z=>I.pin p (List.mem_append_right _ z)) fun z=>by
  obtain ⟨hb,e⟩:=jca z
  obtain ⟨f0,f1,f2,_⟩:=hf p.1 hb
  obtain ⟨o,e',d⟩:=ho p.1 hb
  rw [e] at e';cases e'
  exact ⟨e,f0,f1,f2,d⟩
theorem Inv.unpinned {pins pl:List (Addr×Obj)} {σ:St} {H:Hp} {s:Shared} (I:Inv X (pins++pl) σ H s):Inv X pins σ H s:=I.pins_of fun p hp=>I.pin p (List.mem_append_right _ (List.mem_append_left _ hp))
theorem jfC {iter:Expr} {body:List Stmt} {wi:TI} {g:TG} {tb:TS} {pos:Pos} (hp:PassesOwn (model X.prog X.w) X.A X.env X.xe) (hc:X.calm=true) (hi:PI X tg iter wi) (hg:PG X tg g) (hb:PSs X body tb)
  (hs:∀ x,foldedSetIterable iter X.env x=pure x:=by intro _;rfl):PS X (.For tg iter body [] pos) (jgv wi g tb):=by
 intro pins s σ H D I h
 refine wpAny_For (thn (hi pins s σ H _ I h) fun v s1 h1=>thn h1 fun itv s2 h2=>?_) hs
 obtain ⟨it,fp,tn,J,H2,e,I2,T,st2,f2,W,⟨m0,w0⟩,turn⟩:=h2
 subst e
 have stat:∀ {H':Hp},(∀ b∈fp,H' b=none)→∀ b∈fp,yU X pins H' b:=fun hn b hb=>⟨hn b hb,(f2 b hb).2⟩
 refine codeAny_forLoop_any (fun n s'=>∃ i σ' H',Inv X pins σ' H' s'∧tn i s'.heap∧(∀ b∈fp,H' b=none)∧W i n σ' H') ?_ m0 ⟨0,σ,H2,I2,st2,fun b hb=>(f2 b hb).1,w0⟩
 rintro n s3 ⟨i,σ3,H3,I3,st3,fr3,w3⟩
 rcases turn i n σ3 H3 w3 with ⟨stop,qn⟩ | ⟨go,N,hN,step⟩
 ·refine wpAny_passesOwn hp (thn (T.done X rfl rfl rfl hc i pins s3 σ3 H3 X.xe I3 (stat fr3) st3 stop) fun r s4 ⟨hr,I4⟩=>?_)
  subst hr
  exact wpAny_execs_nil ⟨σ3,H3,I4,qn⟩
 ·refine wpAny_passesOwn hp (thn (T.item X rfl rfl rfl hc i pins s3 σ3 H3 X.xe I3 (stat fr3) st3 go) fun r s4 ⟨u,hr,h4⟩=>?_)
  subst hr
  refine wpAny_passesOwn hp (thn h4 fun _ s5 ⟨x,H5,I5,r5,y5,st5,fr5⟩=>?_)
  have I5':=I5.pinned (stat fr5) (T.obj _ _ st5)
  refine wpAny_passesOwn hp (thn (hg _ s5 σ3 H5 x u _ I5' r5 (step x H5 y5)) fun _ s6 ⟨σ6,H6,I6,q6⟩=>?_)
  refine wpAny_passesOwn hp (thn (hb _ s6 σ6 H6 _ I6 q6) fun f s7 q7=>?_)
  have again:∀ {σ7:St} {H7:Hp},Inv X (pins++zg fp s5.heap) σ7 H7 s7→N σ7 H7→∃ m,m < n∧∃ i σ' H',Inv X pins σ' H' s7∧tn i s7.heap∧(∀ b∈fp,H' b=none)∧W i m σ' H':=fun {σ7 H7} I7 n7=>by
   obtain ⟨m',hm,w7⟩:=hN σ7 H7 n7
   refine ⟨m',hm,i+1,σ7,H7,I7.unpinned,T.keep _ _ _ st5 fun b hb o e=>(I7.pin (b,o) (List.mem_append_right _ (List.mem_append_right _ (kr hb e)))).1,fun b hb=>?_,w7⟩
   obtain ⟨o,e,d⟩:=T.obj _ _ st5 b hb
   exact (I7.pin (b,o) (List.mem_append_right _ (List.mem_append_right _ (kr hb e)))).2.1
  cases f with
  | next=>obtain ⟨σ7,H7,I7,n7⟩:=q7;exact again I7 n7
  | cont=>obtain ⟨σ7,H7,I7,n7⟩:=q7;exact again I7 n7
  | brk=>obtain ⟨σ7,H7,I7,q7⟩:=q7;exact ⟨σ7,H7,I7.unpinned,q7⟩
  | ret v=>obtain ⟨x7,σ7,H7,I7,r7,q7⟩:=q7;exact ⟨x7,σ7,H7,I7.unpinned,r7,q7⟩
end
theorem J9 {K:PySem.W.Frag} {a:Addr} {xs:List V} {g:TG} {tb:TS} {D:Ends} {σ:St} {H:Hp} (Pv:Nat→St→Hp→Prop) (h0:Pv 0 σ H) (hl:∀ i σ H,i≤xs.length→Pv i σ H→SqL K H a xs)
  (hs:∀ i x σ H,xs[i]?=some x→Pv i σ H→g x σ H fun σ2 H2=>tb { D with nx:=Pv (i+1),ct:=Pv (i+1),bk:=D.nx } σ2 H2) (hd:∀ σ H,Pv xs.length σ H→D.nx σ H) :
  ∃ W:Nat→Nat→St→Hp→Prop,(∃ m,W 0 m σ H)∧∀ i m σ H,W i m σ H→
   ((Itl K a).stop i H∧D.nx σ H)∨((Itl K a).go i H∧∃ N:St→Hp→Prop,(∀ σ' H',N σ' H'→∃ m',m' < m∧W (i+1) m' σ' H')∧∀ x H',(Itl K a).yld i H x H'→g x σ H' fun σ2 H2=>tb { D with nx:=N,ct:=N,bk:=D.nx } σ2 H2):=by
 refine ⟨fun i m σ H=>m=xs.length - i∧i≤xs.length∧Pv i σ H,⟨xs.length,by simp,Nat.zero_le _,h0⟩,?_⟩
 rintro i m σ H ⟨rfl,hi,p⟩
 have q:=hl i σ H hi p
 by_cases hlt:i < xs.length
 ·refine .inr ⟨⟨xs,xs[i],q,by simp [hlt]⟩,Pv (i+1),fun σ' H' p'=>⟨xs.length - (i+1),by omega,rfl,hlt,p'⟩,fun x H' y=>?_⟩
  obtain ⟨e,y⟩:=y
  subst e
  exact hs i x σ _ (y xs q) p
 ·have e:i=xs.length:=by omega
  subst e
  exact .inl ⟨⟨xs,q,Nat.le_refl _⟩,hd σ H p⟩
theorem KN {lo:Int} {n:Nat} {g:TG} {tb:TS} {D:Ends} {σ:St} {H:Hp} (Pv:Nat→St→Hp→Prop) (h0:Pv 0 σ H)
  (hs:∀ i σ H,i < n→Pv i σ H→g (.int (lo+i)) σ H fun σ2 H2=>tb { D with nx:=Pv (i+1),ct:=Pv (i+1),bk:=D.nx } σ2 H2) (hd:∀ σ H,Pv n σ H→D.nx σ H) :
  ∃ W:Nat→Nat→St→Hp→Prop,(∃ m,W 0 m σ H)∧∀ i m σ H,W i m σ H→
   ((Itr lo n).stop i H∧D.nx σ H)∨((Itr lo n).go i H∧∃ N:St→Hp→Prop,(∀ σ' H',N σ' H'→∃ m',m' < m∧W (i+1) m' σ' H')∧∀ x H',(Itr lo n).yld i H x H'→g x σ H' fun σ2 H2=>tb { D with nx:=N,ct:=N,bk:=D.nx } σ2 H2):=by
 refine ⟨fun i m σ H=>m=n - i∧i≤n∧Pv i σ H,⟨n,by simp,Nat.zero_le _,h0⟩,?_⟩
 rintro i m σ H ⟨rfl,hi,p⟩
 by_cases hlt:i < n
 ·refine .inr ⟨hlt,Pv (i+1),fun σ' H' p'=>⟨n - (i+1),by omega,rfl,hlt,p'⟩,fun x H' y=>?_⟩
  obtain ⟨e,y⟩:=y
  subst e y
  exact hs i σ _ hlt p
 ·have e:i=n:=by omega
  subst e
  exact .inl ⟨Nat.le_refl _,hd σ H p⟩
abbrev R2:=V→V→Hp→VK→Prop
def OpR (X:Cx) (f:Value→Value→Sem Value) (r:R2):Prop:=
 ∀ (pins:List (Addr×Obj)) (s:Shared) (σ:St) (H:Hp) (x y:V) (v u:Value) (Q:VK),Inv X pins σ H s→RelV x v→RelV y u→r x y H Q→
  wpAny (model X.prog X.w) X.A (f v u) (EP X pins σ Q) X.xe s
def UnR (X:Cx) (f:Value→Sem Value) (r:V→Hp→VK→Prop):Prop:=
 ∀ (pins:List (Addr×Obj)) (s:Shared) (σ:St) (H:Hp) (x:V) (v:Value) (Q:VK),Inv X pins σ H s→RelV x v→r x H Q→
  wpAny (model X.prog X.w) X.A (f v) (EP X pins σ Q) X.xe s
def qH (X:Cx) (f:Value) (r:List V→Hp→VK→Prop):Prop:=
 ∀ (pins:List (Addr×Obj)) (s:Shared) (σ:St) (H:Hp) (xs:List V) (us:List Value) (Q:VK),Inv X pins σ H s→Vals xs us→r xs H Q→
  wpAny (model X.prog X.w) X.A (call f us) (EP X pins σ Q) X.xe s
def jhm (X:Cx) (r:V→Hp→(Bool→Hp→Prop)→Prop):Prop:=
 ∀ (pins:List (Addr×Obj)) (s:Shared) (σ:St) (H:Hp) (x:V) (v:Value) (Q:Bool→Hp→Prop),Inv X pins σ H s→RelV x v→r x H Q→
  wpAny (model X.prog X.w) X.A (truthy v) (TP X pins σ Q) X.xe s
def tOp (r:R2) (ta tb:TE):TE:=fun σ H Q=>ta σ H fun x H1=>tb σ H1 fun y H2=>r x y H2 Q
def tUn (r:V→Hp→VK→Prop) (ta:TE):TE:=fun σ H Q=>ta σ H fun x H1=>r x H1 Q
def rI (C:Int→Int→Prop) (g:Int→Int→V):R2:=fun x y H Q=>∃ i j,x=.int i∧y=.int j∧C i j∧Q (g i j) H
def rI0 (g:Int→Int→V):R2:=fun x y H Q=>∃ i j,x=.int i∧y=.int j∧Q (g i j) H
def rU (g:Int→V):V→Hp→VK→Prop:=fun x H Q=>∃ i,x=.int i∧Q (g i) H
section
variable {X:Cx} {a b c:Expr} {ta tb tc:TE} {pos:Pos}
theorem jgk (ha:PE X a ta) (hb:PE X b tb) {pins:List (Addr×Obj)} {s:Shared} {σ:St} {H:Hp} {R:V→V→Hp→Prop} (I:Inv X pins σ H s)
  (h:ta σ H fun x H1=>tb σ H1 fun y H2=>R x y H2) {Q:Value→Shared→Prop} {f:Value→Value→Sem Value}
  (hf:∀ v u s2 x y H2,Inv X pins σ H2 s2→RelV x v→RelV y u→R x y H2→wpAny (model X.prog X.w) X.A (f v u) Q X.xe s2) :
  wpAny (model X.prog X.w) X.A (eval a X.env) (fun v s₁=>wpAny (model X.prog X.w) X.A (eval b X.env) (fun u s₂=>wpAny (model X.prog X.w) X.A (f v u) Q X.xe s₂) X.xe s₁) X.xe s:=by
 refine thn (ha pins s σ H _ I h) fun v s1 ⟨x,H1,I1,r1,q1⟩=>?_
 refine thn (hb pins s1 σ H1 _ I1 q1) fun u s2 ⟨y,H2,I2,r2,q2⟩=>?_
 exact hf v u s2 x y H2 I2 r1 r2 q2
theorem jgH {op:Operator} {r:R2} (ho:OpR X (binaryOp op) r) (ha:PE X a ta) (hb:PE X b tb):PE X (.BinOp a op b pos) (tOp r ta tb):=by
 intro pins s σ H Q I h
 exact wpAny_BinOp (jgk ha hb I h fun v u s2 x y H2 I2 rx ry q=>ho pins s2 σ H2 x y v u Q I2 rx ry q)
theorem jgF {op:UnaryOp} {r:V→Hp→VK→Prop} (ho:UnR X (unaryOp op) r) (ha:PE X a ta):PE X (.UnaryOp op a pos) (tUn r ta):=by
 intro pins s σ H Q I h
 exact UnaryOp_ (thn (ha pins s σ H _ I h) fun v s1 ⟨x,H1,I1,r1,q1⟩=>ho pins s1 σ H1 x v Q I1 r1 q1)
theorem opI {f:Value→Value→Sem Value} {C:Int→Int→Prop} {g:Int→Int→Int}
  (rule:∀ (i j:Int) (t u:Tok) (s:Shared) (Q:Value→Shared→Prop) (E:Value→Shared→Prop),C i j→Q (.int (g i j) s.toks) { s with toks:=s.toks+1 }→wpAny (model X.prog X.w) X.A (f (.int i t) (.int j u)) Q E s) :
  OpR X f (rI C fun i j=>.int (g i j)):=by
 intro pins s σ H x y v u Q I rx ry h
 obtain ⟨i,j,rfl,rfl,hc,q⟩:=h
 obtain ⟨t,rfl⟩:=rx
 obtain ⟨t',rfl⟩:=ry
 exact rule i j t t' s _ _ hc ⟨.int (g i j),H,I.tok _,⟨_,rfl⟩,q⟩
theorem jgR {f:Value→Value→Sem Value} {g:Int→Int→Int}
  (rule:∀ (i j:Int) (t u:Tok) (s:Shared) (Q:Value→Shared→Prop) (E:Value→Shared→Prop),Q (.int (g i j) s.toks) { s with toks:=s.toks+1 }→wpAny (model X.prog X.w) X.A (f (.int i t) (.int j u)) Q E s) :
  OpR X f (rI0 fun i j=>.int (g i j)):=by
 intro pins s σ H x y v u Q I rx ry h
 obtain ⟨i,j,rfl,rfl,q⟩:=h
 obtain ⟨t,rfl⟩:=rx
 obtain ⟨t',rfl⟩:=ry
 exact rule i j t t' s _ _ ⟨.int (g i j),H,I.tok _,⟨_,rfl⟩,q⟩
theorem jgS {f:Value→Value→Sem Value} {g:Int→Int→Bool}
  (rule:∀ (i j:Int) (t u:Tok) (s:Shared) (Q:Value→Shared→Prop) (E:Value→Shared→Prop),Q (.bool (g i j)) s→wpAny (model X.prog X.w) X.A (f (.int i t) (.int j u)) Q E s) :
  OpR X f (rI0 fun i j=>.bl (g i j)):=by
 intro pins s σ H x y v u Q I rx ry h
 obtain ⟨i,j,rfl,rfl,q⟩:=h
 obtain ⟨t,rfl⟩:=rx
 obtain ⟨t',rfl⟩:=ry
 exact rule i j t t' s _ _ ⟨.bl (g i j),H,I,rfl,q⟩
def jho (i j:Int):Prop:=0≤j∧j≤1000000∧i.natAbs < 2 ^ 64
def CMul (i j:Int):Prop:=(-(2 ^ 64) < i∧i < 2 ^ 64)∨(-(2 ^ 64) < j∧j < 2 ^ 64)
theorem CMul.ok {i j:Int} (h:CMul i j):IntMulOk i j:=by
 rcases h with ⟨h1,h2⟩ | ⟨h1,h2⟩
 ·exact .of_left (intBits_le_64 h1 h2)
 ·exact .of_right (intBits_le_64 h1 h2)
theorem jH:OpR X (binaryOp .Add) (rI0 fun i j=>.int (i+j)):=jgR fun _ _ _ _ _ _ _ q=>add_int q
theorem kP:OpR X (binaryOp .Sub) (rI0 fun i j=>.int (i - j)):=jgR fun _ _ _ _ _ _ _ q=>sub_int q
theorem kQ:OpR X (binaryOp .Mult) (rI CMul fun i j=>.int (i * j)):=opI fun _ _ _ _ _ _ _ hc q=>mul_int q hc.ok
theorem kE:OpR X (binaryOp .Mod) (rI (fun _ j=>0 < j) fun i j=>.int (i % j)):=opI fun i j _ _ _ _ _ hc q=>by
 have h1:(0:Int) < j:=hc
 exact mod_int' (by omega) (by rw [Int.fmod_eq_emod_of_nonneg i (by omega)];exact q)
theorem Yi:OpR X (binaryOp .Pow) (rI jho fun i j=>.int (i ^ j.toNat)):=opI fun _ _ _ _ _ _ _ hc q=>pow_int_small hc.1 hc.2.1 hc.2.2 q
theorem unI {f:Value→Sem Value} {g:Int→Int}
  (rule:∀ (i:Int) (t:Tok) (s:Shared) (Q:Value→Shared→Prop) (E:Value→Shared→Prop),Q (.int (g i) s.toks) { s with toks:=s.toks+1 }→wpAny (model X.prog X.w) X.A (f (.int i t)) Q E s) :
  UnR X f (rU fun i=>.int (g i)):=by
 intro pins s σ H x v Q I rx h
 obtain ⟨i,rfl,q⟩:=h
 obtain ⟨t,rfl⟩:=rx
 exact rule i t s _ _ ⟨.int (g i),H,I.tok _,⟨_,rfl⟩,q⟩
theorem zD:UnR X (unaryOp .USub) (rU fun i=>.int (-i)):=unI fun _ _ _ _ _ q=>neg_int q
end
def jg6:V→V→Bool
 | .non,.non=>true | .non,.int _=>true | .int _,.non=>true | .non,.bl _=>true | .bl _,.non=>true | .non,.str _=>true | .str _,.non=>true
 | .int _,.int _=>true | .bl _,.bl _=>true | .str _,.str _=>true | .byt _,.byt _=>true
 | .int _,.str _=>true | .str _,.int _=>true | .bl _,.str _=>true | .str _,.bl _=>true
 | _,_=>false
def rEq:R2:=fun x y H Q=>jg6 x y=true∧Q (.bl (decide (x=y))) H
theorem jeX {i j:Int}:decide (V.int i=V.int j)=(i == j):=by
 rw [Bool.eq_iff_iff]
 simp
theorem jge {i j:Bool}:decide (V.bl i=V.bl j)=(i == j):=by
 rw [Bool.eq_iff_iff]
 simp
theorem jeW {i j:Str}:decide (V.str i=V.str j)=(i == j):=by
 rw [Bool.eq_iff_iff]
 simp
theorem jeY {i j:Array UInt8}:decide (V.byt i=V.byt j)=(i.toList == j.toList):=by
 rw [Bool.eq_iff_iff]
 cases i
 cases j
 simp
section
variable {X:Cx} {a b c:Expr} {ta tb tc:TE} {pos:Pos}
theorem kK {pins:List (Addr×Obj)} {σ:St} {H:Hp} {s:Shared} {Q:VK} {k k':Bool} (I:Inv X pins σ H s) (q:Q (.bl k) H) (e:k=k'):EP X pins σ Q (.bool k') s:=by
 subst e
 exact ⟨.bl k,H,I,rfl,q⟩
theorem kR:OpR X (compareOp .Eq) rEq:=by
 intro pins s σ H x y v u Q I rx ry h
 obtain ⟨hs,q⟩:=h
 cases x with
 | non=>
  cases rx
  cases y with
  | non=>cases ry;exact PySem.EqNone.eq_none_none (kK I q (by simp))
  | bl j=>cases ry;exact PySem.EqNone.eq_none_bool (kK I q (by simp))
  | int j=>obtain ⟨t',rfl⟩:=ry;exact PySem.EqNone.eq_none_int (kK I q (by simp))
  | str j=>obtain ⟨t',rfl⟩:=ry;exact PySem.EqNone.eq_none_str (kK I q (by simp))
  | _=>exact absurd (show false=true from hs) Bool.false_ne_true
 | bl i=>
  cases rx
  cases y with
  | non=>cases ry;exact PySem.EqNone.eq_bool_none (kK I q (by simp))
  | bl j=>cases ry;exact eq_bool (kK I q jge)
  | str j=>obtain ⟨t',rfl⟩:=ry;exact PySem.EqMixed.eq_bool_str (kK I q (by simp))
  | _=>exact absurd (show false=true from hs) Bool.false_ne_true
 | int i=>
  obtain ⟨t,rfl⟩:=rx
  cases y with
  | non=>cases ry;exact PySem.EqNone.eq_int_none (kK I q (by simp))
  | int j=>obtain ⟨t',rfl⟩:=ry;exact eq_int (kK I q jeX)
  | str j=>obtain ⟨t',rfl⟩:=ry;exact PySem.EqMixed.eq_int_str (kK I q (by simp))
  | _=>exact absurd (show false=true from hs) Bool.false_ne_true
 | str i=>
  obtain ⟨t,rfl⟩:=rx
  cases y with
  | non=>cases ry;exact PySem.EqNone.eq_str_none (kK I q (by simp))
  | bl j=>cases ry;exact PySem.EqMixed.eq_str_bool (kK I q (by simp))
  | int j=>obtain ⟨t',rfl⟩:=ry;exact PySem.EqMixed.eq_str_int (kK I q (by simp))
  | str j=>obtain ⟨t',rfl⟩:=ry;exact eq_str (kK I q jeW)
  | _=>exact absurd (show false=true from hs) Bool.false_ne_true
 | byt i=>
  obtain ⟨t,rfl⟩:=rx
  cases y with
  | byt j=>obtain ⟨t',rfl⟩:=ry;exact PySem.W.eq_bytes (kK I q jeY)
  | _=>exact absurd (show false=true from hs) Bool.false_ne_true
 | _=>cases y <;> exact absurd (show false=true from hs) Bool.false_ne_true
theorem ja5:OpR X (compareOp .Lt) (rI0 fun i j=>.bl (decide (i < j))):=jgS fun _ _ _ _ _ _ _ q=>lt_int q
theorem Jm:OpR X (compareOp .Gt) (rI0 fun i j=>.bl (decide (j < i))):=jgS fun _ _ _ _ _ _ _ q=>gt_int q
theorem jB (b:Expr) {op:CmpOp} (h:op≠.In:=by decide) (h2:op≠.NotIn:=by decide):behindInMarks op b=false:=by
 have e1:(op == CmpOp.In)=false:=by cases op <;> first | rfl | exact absurd rfl h
 have e2:(op == CmpOp.NotIn)=false:=by cases op <;> first | rfl | exact absurd rfl h2
 cases b <;> simp [behindInMarks,e1,e2]
theorem jez {op:CmpOp} {r:R2} (ho:OpR X (compareOp op) r) (ha:PE X a ta) (hb:PE X b tb) (hm:behindInMarks op b=false):PE X (.Compare a [op] [b] pos) (tOp r ta tb):=by
 intro pins s σ H Q I h
 exact wpAny_Compare1 (jgk ha hb I h fun v u s2 x y H2 I2 rx ry q=>ho pins s2 σ H2 x y v u Q I2 rx ry q) hm
def YT (t:TE):TT:=fun σ H Q=>t σ H fun x H'=>∃ k,x=.bl k∧Q k H'
theorem jeo {op:CmpOp} {r:R2} (ho:OpR X (compareOp op) r) (ha:PE X a ta) (hb:PE X b tb) (hm:behindInMarks op b=false):PT X (.Compare a [op] [b] pos) (YT (tOp r ta tb)):=by
 intro pins s σ H Q I h
 refine wpAny_isTrue_Compare1 (thn (ha pins s σ H _ I h) fun v s1 ⟨x,H1,I1,r1,q1⟩=>thn (hb pins s1 σ H1 _ I1 q1) fun u s2 ⟨y,H2,I2,r2,q2⟩=>
  thn (ho pins s2 σ H2 x y v u _ I2 r1 r2 q2) fun c s3 ⟨z,H3,I3,r3,k,e,q3⟩=>?_) hm
 subst e
 cases r3
 exact wpAny_truthy_bool ⟨H3,I3,q3⟩
def je6 (K:PySem.W.Frag) (x:V) (H:Hp) (k:Bool):Prop:=
 match x with
 | .non=>k=false
 | .bl b=>k=b
 | .int i=>k=(i != 0)
 | .str y=>y.length≤sizeLine∧k=((y.length:Int) != 0)
 | .byt y=>y.size≤sizeLine∧k=((y.size:Int) != 0)
 | .ref p=>(∃ xs,SqL K H p xs∧k=!xs.isEmpty)∨(∃ xs,SqT K H p xs∧k=!xs.isEmpty)∨∃ kvs,H p=some (.dK kvs)∧k=!kvs.isEmpty
 | _=>False
theorem jak {κ:Type} {kvs:List (κ×V)} {vs:List (κ×Value)} (r:KV kvs vs):(!vs.isEmpty)=!kvs.isEmpty:=by
 cases r <;> rfl
theorem J5 {xs:List V} {its:List Value} (r:Vals xs its):(!its.toArray.isEmpty)=!xs.isEmpty:=by
 cases r <;> simp
theorem Jd:(sizeLine:Nat) < 2 ^ 63:=by rw [sizeLine_eq];decide
theorem jfm:jhm X (fun x H Q=>∃ k,je6 X.K x H k∧Q k H):=by
 intro pins s σ H x v Q I rx h
 obtain ⟨k,e,q⟩:=h
 have hl:=Jd
 have hs:sizeLine=16777216:=sizeLine_eq
 cases x with
 | non=>
  cases rx
  have e':k=false:=e
  subst e'
  exact truthy_none ⟨H,I,q⟩
 | bl b=>
  cases rx
  have e':k=b:=e
  subst e'
  exact wpAny_truthy_bool ⟨H,I,q⟩
 | int i=>
  obtain ⟨t,rfl⟩:=rx
  have e':k=(i != 0):=e
  subst e'
  exact PySem.P.truthy_int ⟨H,I,q⟩
 | str y=>
  obtain ⟨t,rfl⟩:=rx
  obtain ⟨hy,e'⟩:y.length≤sizeLine∧k=((y.length:Int) != 0):=e
  subst e'
  exact PySem.P.truthy_str (by omega) ⟨H,I.tok _,q⟩
 | byt y=>
  obtain ⟨t,rfl⟩:=rx
  obtain ⟨hy,e'⟩:y.size≤sizeLine∧k=((y.size:Int) != 0):=e
  subst e'
  exact PySem.W.truthy_bytes (by omega) ⟨H,I.tok _,q⟩
 | ref p=>
  cases rx
  have e':(∃ xs,SqL X.K H p xs∧k=!xs.isEmpty)∨(∃ xs,SqT X.K H p xs∧k=!xs.isEmpty)∨∃ kvs,H p=some (.dK kvs)∧k=!kvs.isEmpty:=e
  rcases e' with ⟨xs,hx,e'⟩ | ⟨xs,hx,e'⟩ | ⟨kvs,hx,e'⟩
  ·subst e'
   obtain ⟨its,r,pl,hz⟩:=I.list hx
   have hlen:=r.length
   exact wpAny_truthy_list pl.isList (by simp only [List.size_toArray];omega) ⟨H,I.tok _,by rw [J5 r];exact q⟩
  ·subst e'
   obtain ⟨its,r,pl,hz⟩:=I.tuple hx
   have hlen:=r.length
   exact truthy_tuple pl (by simp only [List.size_toArray];omega) ⟨H,I.tok _,by rw [J5 r];exact q⟩
  ·subst e'
   obtain ⟨hz,hS,vs,r,m⟩:kvs.length≤sizeLine∧(p == sysModules)=false∧∃ vs,KV kvs vs∧s.heap.DictOf (jY X.prog X.w) p vs:=I.hok p _ hx
   have hlen:kvs.length=vs.length:=Paired.length r
   exact wpAny_truthy_dict hS m (by omega) ⟨H,I.tok _,by rw [jak r];exact q⟩
 | _=>exact (show False from e).elim
theorem jc4 (ha:PE X a ta) (he:∀ whole,isTrue a X.env whole=(do let v ← whole;standAt a.pos;holding [v] (truthy v))) :
  PT X a (fun σ H Q=>ta σ H fun x H'=>∃ k,je6 X.K x H' k∧Q k H'):=by
 intro pins s σ H Q I h
 exact isTrue_plain (thn (ha pins s σ H _ I h) fun v s1 ⟨x,H1,I1,r1,q1⟩=>jfm pins s1 σ H1 x v Q I1 r1 q1) (he _)
theorem JS:OpR X (binaryOp .Add) (fun x y H Q=>∃ i j,x=.str i∧y=.str j∧i.length+j.length≤sizeLine∧Q (.str (i++j)) H):=by
 intro pins s σ H x y v u Q I rx ry h
 obtain ⟨i,j,rfl,rfl,hz,q⟩:=h
 obtain ⟨t,rfl⟩:=rx
 obtain ⟨t',rfl⟩:=ry
 exact add_str (fun t' tk=>⟨.str (i++j),H,I.tok _,⟨_,rfl⟩,q⟩) hz
theorem yb {x:V} {us:List Value} (r:Vals [x] us):∃ u,us=[u]∧RelV x u:=by
 cases r with
 | cons r1 r2=>cases r2;exact ⟨_,rfl,r1⟩
theorem jct:qH X (.type "int") (fun xs H Q=>(∃ i,xs=[.int i]∧Q (.int i) H)∨∃ k,xs=[.bl k]∧Q (.int (if k then 1 else 0)) H):=by
 intro pins s σ H xs us Q I r h
 rcases h with ⟨i,rfl,q⟩ | ⟨k,rfl,q⟩
 ·obtain ⟨u,rfl,t,rfl⟩:=yb r
  exact call_int_int ⟨.int i,H,I,⟨_,rfl⟩,q⟩
 ·obtain ⟨u,rfl,r1⟩:=yb r
  cases r1
  exact call_int_bool ⟨.int (if k then 1 else 0),H,I.tok _,⟨_,rfl⟩,q⟩
end
theorem RelO.some_of {v:V} {o:Option Value} (r:RelO (some v) o):∃ u,o=some u∧RelV v u:=by
 cases o with
 | none=>exact (show False from r).elim
 | some u=>exact ⟨u,rfl,r⟩
theorem RelO.none_of {o:Option Value} (r:RelO none o):o=none:=by
 cases o with
 | none=>rfl
 | some u=>exact (show False from r).elim
section
variable {X:Cx} {pins:List (Addr×Obj)} {σ:St} {H:Hp} {s:Shared} {a C dx:Addr} {fs:List (Str×V)} {f:Str} {v:V} {A:Around} {E:Value→Shared→Prop}
theorem Inv.made (I:Inv X pins σ H s):Inv X pins σ (upd (upd H s.heap.objs.size (.own (s.heap.objs.size+1))) (s.heap.objs.size+1) (.ins C s.heap.objs.size []))
  { s with heap:=(s.heap.push PySem.W.emptyDict).push (PySem.W.instObj C s.heap.objs.size) }:=by
 have e1:(s.heap.push PySem.W.emptyDict).get? s.heap.objs.size=some PySem.W.emptyDict:=Heap.get?_push_size s.heap rfl
 have e2:((s.heap.push PySem.W.emptyDict).push (PySem.W.instObj C s.heap.objs.size)).get? (s.heap.objs.size+1)=some (PySem.W.instObj C s.heap.objs.size):=by
  have:=Heap.get?_push_size (s.heap.push PySem.W.emptyDict) (o:=PySem.W.instObj C s.heap.objs.size) rfl
  rwa [Heap.size_push] at this
 have e3:(s.heap.push PySem.W.emptyDict).Ns s.heap.objs.size (fun _=>none):=⟨PySem.W.emptyDict,#[],_,e1,rfl,(fun e he=>absurd he (by simp)),fun _=>rfl⟩
 have I1:=I.laid (a:=s.heap.objs.size) (o:=.own (s.heap.objs.size+1)) (h':=s.heap.push PySem.W.emptyDict) (t':=s.toks) (fun b u q=>Heap.get?_push_of_some _ q) (Nat.le_refl _) ⟨_,e1⟩
 refine I1.laid (a:=s.heap.objs.size+1) (o:=.ins C s.heap.objs.size []) (t':=s.toks) (fun b u q=>Heap.get?_push_of_some _ q) (Nat.le_of_eq (Heap.size_push _ _)) ?_
 have ne:s.heap.objs.size≠s.heap.objs.size+1:=Nat.ne_of_lt (Nat.lt_succ_self _)
 refine ⟨by rw [jm ne,jd],Nat.zero_le _,ne,e2,fun _=>none,(Heap.Ns1.of_empty e3).at fun o q=>Heap.get?_push_of_some _ q,fun _=>True.intro,fun y hy=>absurd rfl hy⟩
end
structure Room (k:Nat) (A:Around):Prop where
 hd:A.handled=none
 dp:A.depth+3 * k+5 < recursionLimit
 un:A.units+16 * k+200 < cLine
 gd:A.guards=some []
theorem Room.mono {j k:Nat} {A:Around} (r:Room k A) (h:j≤k):Room j A:=⟨r.hd,by have:=r.dp;omega,by have:=r.un;omega,r.gd⟩
theorem Room.deeper {k:Nat} {A:Around} (r:Room (k+1) A) (env:Env):Room k (A.deeper env):=
 ⟨r.hd,by have:=r.dp;show A.depth+1+3 * k+5 < _;omega,by have:=r.un;show A.units+3+16 * k+200 < _;omega,r.gd⟩
theorem Room.in1 {k:Nat} {A:Around} (r:Room (k+1) A):Room k A.in1:=
 ⟨r.hd,by have:=r.dp;show A.depth+3 * k+5 < _;omega,by have:=r.un;show A.units+1+16 * k+200 < _;omega,r.gd⟩
theorem Room.depth {k:Nat} {A:Around} (r:Room k A):A.depth < recursionLimit:=by have:=r.dp;omega
theorem Room.units {k:Nat} {A:Around} (r:Room k A):A.units+64 < cLine:=by have:=r.un;omega
def jgt:TA:=fun _ H Q=>Q [] H
def jcJ (ta:TE) (tr:TA):TA:=fun σ H Q=>ta σ H fun x H1=>tr σ H1 fun xs H2=>Q (x :: xs) H2
section
variable {X:Cx} {e:Expr} {es:List Expr} {te:TE} {t:TA} {pos:Pos}
theorem jdk:PA X [] jgt:=fun _ _ _ _ H Q I h=>Calls.spliced_nil ⟨[],H,I,.nil,h⟩
theorem jeB (ha:PE X e te) (hr:PA X es t) (hs:starEach (e :: es) X.env=(false,eval e X.env) :: starEach es X.env:=by rfl):PA X (e :: es) (jcJ te t):=by
 intro pos pins s σ H Q I h
 rw [hs]
 show wpAny _ _ (spliced ((false,eval e X.env) :: backTo pos (starEach es X.env))) _ _ s
 refine Calls.spliced_cons (thn (ha pins s σ H _ I h) fun u s1 ⟨x,H1,I1,r1,q1⟩=>?_)
 exact thn (hr pos pins s1 σ H1 _ I1 q1) fun us s2 ⟨xs,H2,I2,r2,q2⟩=>⟨x :: xs,H2,I2,.cons r1 r2,q2⟩
def jgp (t:TA):TE:=fun σ H Q=>t σ H fun xs H1=>xs.length≤sizeLine∧∀ p,H1 p=none→Q (.ref p) (upd H1 p (.tup xs))
def jgu (t:TA):TE:=fun σ H Q=>t σ H fun xs H1=>xs.length≤sizeLine∧∀ p,H1 p=none→Q (.ref p) (upd H1 p (.lst xs))
theorem jda {x1} (h:PA X es t):PE X (.Tuple es x1 pos) (jgp t):=by
 intro pins s σ H Q I hq
 refine wpAny_Tuple_spliced (thn (h pos pins s σ H _ I hq) fun us s1 ⟨xs,H1,I1,r,z,q⟩=>⟨by rw [← r.length];exact z,?_⟩)
 have hf:H1 s1.heap.objs.size=none:=I1.hok.fresh (Nat.le_refl _)
 refine ⟨.ref s1.heap.objs.size,upd H1 s1.heap.objs.size (.tup xs),I1.laid (t':=s1.toks) (fun b u e=>Heap.get?_push_of_some _ e) (Nat.le_refl _) ?_,rfl,q _ hf⟩
 exact ⟨z,us,r,⟨_,Heap.get?_push_size _ rfl,rfl,_,rfl⟩⟩
theorem jfJ (h:PA X es t):PE X (.List es pos) (jgu t):=by
 intro pins s σ H Q I hq
 refine wpAny_List_spliced (thn (h pos pins s σ H _ I hq) fun us s1 ⟨xs,H1,I1,r,z,q⟩=>⟨by rw [← r.length];exact z,?_⟩)
 have hf:H1 s1.heap.objs.size=none:=I1.hok.fresh (Nat.le_refl _)
 refine ⟨.ref s1.heap.objs.size,upd H1 s1.heap.objs.size (.lst xs),I1.laid (t':=s1.toks) (fun b u e=>Heap.get?_push_of_some _ e) (Nat.le_refl _) ?_,rfl,q _ hf⟩
 exact ⟨z,us,0,r,Heap.get?_push_size _ rfl⟩
end
abbrev Sp:=List V→Hp→VK→XK→Prop
abbrev CXT:=List Env→Hp→Shared→XK→Value→Shared→Prop
structure Env0 (P:Program) (w:World) (K:PySem.W.Frag) (mg:Str→Option Value) (base:Heap) (A:Around) (outer:List Env) (s:Shared) (H:Hp):Prop where
 frames:A.frames=some outer
 mod:Mod K mg base
 bs:∀ b o,base.get? b=some o→s.heap.get? b=some o∧H b=none
 bsz:base.objs.size≤s.heap.objs.size
 funs:s.heap.FunFrames base outer
 frf:∀ b∈frs outer,H b=none
 hok:HOk P w H s.heap
 bare:AllBare s.gens
def CE (outer:List Env) (P:Program) (w:World) (H:Hp) (s:Shared) (Q:VK) (u:Value) (s':Shared):Prop:=
 ∃ v H',s'.os=s.os∧AllBare s'.gens∧Un (frs outer) [] H H' s.heap s'.heap∧HOk P w H' s'.heap∧RelV v u∧Q v H'
def CR (CX:CXT) (outer:List Env) (P:Program) (w:World) (H:Hp) (s:Shared) (Q:VK) (E:XK) (r:Result) (s':Shared):Prop:=
 match r with
 | .ok (.ret u)=>CE outer P w H s Q u s'
 | .ok _=>False
 | .error e=>CX outer H s E e s'
structure FnOk (P:Program) (w:World) (K:PySem.W.Frag) (mg:Str→Option Value) (base:Heap) (CX:CXT) (k:Nat) (f:Addr) (fd:FuncData) (ps:List Str) (sp:Sp):Prop where
 len:∀ vs H Q E,sp vs H Q E→vs.length=ps.length
 run:∀ (A:Around) (outer:List Env) (s:Shared) (H:Hp) (args:Args) (us:List Value) (vs:List V) (Q:VK) (E:XK),Room k A→Env0 P w K mg base A outer s H→BindsTo s fd args (ps.zip us)→Vals vs us→sp vs H Q E→
  codeAny (model P w) A (.call (.ref f) args) (CR CX outer P w H s Q E) s
theorem FnOk.imp {P:Program} {w:World} {K:PySem.W.Frag} {mg:Str→Option Value} {base:Heap} {CX:CXT} {k:Nat} {f:Addr} {fd:FuncData} {ps:List Str} {sp sp':Sp} (F:FnOk P w K mg base CX k f fd ps sp)
  (h:∀ vs H Q E,sp' vs H Q E→sp vs H Q E):FnOk P w K mg base CX k f fd ps sp':=
 ⟨fun vs H Q E q=>F.len vs H Q E (h _ _ _ _ q),fun A outer s H args us vs Q E hr he hb hv hs=>F.run A outer s H args us vs Q E hr he hb hv (h _ _ _ _ hs)⟩
theorem Env0.in1 {P:Program} {w:World} {K:PySem.W.Frag} {mg:Str→Option Value} {base:Heap} {A:Around} {outer:List Env} {s:Shared} {H:Hp} (e:Env0 P w K mg base A outer s H) :
  Env0 P w K mg base A.in1 outer s H:=⟨e.frames,e.mod,e.bs,e.bsz,e.funs,e.frf,e.hok,e.bare⟩
section
variable {X:Cx} {pins:List (Addr×Obj)} {σ:St} {H:Hp} {s s':Shared}
theorem Inv.env0 (I:Inv X pins σ H s):Env0 X.prog X.w X.K X.mg X.base X.A X.stack s H:=
 ⟨I.ok.frames,I.ok.mod,I.bs,Nat.le_trans I.ok.bsz I.sz,I.stack,I.stkFree,I.hok,I.bare⟩
theorem Inv.after {Q:VK} {u:Value} (I:Inv X pins σ H s) (h:CE X.stack X.prog X.w H s Q u s'):EP X pins σ Q u s':=by
 obtain ⟨v,H',os,bare,un,hok,r,q⟩:=h
 obtain ⟨hh,g,d,t,os'⟩:=s'
 obtain rfl:os'=s.os:=os
 exact ⟨v,H',I.call (h':=hh) (g':=g) (d':=d) (t':=t) (ch:=[]) un hok bare (fun b z=>absurd z (by simp)),r,q⟩
end
def jaO (sp:Sp) (dvs:List V) (E:XK) (t:TA):TE:=fun σ H Q=>t σ H fun vs H1=>sp (vs++dvs) H1 Q E
def Binds (K:PySem.W.Frag) (fd:FuncData) (ps:List Str) (ds:List Value):Prop:=
 ∀ (s:Shared) (us:List Value),K.In s.heap→(us++ds).length=ps.length→BindsTo s fd ⟨us,[]⟩ (ps.zip (us++ds))
theorem Binds.all {K:PySem.W.Frag} {fd:FuncData} {ps:List Str} (h:∀ us:List Value,us.length=ps.length→bindArgs fd ⟨us,[]⟩=pure (ps.zip us)):Binds K fd ps []:=fun s us _ hl=>by
 rw [List.append_nil] at hl ⊢
 exact .of_eq (h us hl)
def jaB (CX:CXT) (X:Cx) (E:XK):Prop:=∀ (pins:List (Addr×Obj)) (σ:St) (H:Hp) (s:Shared) (e:Value) (s':Shared),Inv X pins σ H s→CX X.stack H s E e s'→X.xe e s'
section
variable {X:Cx} {CX:CXT} {k:Nat} {f C:Addr} {fd:FuncData} {ps:List Str} {sp:Sp} {dvs:List V} {ds:List Value} {E:XK} {x m:Str} {p pos apos:Pos} {e o:Expr} {es:List Expr} {ta:TE} {t:TA}
theorem jfr {pins:List (Addr×Obj)} {σ:St} {H:Hp} {s:Shared} {Q:VK} {us:List Value} {vs:List V} (F:FnOk X.prog X.w X.K X.mg X.base CX k f fd ps sp) (hr:Room k X.A) (hb:Binds X.K fd ps ds) (hd:Vals dvs ds) (hx:jaB CX X E)
  (I:Inv X pins σ H s) (r:Vals vs us) (h:sp (vs++dvs) H Q E):wpAny (model X.prog X.w) X.A (call (.ref f) us) (EP X pins σ Q) X.xe s:=by
 have r2:Vals (vs++dvs) (us++ds):=r.append hd
 have hl:(us++ds).length=ps.length:=by rw [← r2.length];exact F.len _ _ _ _ h
 refine wpAny_call (codeAny_mono (F.run X.A X.stack s H ⟨us,[]⟩ (us++ds) (vs++dvs) Q E hr I.env0 (hb s us I.kIn hl) r2 h) fun r s' hq=>?_)
 cases r with
 | error e=>exact hx pins σ H s e s' I hq
 | ok fl=>
  cases fl with
  | ret u=>exact I.after hq
  | next=>exact False.elim hq
  | brk=>exact False.elim hq
  | cont=>exact False.elim hq
theorem jeA (F:FnOk X.prog X.w X.K X.mg X.base CX k f fd ps sp) (hr:Room k X.A) (hg:Gl X x) (hm:X.mg x=some (.ref f)) (hk:PySem.W.keepIn X.K (.ref f)=true) (hb:Binds X.K fd ps ds) (hd:Vals dvs ds) (hx:jaB CX X E)
  (ha:PA X (e :: es) t) (hdb:(x == ("__debug__" : Str))=false:=by decide) (he:starEach (e :: es) X.env=(false,eval e X.env) :: starEach es X.env:=by rfl) (hpl:(backTo pos (starEach es X.env)).any (·.1)=false:=by rfl) :
  PE X (.Call (.Name x p) (e :: es) [] pos) (jaO sp dvs E t):=by
 intro pins s σ H Q I h
 refine wpAny_Call_Name_kw (jeQ I hg hm ?_ hdb)
 refine PySem.W.callWith_K (h₀:=X.base) I.ok.mod.kin hk (thn (ha pos pins s σ H _ I h) fun us s1 ⟨vs,H1,I1,r,q⟩=>⟨I1.kIn,?_⟩) he hpl
 exact jfr F hr hb hd hx I1 r q
end
structure FnScope (N P:List Str) (sc:Scope):Prop where
 kind:sc.kind=.function
 co:sc.isCoroutine=false
 gen:sc.isGenerator=false
 nd:N.Nodup
 pre:N.take P.length=P
 par:∀ x∈P,sc.names.lookup x=some .local∨sc.names.lookup x=some .cell
 nofree:∀ y∈sc.names,y.2≠.free
theorem KS {kindOf:Str→Option NameKind} {x:Str}:∀ {binds:List (Str×Value)} {m:Str→Option Value},(∀ v,(x,v) ∉ binds)→bindL kindOf binds m x=m x
 | [],_,_=>rfl
 | (n,v) :: r,m,h=>by
  unfold bindL
  rw [KS fun w hw=>h w (List.mem_cons_of_mem _ hw)]
  split
  ·have:x≠n:=by rintro rfl;exact h v List.mem_cons_self
   simp [this]
  ·rfl
theorem KW {kindOf:Str→Option NameKind} {x:Str}:∀ {binds:List (Str×Value)} {m:Str→Option Value},(∀ v,(x,v) ∉ binds)→bindC kindOf binds m x=m x
 | [],_,_=>rfl
 | (n,v) :: r,m,h=>by
  unfold bindC
  rw [KW fun w hw=>h w (List.mem_cons_of_mem _ hw)]
  split
  ·rfl
  ·have:x≠n:=by rintro rfl;exact h v List.mem_cons_self
   simp [this]
theorem KU {kindOf:Str→Option NameKind} {x:Str} {v:Value}:∀ {P:List Str} {vs:List Value} {i:Nat} {m:Str→Option Value},P.Nodup→P[i]?=some x→vs[i]?=some v→kindOf x=some .local→
  bindL kindOf (P.zip vs) m x=some v
 | [],_,_,_,_,h,_,_=>by simp at h
 | _ :: _,[],_,_,_,_,h,_=>by simp at h
 | p :: P,w :: vs,0,m,nd,h1,h2,hk=>by
  simp at h1 h2;subst h1;subst h2
  show bindL kindOf ((p,w) :: P.zip vs) m p=_
  unfold bindL
  rw [KS fun v hv=>(List.nodup_cons.mp nd).1 (List.of_mem_zip hv).1,if_pos hk]
  simp
 | p :: P,w :: vs,i+1,m,nd,h1,h2,hk=>by
  show bindL kindOf ((p,w) :: P.zip vs) m x=_
  unfold bindL
  exact KU (i:=i) (List.nodup_cons.mp nd).2 (by simpa using h1) (by simpa using h2) hk
theorem KY {kindOf:Str→Option NameKind} {x:Str} {v:Value}:∀ {P:List Str} {vs:List Value} {i:Nat} {m:Str→Option Value},P.Nodup→P[i]?=some x→vs[i]?=some v→kindOf x≠some .local→
  bindC kindOf (P.zip vs) m x=some v
 | [],_,_,_,_,h,_,_=>by simp at h
 | _ :: _,[],_,_,_,_,h,_=>by simp at h
 | p :: P,w :: vs,0,m,nd,h1,h2,hk=>by
  simp at h1 h2;subst h1;subst h2
  show bindC kindOf ((p,w) :: P.zip vs) m p=_
  unfold bindC
  rw [KW fun v hv=>(List.nodup_cons.mp nd).1 (List.of_mem_zip hv).1,if_neg hk]
  simp
 | p :: P,w :: vs,i+1,m,nd,h1,h2,hk=>by
  show bindC kindOf ((p,w) :: P.zip vs) m x=_
  unfold bindC
  exact KY (i:=i) (List.nodup_cons.mp nd).2 (by simpa using h1) (by simpa using h2) hk
def yy (N:List Str) (vs:List V):St:=vs.map some++List.replicate (N.length - vs.length) none
def kZ (CX:CXT) (P:Program) (w:World) (K:PySem.W.Frag) (mg:Str→Option Value) (base:Heap) (N:List Str) (qual:Str) (scope:Scope) (f:Addr) (cd:Value) (A:Around) (outer:List Env) (s:Shared) (H:Hp) (E:XK):Cx where
 prog:=P
 w:=w
 K:=K
 mg:=mg
 base:=base
 A:=A.deeper (envOfC qual scope s.heap.objs.size f cd)
 N:=N
 s₀:=s
 H₀:=H
 env:=envOfC qual scope s.heap.objs.size f cd
 outer:=outer
 stack:=envOfC qual scope s.heap.objs.size f cd :: outer
 ex:=[]
 calm:=true
 fn:=fun _=>true
 pn:=[]
 xe:=fun e s'=>wpAny (model P w) (A.deeper (envOfC qual scope s.heap.objs.size f cd)) (leaving (envOfC qual scope s.heap.objs.size f cd) e) (fun _ s''=>CX outer H s E e s'') (fun e' s''=>CX outer H s E e' s'') s'
theorem ZM {sc:Scope} {n:Nat} {x:Str} (h:sc.names.lookup x=some .cell):∃ c,(cellsFrom n sc.names []).lookup x=some c:=by
 have q:=PySem.W.cellsFrom_some sc.names n [] (.inl h)
 exact Option.isSome_iff_exists.mp q
theorem jcj {CX:CXT} {P:Program} {w:World} {K:PySem.W.Frag} {mg:Str→Option Value} {base:Heap} {N ps:List Str} {qual:Str} {scope:Scope} {f:Addr} {cd:Value} {A:Around} {outer:List Env} {s s1:Shared} {H:Hp} {E:XK} {us:List Value} {vs:List V}
  (S:FnScope N ps scope) (hd:A.handled=none) (e0:Env0 P w K mg base A outer s H) (hl:vs.length=ps.length) (r:Vals vs us)
  (x:InCallC s s.heap.objs.size (bindL (envOfC qual scope s.heap.objs.size f cd).kindOf (ps.zip us) fun _=>none) (cellsFrom (s.heap.objs.size+1) scope.names []) (bindC (envOfC qual scope s.heap.objs.size f cd).kindOf (ps.zip us) fun _=>none) s1) :
  Inv (kZ CX P w K mg base N qual scope f cd A outer s H E) [] (yy N vs) H s1:=by
 have hpl:ps.length≤N.length:=by have:=congrArg List.length S.pre;rw [List.length_take] at this;omega
 obtain ⟨h1,tk,rfl,hk⟩:=x.done
 have noA:∀ b:Addr,b ∉ (kZ CX P w K mg base N qual scope f cd A outer s H E).ex:=fun b z=>absurd (show b∈([]:List Addr) from z) (by simp)
 refine ⟨⟨e0.mod,S.kind,rfl,rfl,Nat.le_refl _,fun y z c h1 h2=>?_,fun y hy=>?_,fun y c _ h=>?_,fun _=>hd,Around.frames_deeper e0.frames,.inr ⟨rfl,rfl⟩,fun b z=>absurd z (noA b),e0.bs,e0.bsz,fun b _ _=>noA b,fun b z=>absurd z (noA b),e0.funs,e0.frf⟩,
  rfl,e0.bare,Un.kept hk,⟨_,x.toInCall.ns,fun i y v h1 h2 h3=>?_⟩,fun y c h=>⟨_,x.cell y c h⟩,e0.hok.fresh (Nat.le_refl _),fun y c h=>?_,fun p hp=>absurd (show p∈([]:List (Addr×Obj)) from hp) (by simp),e0.hok.kept hk,?_⟩
 ·exact name_of_addr x.apart (PySem.mem_of_lookup h1) (PySem.mem_of_lookup h2)
 ·have hy:scope.names.lookup y=some .cell∨scope.names.lookup y=some .free:=hy
  rcases hy with hy | hy
  ·exact ZM hy
  ·exact absurd rfl (S.nofree _ (PySem.mem_of_lookup hy))
 ·exact Nat.le_of_lt (x.above y c (PySem.mem_of_lookup h))
 ·have hi:i < vs.length:=by
   unfold yy at h2
   by_cases hi:i < vs.length
   ·exact hi
   ·rw [List.getElem?_append_right (by simpa using hi)] at h2
    rw [List.getElem?_replicate] at h2
    split at h2 <;> cases h2
  have ha:vs[i]?=some v:=by
   unfold yy at h2
   rw [List.getElem?_append_left (by simpa using hi),List.getElem?_map] at h2
   cases e:vs[i]? with
   | none=>rw [e] at h2;cases h2
   | some a=>rw [e] at h2;cases h2;rfl
  obtain ⟨u,hu,rv⟩:=r.get ha
  have hp:ps[i]?=some y:=by
   rw [← S.pre,List.getElem?_take_of_lt (by omega)];exact h1
  have ndP:ps.Nodup:=by rw [← S.pre];exact S.nd.sublist (List.take_sublist _ _)
  refine ⟨u,rv,?_⟩
  rcases S.par y (List.mem_of_getElem? hp) with k | k
  ·exact .inl ⟨k,KU ndP hp hu k⟩
  ·obtain ⟨c,e⟩:=ZM (n:=s.heap.objs.size+1) k
   refine .inr ⟨.inl k,c,e,?_⟩
   have q:=x.cell y c e
   rw [KY ndP hp hu (by show scope.names.lookup y≠_;rw [k];decide)] at q
   exact q
 ·exact e0.hok.fresh (Nat.le_of_lt (x.above y c (PySem.mem_of_lookup h)))
 ·unfold yy
  show _=N.length
  rw [List.length_append,List.length_map,List.length_replicate]
  omega
theorem jg1 {CX:CXT} {P:Program} {w:World} {K:PySem.W.Frag} {mg:Str→Option Value} {base:Heap} {k:Nat} {f:Addr} {name qual:Str} {params:Arguments} {body:List Stmt} {scope:Scope} {dV kV doc pm cdv ct oc:Value} {an od:Option Addr}
  {osl:Array (Option Value)} {N ps:List Str} {sp:Sp} (lk:K.lookup f=some ⟨oc,od,.func (PySem.W.fnOf name qual params body scope dV kV doc pm an cdv ct),osl⟩) (hcd:PySem.W.codeIn K cdv qual=true) (S:FnScope N ps scope)
  (len:∀ vs H Q E,sp vs H Q E→vs.length=ps.length)
  (hbody:∀ (A:Around) (outer:List Env) (s:Shared) (H:Hp) (vs:List V) (Q:VK) (E:XK),Room k (A.deeper (envOfC qual scope s.heap.objs.size f cdv))→sp vs H Q E→
   ∃ t,PSs (kZ CX P w K mg base N qual scope f cdv A outer s H E) body t∧t { nx:=fun _ H'=>Q .non H',rt:=Q } (yy N vs) H) :
  FnOk P w K mg base CX (k+1) f (PySem.W.fnOf name qual params body scope dV kV doc pm an cdv ct) ps sp:=by
 refine ⟨len,fun A outer s H args us vs Q E hr e0 hb r hsp=>?_⟩
 have hl:=len _ _ _ _ hsp
 have KX:K.In s.heap:=e0.mod.kin.keeps fun b o e=>(e0.bs b o e).1
 have lim:s.heap.NoLimit:=e0.mod.nolimit.keeps fun b o e=>(e0.bs b o e).1
 have hkind:∀ y∈ps.zip us,scope.names.lookup y.1=some .local∨(scope.names.lookup y.1=some .cell∧((cellsFrom (s.heap.objs.size+1) scope.names []).lookup y.1).isSome=true):=fun ⟨n,v⟩ hy=>by
  rcases S.par n (List.of_mem_zip hy).1 with q | q
  ·exact .inl q
  ·exact .inr ⟨q,PySem.W.cellsFrom_some _ _ _ (.inl q)⟩
 refine codeAny_call_function hr.depth (KX _ _ lk) rfl S.co S.gen rfl (PySem.W.codeRec_of KX hcd) (hb _ _ _ _ ?_)
 refine wpAny_newFunctionEnv_cells S.kind hkind fun env he s1 x=>?_
 subst he
 refine ⟨lim.keeps x.toInCall.keep,codeAny_func ?_⟩
 obtain ⟨t,ht,hq⟩:=hbody A outer s H vs Q E (hr.deeper _) hsp
 have I:Inv (kZ CX P w K mg base N qual scope f cdv A outer s H E) [] (yy N vs) H s1:=jcj S hr.hd e0 hl r x
 refine wpAny_mono (ht [] s1 (yy N vs) H _ I hq) (fun fl s' hs=>?_) fun e s' hs=>hs
 have fin:∀ {σ':St} {H':Hp} {v:V} {u:Value},Inv (kZ CX P w K mg base N qual scope f cdv A outer s H E) [] σ' H' s'→RelV v u→Q v H'→CE outer P w H s Q u s':=
  fun {σ' H' v u} J rv q=>⟨v,H',J.os,J.bare,J.base,J.hok,rv,q⟩
 cases fl with
 | ret u=>
  obtain ⟨v,σ',H',J,rv,q⟩:=hs
  exact fin J rv q
 | next=>
  obtain ⟨σ',H',J,q⟩:=hs
  exact fin (v:=V.non) (u:=Value.none) J rfl q
 | brk=>
  obtain ⟨_,_,_,q⟩:=hs
  exact False.elim q
 | cont=>
  obtain ⟨_,_,_,q⟩:=hs
  exact False.elim q
section
variable {X:Cx} {x:Str} {p pos:Pos} {e:Expr} {es:List Expr} {t:TA} {id T:String} {r:List V→Hp→VK→Prop}
def tCB (r:List V→Hp→VK→Prop) (t:TA):TE:=fun σ H Q=>t σ H fun vs H1=>r vs H1 Q
theorem jdj (hc:qH X (.builtin id) r) (hg:Gl X x) (hm:X.mg x=none) (hv:bootBuiltins x=some (.builtin id)) (ha:PA X (e :: es) t) (hn:x≠"__name__":=by decide) (hdb:(x == ("__debug__" : Str))=false:=by decide)
  (he:starEach (e :: es) X.env=(false,eval e X.env) :: starEach es X.env:=by rfl) (hpl:(backTo pos (starEach es X.env)).any (·.1)=false:=by rfl):PE X (.Call (.Name x p) (e :: es) [] pos) (tCB r t):=by
 intro pins s σ H Q I h
 refine wpAny_Call_Name_kw (Yn I hg hm hv ?_ hn hdb)
 exact PyProof.Rows.callWith_builtin1 (thn (ha pos pins s σ H _ I h) fun us s1 ⟨vs,H1,I1,r1,q1⟩=>hc pins s1 σ H1 vs us Q I1 r1 q1) he hpl
theorem jb0 (hc:qH X (.type T) r) (hg:Gl X x) (hm:X.mg x=none) (hv:bootBuiltins x=some (.type T)) (ha:PA X (e :: es) t) (hn:x≠"__name__":=by decide) (hdb:(x == ("__debug__" : Str))=false:=by decide)
  (he:starEach (e :: es) X.env=(false,eval e X.env) :: starEach es X.env:=by rfl) (hpl:(backTo pos (starEach es X.env)).any (·.1)=false:=by rfl):PE X (.Call (.Name x p) (e :: es) [] pos) (tCB r t):=by
 intro pins s σ H Q I h
 refine wpAny_Call_Name_kw (Yn I hg hm hv ?_ hn hdb)
 exact PyProof.Rows.callWith_type1 (thn (ha pos pins s σ H _ I h) fun us s1 ⟨vs,H1,I1,r1,q1⟩=>hc pins s1 σ H1 vs us Q I1 r1 q1) he hpl
end
end L2
namespace HT
open PySem PyProof.Rows
section
variable {prog:Program} {w:World} {A:Around} {E:Value→Shared→Prop} {s:Shared}
theorem cat_tup {t b:Addr} {vs ws:List Value} {Q:Value→Shared→Prop} (ht:IsTup s.heap t vs.toArray) (hb:IsTup s.heap b ws.toArray) (hv:vs≠[])
  (h1:ws=[]→Q (.ref t) s) (h2:ws≠[]→Q (.ref s.heap.objs.size) { s with heap:=s.heap.push { cls:=.type "tuple",data:=.seq (vs++ws).toArray } })
  (hsz:vs.length+ws.length≤sizeLine):wpAny (model prog w) A (binaryOp .Add (.ref t) (.ref b)) Q E s:=by
 obtain ⟨⟨cls,dd,data,sl⟩,ho,hc,n,hd⟩:=id ht
 obtain ⟨⟨cls2,dd2,data2,sl2⟩,ho2,hc2,n2,hd2⟩:=id hb
 simp only at hc hd hc2 hd2
 subst hc hd hc2 hd2
 have e:vs.toArray++ws.toArray=(vs++ws).toArray:=by simp
 by_cases hw:ws=[]
 ·exact concat_meets ⟨_,ho,rfl⟩ ⟨_,ho2,rfl⟩ noFill_tuple_add seq_tuple_add PySem.F.slot_tuple_add PySem.F.entry_tuple_add (PySem.F.args_tuple_add_2 _ _)
   (tuple_addW1 t b vs.toArray ws.toArray n n2 dd dd2 sl sl2 (by simpa using hv) (by simp [hw])) ⟨ho,ho2,h1 hw⟩
 ·refine concat_meets ⟨_,ho,rfl⟩ ⟨_,ho2,rfl⟩ noFill_tuple_add seq_tuple_add PySem.F.slot_tuple_add PySem.F.entry_tuple_add (PySem.F.args_tuple_add_2 _ _)
   (tuple_addW2 t b vs.toArray ws.toArray n n2 dd dd2 sl sl2 (by simpa using hv) (by simpa using hw) (by rw [List.size_toArray,List.size_toArray];exact hsz)) ⟨ho,ho2,?_⟩
  rw [e]
  exact h2 hw
def sIx (n d:Nat):Option Int→Nat
 | none=>d
 | some v=>if v < 0 then (v+(n:Int)).toNat else min v.toNat n
theorem jfp (n d:Nat) (hd:d≤n) (o:Option Int):sIx n d o≤n:=by
 cases o with
 | none=>exact hd
 | some v=>
  show (if v < 0 then (v+(n:Int)).toNat else min v.toNat n)≤n
  by_cases hv:v < 0
  ·rw [if_pos hv];omega
  ·rw [if_neg hv];exact Nat.min_le_right _ _
theorem jbw (v:Int) (n d:Nat):(if v < 0 then max (v+(n:Int)) 0 else min v (n:Int))=((sIx n d (some v):Nat):Int):=by
 show (if v < 0 then max (v+(n:Int)) 0 else min v (n:Int))=(((if v < 0 then (v+(n:Int)).toNat else min v.toNat n):Nat):Int)
 by_cases hv:v < 0
 ·simp only [if_pos hv];omega
 ·simp only [if_neg hv];omega
theorem jaA (lo hi:Option Int) (n:Nat):Builtin.Slice.sliceAdjust lo hi 1 (n:Int)=(((sIx n 0 lo:Nat):Int),((sIx n n hi:Nat):Int)):=by
 have h1:¬ ((1:Int) < 0):=by omega
 unfold Builtin.Slice.sliceAdjust
 simp only [h1,if_false]
 refine Prod.ext ?_ ?_
 ·cases lo with
  | none=>rfl
  | some v=>exact jbw v n 0
 ·cases hi with
  | none=>rfl
  | some v=>exact jbw v n n
theorem Z7 (i j:Nat):Builtin.Slice.slicePlaces (i:Int) (j:Int) 1=j - i:=by
 unfold Builtin.Slice.slicePlaces
 have h1:(1:Int) > 0:=by omega
 simp only [h1,if_true,Int.ediv_one]
 split <;> omega
theorem JN {v:Value} {o:Option Int} {Q:Option Int→Shared→Prop} (p:IsPart v o) (h:Q o s):wpAny (model prog w) A (Builtin.Slice.slicePartIndex v) Q E s:=by
 cases p with
 | none=>exact slicePart_none h
 | int i t=>exact slicePart_int h
theorem yZ {sl:Addr} {vl vu:Value} {lo hi:Option Int} {n:Nat} {Q:Int×Int×Nat→Shared→Prop} (hs:s.heap.IsSliceOf sl vl vu .none) (pl:IsPart vl lo) (pu:IsPart vu hi)
  (h:Q (((sIx n 0 lo:Nat):Int),1,sIx n n hi - sIx n 0 lo) s):wpAny (model prog w) A (Builtin.Slice.sliceApplied (.ref sl) (pure (n:Int))) Q E s:=by
 obtain ⟨os,hos,hcs,hds⟩:=id hs
 unfold Builtin.Slice.sliceApplied Builtin.Slice.sliceFields
 refine wpAny_bind (wpAny_bind (wpAny_field hos hds (x:=vl) rfl (wpAny_bind (wpAny_field hos hds (x:=vu) rfl (wpAny_bind (wpAny_field hos hds (x:=.none) rfl (wpAny_pure ?_)))))))
 refine wpAny_bind (slicePart_none ?_)
 show wpAny _ _ (if ((1:Int) == 0)=true then _ else _) _ _ s
 rw [if_neg (by decide)]
 refine wpAny_bind (JN pl (wpAny_bind (JN pu (wpAny_bind (wpAny_pure ?_)))))
 show wpAny _ _ (match Builtin.Slice.sliceAdjust lo hi 1 (n:Int) with | (lo,hi)=>pure (lo,(1:Int),Builtin.Slice.slicePlaces lo hi 1)) _ _ s
 rw [jaA lo hi n]
 show wpAny _ _ (pure (((sIx n 0 lo:Nat):Int),(1:Int),Builtin.Slice.slicePlaces ((sIx n 0 lo:Nat):Int) ((sIx n n hi:Nat):Int) 1)) _ _ s
 rw [Z7]
 exact wpAny_pure h
theorem jc8 (xs:Array Value) (i k:Nat):((List.range k).filterMap fun (m:Nat)=>xs[((i:Int)+(m:Int) * 1).toNat]?).toArray=((xs.toList.drop i).take k).toArray:=by
 have e:(fun (m:Nat)=>xs[((i:Int)+(m:Int) * 1).toNat]?)=fun m=>xs[i+m]?:=by
  funext m
  have:((i:Int)+(m:Int) * 1).toNat=i+m:=by omega
  rw [this]
 rw [e]
 have:=pick_run xs i k
 rw [List.filterMap_map] at this
 have e2:((fun x=>xs[x]?) ∘ fun x=>i+x)=fun m=>xs[i+m]?:=rfl
 rw [e2] at this
 rw [this]
theorem getItem_tuple_cut {t sl:Addr} {items:Array Value} {vl vu:Value} {lo hi:Option Int} {Q:Value→Shared→Prop} (ht:IsTup s.heap t items) (hs:s.heap.IsSliceOf sl vl vu .none) (pl:IsPart vl lo) (pu:IsPart vu hi)
  (hw:¬ (sIx items.size 0 lo=0∧sIx items.size items.size hi=items.size))
  (h:Q (.ref s.heap.objs.size) { s with heap:=s.heap.push { cls:=.type "tuple",data:=.seq ((items.toList.drop (sIx items.size 0 lo)).take (sIx items.size items.size hi - sIx items.size 0 lo)).toArray } })
  (hsz:items.size≤sizeLine):wpAny (model prog w) A (getItem (.ref t) (.ref sl)) Q E s:=by
 have htake:sizeOk (.seq ((items.toList.drop (sIx items.size 0 lo)).take (sIx items.size items.size hi - sIx items.size 0 lo)).toArray):=by
  show ((items.toList.drop (sIx items.size 0 lo)).take (sIx items.size items.size hi - sIx items.size 0 lo)).toArray.size≤sizeLine
  rw [List.size_toArray,List.length_take,List.length_drop,Array.length_toList]
  omega
 have hj:sIx items.size items.size hi≤items.size:=jfp _ _ (Nat.le_refl _) hi
 obtain ⟨os,hos,hcs,hds⟩:=id hs
 have hTs:s.TypeIs (.ref sl) "slice":=⟨os,hos,hcs⟩
 unfold getItem
 try with_reducible refine wpAny_holding ?_
 first | refine wpAny_bind (wpAny_pure ?_) | skip
 refine wpAny_bind (wpAny_sequenceKey ht.typeIs (by decide) ?_)
 refine wpAny_bind (wpAny_callSpecial?_slot (name:=Str.ofString "__getitem__") ht.typeIs PyProof.Rows.slot_tuple_getitem
  (wpAny_call_entry PyProof.Rows.slot_tuple_getitem ht.typeIs entry_tuple_getitem ?_ (args_tuple_getitem _ _)))
 show wpAny _ _ (Builtin.Tuple.tupleItemsOf (.ref t) >>= _) _ _ s
 refine wpAny_bind (tupleItemsOf_ ht ?_)
 refine wpAny_bind (wpAny_typeOf hTs ?_)
 rw [if_pos (by decide)]
 refine wpAny_bind (yZ hs pl pu ?_)
 have hno:¬ ((((sIx items.size 0 lo:Nat):Int) == 0 && (1:Int) == 1 && (sIx items.size items.size hi - sIx items.size 0 lo) == items.size)=true):=by
  intro q
  rw [Bool.and_eq_true,Bool.and_eq_true] at q
  have q1:((sIx items.size 0 lo:Nat):Int)=0:=eq_of_beq q.1.1
  have q2:sIx items.size items.size hi - sIx items.size 0 lo=items.size:=eq_of_beq q.2
  exact hw ⟨by omega,by omega⟩
 show wpAny _ _ (if (((sIx items.size 0 lo:Nat):Int) == 0 && (1:Int) == 1 && (sIx items.size items.size hi - sIx items.size 0 lo) == items.size)=true then _ else _) _ _ s
 rw [if_neg hno,jc8]
 first
  | exact wpAny_bind (m:=Builtin.Tuple.tupleExact _) (wpAny_newObj_type (wpAny_pure ⟨_,rfl,wpAny_pure h⟩) htake)
  | exact wpAny_bind (m:=Builtin.Tuple.tupleExact _) (wpAny_newObj_type (wpAny_bind (wpAny_pure (wpAny_pure ⟨_,rfl,wpAny_pure h⟩))) htake)
  | exact wpAny_bind (wpAny_bind (m:=Builtin.Tuple.tupleExact _) (wpAny_newObj_type (wpAny_pure (wpAny_pure ⟨_,rfl,wpAny_pure h⟩)) htake))
  | exact wpAny_bind (wpAny_bind (m:=Builtin.Tuple.tupleExact _) (wpAny_newObj_type (wpAny_pure ⟨_,rfl,wpAny_pure h⟩) htake))
end
end HT
namespace L2
open PySem PySem.Spec PyProof.Rows
abbrev TO:=St→Hp→(Option Int→Hp→Prop)→Prop
def PO (X:Cx) (e:Option Expr) (t:TO):Prop:=
 ∀ (pins:List (Addr×Obj)) (s:Shared) (σ:St) (H:Hp) (Q:Option Int→Hp→Prop),Inv X pins σ H s→t σ H Q→
  wpAny (model X.prog X.w) X.A (evalPart e X.env) (fun u s'=>∃ o H',Inv X pins σ H' s'∧IsPart u o∧Q o H') X.xe s
def jaL:TO:=fun _ H Q=>Q none H
def jfa (t:TE):TO:=fun σ H Q=>t σ H fun x H1=>∃ i,x=.int i∧Q (some i) H1
section
variable {X:Cx} {e:Expr} {te:TE} {lo hi:Option Expr} {tl th:TO} {pos p2:Pos}
theorem jeu:PO X none jaL:=by
 intro pins s σ H Q I h
 rw [evalPart_none]
 exact wpAny_pure ⟨none,H,I,.none,h⟩
theorem jet (h:PE X e te):PO X (some e) (jfa te):=by
 intro pins s σ H Q I hw
 rw [evalPart_some]
 refine thn (h pins s σ H _ I hw) fun u s1 ⟨x,H1,I1,r1,q1⟩=>?_
 obtain ⟨i,rfl,q⟩:=q1
 obtain ⟨t,rfl⟩:=r1
 exact ⟨some i,H1,I1,.int i t,q⟩
def SlR (X:Cx) (r:V→Option Int→Option Int→Hp→VK→Prop):Prop:=
 ∀ (pins:List (Addr×Obj)) (s:Shared) (σ:St) (H:Hp) (x:V) (v vl vu:Value) (lo hi:Option Int) (sl:Addr) (Q:VK),Inv X pins σ H s→RelV x v→s.heap.IsSliceOf sl vl vu .none→IsPart vl lo→IsPart vu hi→r x lo hi H Q→
  ∃ T id,typeLookup (.type T) "__getitem__" = pure (some (.builtin id))∧s.TypeIs v T∧wpAny (model X.prog X.w) X.A (getItem v (.ref sl)) (EP X pins σ Q) X.xe s
def tSl (r:V→Option Int→Option Int→Hp→VK→Prop) (te:TE) (tl th:TO):TE:=fun σ H Q=>te σ H fun x H1=>tl σ H1 fun l H2=>th σ H2 fun u H3=>r x l u H3 Q
theorem jdc {r:V→Option Int→Option Int→Hp→VK→Prop} (hr:SlR X r) (he:PE X e te) (hl:PO X lo tl) (hu:PO X hi th):PE X (.Subscript e (.Slice lo hi none p2) pos) (tSl r te tl th):=by
 intro pins s σ H Q I h
 refine Subscript_ (thn (he pins s σ H _ I h) fun v s1 ⟨x,H1,I1,r1,q1⟩=>?_)
 refine wpAny_Slice (thn (hl pins s1 σ H1 _ I1 q1) fun vl s2 ⟨l,H2,I2,pl,q2⟩=>thn (hu pins s2 σ H2 _ I2 q2) fun vu s3 ⟨u,H3,I3,pu,q3⟩=>?_)
 rw [evalPart_none]
 refine wpAny_pure ?_
 have I4:Inv X pins σ H3 { s3 with heap:=s3.heap.push { cls:=.type "slice",data:=.fields #[vl,vu,.none] } }:=I3.kept (t':=s3.toks) fun b ob q=>Heap.get?_push_of_some _ q
 obtain ⟨T,id,hT,ht,hg⟩:=hr pins { s3 with heap:=s3.heap.push { cls:=.type "slice",data:=.fields #[vl,vu,.none] } } σ H3 x v vl vu l u s3.heap.objs.size Q I4 r1 (Heap.IsSliceOf.new ..) pl pu q3
 show wpAny (model X.prog X.w) X.A (subscriptTail e (.Slice lo hi none p2) v (.ref s3.heap.objs.size)) (EP X pins σ Q) X.xe { s3 with heap:=s3.heap.push { cls:=.type "slice",data:=.fields #[vl,vu,.none] } }
 exact tail_any (ops:=[.ref s3.heap.objs.size,v]) ht hT hg (by with_unfolding_all rfl)
def qG (xs:List V) (lo hi:Option Int):List V:=(xs.drop (HT.sIx xs.length 0 lo)).take (HT.sIx xs.length xs.length hi - HT.sIx xs.length 0 lo)
theorem Jp (xs:List V) (lo hi:Option Int):(qG xs lo hi).length≤xs.length:=by
 unfold qG
 rw [List.length_take,List.length_drop]
 omega
def jg7 (K:PySem.W.Frag):V→Option Int→Option Int→Hp→VK→Prop:=fun x lo hi H Q=>∃ a xs,x=.ref a∧SqT K H a xs∧
 ¬ (HT.sIx xs.length 0 lo=0∧HT.sIx xs.length xs.length hi=xs.length)∧∀ p,H p=none→Q (.ref p) (upd H p (.tup (qG xs lo hi)))
theorem jcS:SlR X (jg7 X.K):=by
 intro pins s σ H x v vl vu lo hi sl Q I rx hs pl pu h
 obtain ⟨a,xs,rfl,hx,hw,q⟩:=h
 cases rx
 obtain ⟨its,r,ht,hz⟩:=I.tuple hx
 have hlen:its.toArray.size=xs.length:=by rw [List.size_toArray];exact r.length.symm
 refine ⟨"tuple",_,PyProof.Rows.slot_tuple_getitem.lookup,ht.typeIs,?_⟩
 refine HT.getItem_tuple_cut ht hs pl pu (by rw [hlen];exact hw) ?_ (by rw [hlen];exact hz)
 rw [hlen]
 refine ⟨.ref s.heap.objs.size,_,I.laid (t':=s.toks) (o:=.tup (qG xs lo hi)) (fun b ob q=>Heap.get?_push_of_some _ q) (Nat.le_refl _) ?_,rfl,q _ (I.hok.fresh (Nat.le_refl _))⟩
 exact ⟨Nat.le_trans (Jp xs lo hi) hz,_,(r.drop (HT.sIx xs.length 0 lo)).take (HT.sIx xs.length xs.length hi - HT.sIx xs.length 0 lo),IsTup.new _ _⟩
def jgC (K:PySem.W.Frag):R2:=fun x y H Q=>∃ a b xs ys,x=.ref a∧y=.ref b∧SqT K H a xs∧SqT K H b ys∧xs≠[]∧xs.length+ys.length≤sizeLine∧
 (ys=[]→Q (.ref a) H)∧(ys≠[]→∀ p,H p=none→Q (.ref p) (upd H p (.tup (xs++ys))))
theorem Vals.nil_iff {xs:List V} {us:List Value} (r:Vals xs us):us=[]↔xs=[]:=by
 cases r with
 | nil=>simp
 | cons _ _=>simp
theorem jeE:OpR X (binaryOp .Add) (jgC X.K):=by
 intro pins s σ H x y v u Q I rx ry h
 obtain ⟨a,b,xs,ys,rfl,rfl,ha,hb,hx,hz,q1,q2⟩:=h
 cases rx
 cases ry
 obtain ⟨its,r1,p1,_⟩:=I.tuple ha
 obtain ⟨its2,r2,p2,_⟩:=I.tuple hb
 refine HT.cat_tup p1 p2 (fun z=>hx (r1.nil_iff.mp z)) (fun z=>⟨.ref a,H,I,rfl,q1 (r2.nil_iff.mp z)⟩) (fun z=>?_) (by rw [← r1.length,← r2.length];exact hz)
 refine ⟨.ref s.heap.objs.size,_,I.laid (t':=s.toks) (o:=.tup (xs++ys)) (fun b ob q=>Heap.get?_push_of_some _ q) (Nat.le_refl _) ?_,rfl,q2 (fun w=>z (r2.nil_iff.mpr w)) _ (I.hok.fresh (Nat.le_refl _))⟩
 exact ⟨by rw [List.length_append];exact hz,_,r1.append r2,IsTup.new _ _⟩
end
def ixN (n:Nat) (i:Int):Option Nat:=if 0≤i then (if i < n then some i.toNat else none) else if -(n:Int)≤i then some (i+n).toNat else none
def atI {α:Type} (xs:List α) (i:Int):Option α:=(ixN xs.length i).bind fun j=>xs[j]?
theorem jbg {n:Nat} {i:Int} {j:Nat} (h:ixN n i=some j):seqIndex? i n=some j∧j < n∧-(n:Int)≤i∧i < n:=by
 unfold ixN at h
 by_cases h0:0≤i
 ·rw [if_pos h0] at h
  by_cases h1:i < n
  ·rw [if_pos h1] at h
   have e:i.toNat=j:=Option.some.inj h
   exact ⟨by rw [seqIndex_of h0 h1,e],by omega,by omega,h1⟩
  ·rw [if_neg h1] at h;cases h
 ·rw [if_neg h0] at h
  by_cases h1:-(n:Int)≤i
  ·rw [if_pos h1] at h
   have e:(i+n).toNat=j:=Option.some.inj h
   exact ⟨by rw [seqIndex_neg (by omega) h1,e],by omega,h1,by omega⟩
  ·rw [if_neg h1] at h;cases h
theorem YC {α:Type} {xs:List α} {i:Int} {v:α} (h:atI xs i=some v):∃ j,seqIndex? i xs.length=some j∧xs[j]?=some v∧j < xs.length∧-(xs.length:Int)≤i∧i < xs.length:=by
 unfold atI at h
 cases e:ixN xs.length i with
 | none=>rw [e] at h;cases h
 | some j=>
  rw [e] at h
  obtain ⟨h1,h2,h3,h4⟩:=jbg e
  exact ⟨j,h1,h,h2,h3,h4⟩
theorem kI {α:Type} {xs:List α} {j:Nat} {v:α} (h:xs[j]?=some v):atI xs (j:Int)=some v:=by
 have hj:j < xs.length:=(List.getElem?_eq_some_iff.mp h).1
 have e:ixN xs.length (j:Int)=some j:=by
  unfold ixN
  rw [if_pos (by omega),if_pos (by omega)];simp
 unfold atI;rw [e];exact h
theorem zL {α:Type} (xs:List α) (v:α):atI (xs++[v]) (-1)=some v:=by
 have hl:(xs++[v]).length=xs.length+1:=by simp
 have e:ixN (xs++[v]).length (-1)=some xs.length:=by
  unfold ixN
  rw [hl,if_neg (by decide),if_pos (by omega)]
  congr 1
  omega
 unfold atI
 rw [e]
 show (xs++[v])[xs.length]?=some v
 simp
def jbC (b:Expr):Prop:=∀ o i,subscripted b false o i=operate [o,i] (getItem o i)
def IxR (X:Cx) (r:R2):Prop:=
 ∀ (value slice:Expr) (pins:List (Addr×Obj)) (s:Shared) (σ:St) (H:Hp) (x y:V) (v u:Value) (Q:VK),Inv X pins σ H s→RelV x v→RelV y u→r x y H Q→
  subscripted slice false v u=operate [v,u] (getItem v u)→wpAny (model X.prog X.w) X.A (subscriptTail value slice v u) (EP X pins σ Q) X.xe s
def MtR (X:Cx) (id:String) (r:V→List V→Hp→VK→Prop):Prop:=
 ∀ (pins:List (Addr×Obj)) (s:Shared) (σ:St) (H:Hp) (x:V) (xs:List V) (v:Value) (us:List Value) (Q:VK),Inv X pins σ H s→RelV x v→Vals xs us→r x xs H Q→
  wpAny (model X.prog X.w) X.A (call (.builtin id) (v :: us)) (EP X pins σ Q) X.xe s
section
variable {X:Cx} {a b:Expr} {ta tb:TE} {pos:Pos}
theorem jgI {r:R2} (hr:IxR X r) (ha:PE X a ta) (hb:PE X b tb) (hs:jbC b):PE X (.Subscript a b pos) (tOp r ta tb):=by
 intro pins s σ H Q I h
 exact Subscript_ (jgk ha hb I h fun v u s2 x y H2 I2 rx ry q=>hr a b pins s2 σ H2 x y v u Q I2 rx ry q (hs _ _))
def jgB (K:PySem.W.Frag):R2:=fun x y H Q=>∃ p xs i v,x=.ref p∧y=.int i∧SqL K H p xs∧atI xs i=some v∧Q v H
def jc3 (K:PySem.W.Frag):R2:=fun x y H Q=>∃ p xs i v,x=.ref p∧y=.int i∧SqT K H p xs∧atI xs i=some v∧Q v H
def jha:R2:=fun x y H Q=>∃ z i c,x=.str z∧y=.int i∧z.length≤sizeLine∧atI z.cps.toList i=some c∧Q (.str ⟨#[c]⟩) H
theorem jr:IxR X (jgB X.K):=by
 intro value slice pins s σ H x y v u Q I rx ry h hs
 obtain ⟨p,xs,i,z,rfl,rfl,hq,he,q⟩:=h
 cases rx
 obtain ⟨t,rfl⟩:=ry
 obtain ⟨its,r,pl,hz⟩:=I.list hq
 obtain ⟨j,h1,h2,h3,h4,h5⟩:=YC he
 obtain ⟨w,ew,rw'⟩:=r.get h2
 have hl:=r.length
 have hn:=Jd
 have fin:EP X pins σ Q w s:=⟨z,H,I,rw',q⟩
 by_cases h0:0≤i
 ·have hj:i.toNat=j:=by
   rw [seqIndex_of h0 h5] at h1
   exact Option.some.inj h1
  exact item_listR pl.isList h0 (by omega) (by rw [hj];simpa using ew) fin hs
 ·have hj:(i+(its.toArray.size:Int)).toNat=j:=by
   rw [seqIndex_neg (by omega) h4] at h1
   rw [List.size_toArray,← hl]
   exact Option.some.inj h1
  exact subscriptTail_builtinR (x:=w) pl.isList.typeIs slot_list_getitem.lookup
   (wpAny_getItem_list_neg (Q:=fun r s'=>r=w∧EP X pins σ Q r s') pl.isList (by omega) (by rw [List.size_toArray] <;> omega) (by omega) (by rw [hj];simpa using ew) ⟨rfl,fin⟩) hs
theorem jy:IxR X (jc3 X.K):=by
 intro value slice pins s σ H x y v u Q I rx ry h hs
 obtain ⟨p,xs,i,z,rfl,rfl,hq,he,q⟩:=h
 cases rx
 obtain ⟨t,rfl⟩:=ry
 obtain ⟨its,r,pl,hz⟩:=I.tuple hq
 obtain ⟨j,h1,h2,h3,h4,h5⟩:=YC he
 obtain ⟨w,ew,rw'⟩:=r.get h2
 have hl:=r.length
 have hn:=Jd
 have fin:EP X pins σ Q w s:=⟨z,H,I,rw',q⟩
 exact subscriptTail_builtinR (x:=w) pl.typeIs slot_tuple_getitem.lookup
  (getItem_tuple (j:=j) (Q:=fun r s'=>r=w∧EP X pins σ Q r s') pl (by omega) (by omega) (by rw [List.size_toArray,← hl];exact h1) (by simpa using ew) ⟨rfl,fin⟩) hs
theorem jdx:IxR X jha:=by
 intro value slice pins s σ H x y v u Q I rx ry h hs
 obtain ⟨z,i,c,rfl,rfl,hz,he,q⟩:=h
 obtain ⟨t,rfl⟩:=rx
 obtain ⟨t',rfl⟩:=ry
 obtain ⟨j,h1,h2,h3,h4,h5⟩:=YC he
 have hl:z.cps.toList.length=z.length:=by simp [Str.length]
 rw [hl] at h1 h4 h5
 have hn:=Jd
 exact tail_any (typeIs_str s z t) slot_str_getitem.lookup (getItem_str (c:=c) (by
  have e1:decide (i < -(2 ^ 63:Int))=false:=decide_eq_false (by omega)
  have e2:decide (i ≥ 2 ^ 63)=false:=decide_eq_false (by omega)
  rw [e1,e2,Bool.or_false]) (by rw [h1];simpa using h2) ⟨.str ⟨#[c]⟩,H,I.tok _,⟨_,rfl⟩,q⟩) hs
theorem jag (its:List Value) (n j:Nat) (u:Value):Obj.mapSeq (·.setIfInBounds j u) { cls:=.type "list",data:=.seq its.toArray n }={ cls:=.type "list",data:=.seq (its.set j u).toArray n }:=by
 simp [Obj.mapSeq]
theorem Inv.lst {pins:List (Addr×Obj)} {σ:St} {H:Hp} {s:Shared} {p:Addr} {xs:List V} (I:Inv X pins σ H s) (h:H p=some (.lst xs)) :
  ∃ (its:List Value) (n:Nat),Vals xs its∧s.heap.get? p=some { cls:=.type "list",data:=.seq its.toArray n }∧xs.length≤sizeLine:=by
 obtain ⟨z,its,n,r,e⟩:=I.hok p _ h
 exact ⟨its,n,r,e,z⟩
theorem Inv.lstUpd {pins:List (Addr×Obj)} {σ:St} {H:Hp} {s:Shared} {p:Addr} {xs ys:List V} {its its':List Value} {n n':Nat} {f:Obj→Obj} (I:Inv X pins σ H s) (h:H p=some (.lst xs))
  (ho:s.heap.get? p=some { cls:=.type "list",data:=.seq its.toArray n }) (hf:f { cls:=.type "list",data:=.seq its.toArray n }={ cls:=.type "list",data:=.seq its'.toArray n' }) (r:Vals ys its') (hz:ys.length≤sizeLine) (t:Nat) :
  Inv X pins σ (upd H p (.lst ys)) { s with heap:=s.heap.update p f,toks:=t }:=by
 have e:(s.heap.update p f).get? p=some { cls:=.type "list",data:=.seq its'.toArray n' }:=by
  rw [Heap.get?_update_self f ho (by rw [hf] <;> rfl),hf]
 refine I.write (x:=p) (e:=p) (by rw [h];trivial) (.inl rfl) (fun b u hb q=>(Heap.get?_update_other _ _ (Ne.symm hb)).trans q) ⟨_,e⟩ ?_
 exact ⟨hz,its',n',r,e⟩
def jgz:V→V→V→Hp→(Hp→Prop)→Prop:=fun o i v H Q=>∃ p xs k j,o=.ref p∧i=.int k∧H p=some (.lst xs)∧ixN xs.length k=some j∧Q (upd H p (.lst (xs.set j v)))
theorem jcU:jgl X jgz:=by
 intro pins s σ H o i v ov iv u Q I ro ri rv h
 obtain ⟨p,xs,k,j,rfl,rfl,hp,hj,q⟩:=h
 cases ro
 obtain ⟨t,rfl⟩:=ri
 obtain ⟨its,n,r,ho,hz⟩:=I.lst hp
 obtain ⟨h1,h2,h3,h4⟩:=jbg hj
 have hl:=r.length
 have hn:=Jd
 have I':Inv X pins σ (upd H p (.lst (xs.set j v))) { s with heap:=s.heap.update p (Obj.mapSeq (·.setIfInBounds j u)) }:=
  I.lstUpd hp ho (jag its n j u) (r.set rv j) (by rw [List.length_set];exact hz) s.toks
 by_cases h0:0≤k
 ·have hk:k.toNat=j:=by
   rw [seqIndex_of h0 h4] at h1
   exact Option.some.inj h1
  exact PySem.W.ki_setAt ho h0 (by omega) (by rw [List.size_toArray,← hl];exact h4) (by rw [hk];exact ⟨_,I',q⟩)
 ·have hk:(k+(its.toArray.size:Int)).toNat=j:=by
   rw [seqIndex_neg (by omega) h3] at h1
   rw [List.size_toArray,← hl]
   exact Option.some.inj h1
  exact PySem.W.ki_setBack ho (by omega) (by rw [List.size_toArray,← hl];exact h3) (by omega) (by rw [hk];exact ⟨_,I',q⟩)
theorem Yc (lo hi:Option Int) (n:Nat):(sliceBounds lo hi none n).1=((HT.sIx n 0 lo:Nat):Int)∧(sliceBounds lo hi none n).2.1=((HT.sIx n n hi:Nat):Int)∧(sliceBounds lo hi none n).2.2=1:=by
 refine ⟨?_,?_,rfl⟩
 ·cases lo with
  | none=>simp [sliceBounds,HT.sIx]
  | some i=>
   simp only [sliceBounds,HT.sIx,Option.getD_none,show (1:Int) > 0 by decide,if_true]
   by_cases h:i < 0
   ·simp only [h,if_true] <;> omega
   ·simp only [h,if_false] <;> omega
 ·cases hi with
  | none=>simp [sliceBounds,HT.sIx]
  | some i=>
   simp only [sliceBounds,HT.sIx,Option.getD_none,show (1:Int) > 0 by decide,if_true]
   by_cases h:i < 0
   ·simp only [h,if_true] <;> omega
   ·simp only [h,if_false] <;> omega
theorem Kg (its:List Value) (lo hi:Option Int):slicePick its.toArray lo hi none=((its.drop (HT.sIx its.length 0 lo)).take (HT.sIx its.length its.length hi - HT.sIx its.length 0 lo)).toArray:=by
 obtain ⟨h1,h2,h3⟩:=Yc lo hi its.toArray.size
 unfold slicePick
 rw [h1,h2,h3]
 simp only [sliceRange_one,pick_run,List.size_toArray] <;> rfl
def jg8 (K:PySem.W.Frag):V→Option Int→Option Int→Hp→VK→Prop:=fun x lo hi H Q=>∃ a xs,x=.ref a∧SqL K H a xs∧∀ p,H p=none→Q (.ref p) (upd H p (.lst (qG xs lo hi)))
theorem yB:SlR X (jg8 X.K):=by
 intro pins s σ H x v vl vu lo hi sl Q I rx hs pl pu h
 obtain ⟨a,xs,rfl,hx,q⟩:=h
 cases rx
 obtain ⟨its,r,ht,hz⟩:=I.list hx
 have hlen:=r.length
 refine ⟨"list",_,slot_list_getitem.lookup,ht.isList.typeIs,?_⟩
 refine wpAny_getItem_list_slice ht.isList hs pl pu .none (by simp) ?_ (by rw [List.size_toArray] <;> omega)
 rw [Kg,← hlen]
 refine ⟨.ref s.heap.objs.size,_,I.laid (t':=s.toks) (o:=.lst (qG xs lo hi)) (fun b ob q=>Heap.get?_push_of_some _ q) (Nat.le_refl _) ?_,rfl,q _ (I.hok.fresh (Nat.le_refl _))⟩
 exact ⟨Nat.le_trans (Jp xs lo hi) hz,_,0,(r.drop (HT.sIx xs.length 0 lo)).take (HT.sIx xs.length xs.length hi - HT.sIx xs.length 0 lo),Heap.get?_push_size _ rfl⟩
def yO:V→Bool
 | .non=>true
 | .bl _=>true
 | .int _=>true
 | .str _=>true
 | _=>false
def eqV:V→V→Bool
 | .non,.non=>true
 | .bl a,.bl b=>a == b
 | .bl a,.int b=>(if a then 1 else 0) == b
 | .int a,.bl b=>a == (if b then 1 else 0)
 | .int a,.int b=>a == b
 | .str a,.str b=>a == b
 | _,_=>false
theorem jgd {A:Around} {s:Shared} {y x:V} {u v:Value} (ry:RelV y u) (rx:RelV x v) (fy:yO y=true) (fx:yO x=true):SeqAt.EqAt A s u v (eqV y x):=by
 cases y with
 | non=>
  cases ry
  cases x with
  | non=>cases rx;exact SeqAt.EqAt.same _
  | bl b=>cases rx;exact SeqAt.EqAt.none_bool b
  | int b=>obtain ⟨t,rfl⟩:=rx;exact SeqAt.EqAt.none_int b t
  | str b=>obtain ⟨t,rfl⟩:=rx;exact SeqAt.EqAt.none_str b t
  | _=>exact absurd (show false=true from fx) Bool.false_ne_true
 | bl a=>
  cases ry
  cases x with
  | non=>cases rx;exact SeqAt.EqAt.bool_none a
  | bl b=>cases rx;exact SeqAt.EqAt.bool_bool a b
  | int b=>obtain ⟨t,rfl⟩:=rx;exact SeqAt.EqAt.bool_int a b t
  | str b=>obtain ⟨t,rfl⟩:=rx;exact SeqAt.EqAt.bool_str a b t
  | _=>exact absurd (show false=true from fx) Bool.false_ne_true
 | int a=>
  obtain ⟨t',rfl⟩:=ry
  cases x with
  | non=>cases rx;exact SeqAt.EqAt.int_none a t'
  | bl b=>cases rx;exact SeqAt.EqAt.int_bool a t' b
  | int b=>obtain ⟨t,rfl⟩:=rx;exact SeqAt.EqAt.int_int a t' b t
  | str b=>obtain ⟨t,rfl⟩:=rx;exact SeqAt.EqAt.int_str a t' b t
  | _=>exact absurd (show false=true from fx) Bool.false_ne_true
 | str a=>
  obtain ⟨t',rfl⟩:=ry
  cases x with
  | non=>cases rx;exact SeqAt.EqAt.str_none a t'
  | bl b=>cases rx;exact SeqAt.EqAt.str_bool a t' b
  | int b=>obtain ⟨t,rfl⟩:=rx;exact SeqAt.EqAt.str_int a t' b t
  | str b=>obtain ⟨t,rfl⟩:=rx;exact SeqAt.EqAt.str_str a t' b t
  | _=>exact absurd (show false=true from fx) Bool.false_ne_true
 | _=>exact absurd (show false=true from fy) Bool.false_ne_true
def eqU (x:V) (u:Value):Bool:=match u with
 | .none=>eqV .non x
 | .bool b=>eqV (.bl b) x
 | .int i _=>eqV (.int i) x
 | .str z _=>eqV (.str z) x
 | _=>false
theorem jdM {x y:V} {u:Value} (r:RelV y u) (f:yO y=true):eqU x u=eqV y x:=by
 cases y with
 | non=>cases r;rfl
 | bl b=>cases r;rfl
 | int i=>obtain ⟨t,rfl⟩:=r;rfl
 | str z=>obtain ⟨t,rfl⟩:=r;rfl
 | _=>exact absurd (show false=true from f) Bool.false_ne_true
theorem YD {x:V}:∀ {xs:List V} {us:List Value},Vals xs us→xs.all yO=true→us.any (eqU x)=xs.any fun y=>eqV y x
 | _,_,.nil,_=>rfl
 | y :: xs,u :: us,.cons r t,f=>by
  rw [List.all_cons,Bool.and_eq_true] at f
  rw [List.any_cons,List.any_cons,jdM r f.1,YD t f.2]
theorem JW {A:Around} {s:Shared} {x:V} {v:Value} (rx:RelV x v) (fx:yO x=true):∀ {xs:List V} {us:List Value},Vals xs us→xs.all yO=true→∀ u∈us,SeqAt.EqAt A s u v (eqU x u)
 | _,_,.nil,_=>fun u hu=>by cases hu
 | y :: xs,u :: us,.cons r t,f=>fun u' hu=>by
  rw [List.all_cons,Bool.and_eq_true] at f
  rcases List.mem_cons.mp hu with rfl | hu
  ·rw [jdM r f.1];exact jgd r rx f.1 fx
  ·exact JW rx fx t f.2 u' hu
def inV (x:V) (xs:List V):Bool:=xs.any fun y=>eqV y x
def rIn (K:PySem.W.Frag) (neg:Bool):R2:=fun x y H Q=>∃ p xs,y=.ref p∧(SqL K H p xs∨SqT K H p xs)∧yO x=true∧xs.all yO=true∧Q (.bl (if neg then !inV x xs else inV x xs)) H
theorem Kz:OpR X (compareOp .In) (rIn X.K false):=by
 intro pins s σ H x y v u Q I rx ry h
 obtain ⟨p,xs,rfl,hq,fx,fs,q⟩:=h
 cases ry
 rcases hq with hq | hq
 ·obtain ⟨its,r,pl,hz⟩:=I.list hq
  refine SeqAt.in_listAt (eqU x) pl.isList (fun w hw=>JW rx fx r fs w (by simpa using hw)) ⟨.bl _,H,I,rfl,?_⟩
  rw [show its.toArray.any (eqU x)=its.any (eqU x) by simp,YD r fs]
  exact q
 ·obtain ⟨its,r,pl,hz⟩:=I.tuple hq
  refine SeqAt.in_tupleAt (eqU x) pl (fun w hw=>JW rx fx r fs w (by simpa using hw)) ⟨.bl _,H,I,rfl,?_⟩
  rw [show its.toArray.any (eqU x)=its.any (eqU x) by simp,YD r fs]
  exact q
theorem jz:qH X (.builtin "len") (fun xs H Q=>∃ p ys,xs=[.ref p]∧(SqL X.K H p ys∨SqT X.K H p ys)∧Q (.int ys.length) H):=by
 intro pins s σ H xs us Q I r h
 obtain ⟨p,ys,rfl,hq,q⟩:=h
 obtain ⟨u,rfl,rx⟩:=yb r
 cases rx
 have hn:=Jd
 rcases hq with hq | hq
 ·obtain ⟨its,r',pl,hz⟩:=I.list hq
  have hlen:=r'.length
  exact Calls.call_len_list pl.isList (by simp only [List.size_toArray] <;> omega) ⟨.int ys.length,H,I.tok _,⟨s.toks+1,by rw [List.size_toArray,hlen]⟩,q⟩
 ·obtain ⟨its,r',pl,hz⟩:=I.tuple hq
  have hlen:=r'.length
  exact len_tuple pl (by simp only [List.size_toArray] <;> omega) ⟨.int ys.length,H,I.tok _,⟨s.toks+1,by rw [List.size_toArray,hlen]⟩,q⟩
theorem zt:qH X (.type "list") (fun xs H Q=>∃ p ys,xs=[.ref p]∧(SqL X.K H p ys∨SqT X.K H p ys)∧∀ l,H l=none→Q (.ref l) (upd H l (.lst ys))):=by
 intro pins s σ H xs us Q I r h
 obtain ⟨p,ys,rfl,hq,q⟩:=h
 obtain ⟨u,rfl,rx⟩:=yb r
 cases rx
 have fin:∀ (its:List Value),Vals ys its→ys.length≤sizeLine→∀ (h':Heap) (c':Nat),(∀ b o',s.heap.get? b=some o'→h'.get? b=some o')→
   h'.get? s.heap.objs.size=some { cls:=.type "list",dict:=none,data:=.seq its.toArray c',slots:=#[] }→EP X pins σ Q (.ref s.heap.objs.size) { s with heap:=h' }:=fun its r' hz h' c' kp e=>
  ⟨.ref s.heap.objs.size,_,I.laid (t':=s.toks) kp (Nat.le_refl _) (show ObjOk X.prog X.w _ h' _ (.lst ys) from ⟨hz,its,c',r',e⟩),rfl,q _ (I.hok.fresh (Nat.le_refl _))⟩
 rcases hq with hq | hq
 ·obtain ⟨its,r',pl,hz⟩:=I.list hq
  have hlen:=r'.length
  obtain ⟨o,ho,hc,n,hd⟩:=pl.isList
  exact call_list_seq p (.inl rfl) ho hc hd (fun h' c' kp e=>fin its r' hz h' c' kp e) (by simp only [List.size_toArray] <;> omega)
 ·obtain ⟨its,r',pl,hz⟩:=I.tuple hq
  have hlen:=r'.length
  obtain ⟨o,ho,hc,n,hd⟩:=pl
  exact call_list_seq p (.inr rfl) ho hc hd (fun h' c' kp e=>fin its r' hz h' c' kp e) (by simp only [List.size_toArray] <;> omega)
theorem Ki:qH X (.type "tuple") (fun xs H Q=>∃ p ys,xs=[.ref p]∧((SqL X.K H p ys∧∀ l,H l=none→Q (.ref l) (upd H l (.tup ys)))∨(SqT X.K H p ys∧Q (.ref p) H))):=by
 intro pins s σ H xs us Q I r h
 obtain ⟨p,ys,rfl,h⟩:=h
 obtain ⟨u,rfl,rx⟩:=yb r
 cases rx
 rcases h with ⟨hq,q⟩ | ⟨hq,q⟩
 ·obtain ⟨its,r',pl,hz⟩:=I.list hq
  have hlen:=r'.length
  refine call_tuple_list pl.isList (fun h' kp=>?_) (by simp only [List.size_toArray] <;> omega)
  have I1:Inv X pins σ H { s with heap:=h' }:=I.kept (t':=s.toks) kp
  have I2:Inv X pins σ (upd H h'.objs.size (.tup ys)) { s with heap:=h'.push { cls:=.type "tuple",data:=.seq its.toArray } }:=
   I1.laid (t':=s.toks) (fun b o e=>Heap.get?_push_of_some _ e) (Nat.le_refl _) (show ObjOk X.prog X.w _ _ _ (.tup ys) from ⟨hz,its,r',IsTup.new _ _⟩)
  exact ⟨.ref h'.objs.size,_,I2,rfl,q _ (I1.hok.fresh (Nat.le_refl _))⟩
 ·obtain ⟨its,r',pl,hz⟩:=I.tuple hq
  exact call_tuple_same pl ⟨.ref p,H,I,rfl,q⟩
def tyV (K:PySem.W.Frag) (T:String) (x:V) (H:Hp):Prop:=match x with
 | .str _=>T = "str"
 | .int _=>T = "int"
 | .ref p=>(T = "list"∧∃ xs,SqL K H p xs)∨(T = "tuple"∧∃ o,K.lookup p=some o∧o.cls=.type "tuple"∧o.dict=none)∨
   (T = "dict"∧((∃ kvs,H p=some (.dK kvs))∨∃ kvs,H p=some (.dT kvs)))∨(T = "set"∧∃ S n,H p=some (.set S n))
 | _=>False
theorem jcC {pins:List (Addr×Obj)} {σ:St} {H:Hp} {s:Shared} {T:String} {x:V} {v:Value} (I:Inv X pins σ H s) (r:RelV x v) (ty:tyV X.K T x H) :
  s.TypeIs v T∧∀ a,v=.ref a→∃ ob,s.heap.get? a=some ob∧ob.dict=none:=by
 cases x with
 | str z=>
  obtain ⟨t,rfl⟩:=r
  cases (show T = "str" from ty)
  exact ⟨typeIs_str s z t,fun _ e=>nomatch e⟩
 | int i=>
  obtain ⟨t,rfl⟩:=r
  cases (show T = "int" from ty)
  exact ⟨typeIs_int s i t,fun _ e=>nomatch e⟩
 | ref p=>
  cases r
  rcases ty with ⟨rfl,xs,hq⟩ | ⟨rfl,o,hk,hc,hd⟩ | ⟨rfl,hk⟩ | ⟨rfl,S,n,hk⟩
  ·obtain ⟨its,_,pl,_⟩:=I.list hq
   refine ⟨pl.isList.typeIs,fun a e=>?_⟩
   cases e
   obtain ⟨o,n,e,c,hd,_⟩:=pl
   exact ⟨o,e,hd⟩
  ·refine ⟨⟨o,I.kIn p o hk,hc⟩,fun a e=>?_⟩
   cases e
   exact ⟨o,I.kIn _ o hk,hd⟩
  ·have z:∃ o,s.heap.get? p=some o∧o.ExactDict:=by
    rcases hk with ⟨kvs,hk⟩ | ⟨kvs,hk⟩
    ·obtain ⟨_,_,_,_,o,_,_,e,ex,_⟩:=I.hok p _ hk
     exact ⟨o,e,ex⟩
    ·obtain ⟨_,_,_,_,o,_,_,e,ex,_⟩:=I.hok p _ hk
     exact ⟨o,e,ex⟩
   obtain ⟨o,e,ex⟩:=z
   refine ⟨⟨o,e,ex.1⟩,fun a e2=>?_⟩
   cases e2
   exact ⟨o,e,ex.2.1⟩
  ·obtain ⟨o,_,_,_,e,ex,_⟩:=I.hok p _ hk
   refine ⟨⟨o,e,ex.1⟩,fun a e2=>?_⟩
   cases e2
   exact ⟨o,e,ex.2.1⟩
 | _=>exact False.elim ty
def jgx (K:PySem.W.Frag) (T:String) (r:V→List V→Hp→VK→Prop) (to:TE):TE:=fun σ H Q=>to σ H fun x H1=>tyV K T x H1∧r x [] H1 Q
def tBM (K:PySem.W.Frag) (T:String) (r:V→List V→Hp→VK→Prop) (to:TE) (t:TA):TE:=fun σ H Q=>to σ H fun x H1=>tyV K T x H1∧t σ H1 fun xs H2=>r x xs H2 Q
variable {o e:Expr} {es:List Expr} {to:TE} {t:TA} {name:Str} {apos cpos:Pos} {T id:String} {r:V→List V→Hp→VK→Prop}
theorem jfL (pa:PlainAttrs T) (slot:Slot T name id) (hty:typeOf (.builtin id)=pure (.type "method_descriptor")) (hm:MtR X id r) (ho:PE X o to)
  (hbase:attributeBase o name X.env (eval o X.env)=eval o X.env:=by rfl) (hline:(apos.endLine == cpos.line)=true:=by rfl):PE X (.Call (.Attribute o name apos) [] [] cpos) (jgx X.K T r to):=by
 intro pins s σ H Q I h
 refine wpAny_Call_method0_late hbase hline (thn (ho pins s σ H _ I h) fun v s1 ⟨x,H1,I1,r1,ty,q1⟩=>?_)
 obtain ⟨h1,h2⟩:=jcC I1 r1 ty
 exact ⟨T,id,pa,slot,hty,h1,h2,Calls.callWith_builtin rfl (PySem.evalArgs_none (hm pins s1 σ H1 x [] v [] Q I1 r1 .nil q1))⟩
theorem jgL (pa:PlainAttrs T) (slot:Slot T name id) (hty:typeOf (.builtin id)=pure (.type "method_descriptor")) (hm:MtR X id r) (ho:PE X o to) (ha:PA X (e :: es) t)
  (hbase:attributeBase o name X.env (eval o X.env)=eval o X.env:=by rfl)
  (hfew:((backTo cpos (starEach (e :: es) X.env)).all (fun x=>!x.1) && (backToKw cpos (keywordEach [] X.env)).all (fun x=>x.1.isSome)
   && decide ((e :: es).length+([]:List Keyword).length+(if ([]:List Keyword).isEmpty then 0 else 1) < 30))=true:=by rfl)
  (hline:(apos.endLine == cpos.line)=true:=by rfl) (hs:starEach (e :: es) X.env=(false,eval e X.env) :: starEach es X.env:=by rfl) (hplain:(backTo cpos (starEach es X.env)).any (·.1)=false:=by rfl) :
  PE X (.Call (.Attribute o name apos) (e :: es) [] cpos) (tBM X.K T r to t):=by
 intro pins s σ H Q I h
 refine wpAny_Call_method_late hbase hfew hline rfl (thn (ho pins s σ H _ I h) fun v s1 ⟨x,H1,I1,r1,ty,q1⟩=>?_)
 obtain ⟨h1,h2⟩:=jcC I1 r1 ty
 refine ⟨T,id,pa,slot,hty,h1,h2,?_⟩
 have hA:=ha cpos pins s1 σ H1 _ I1 q1
 rw [hs] at hA ⊢
 refine Calls.callWith_builtin (by show (false || (backTo cpos (starEach es X.env)).any (·.1))=false;rw [hplain] <;> rfl) (Calls.evalArgs_plain ?_)
 exact thn hA fun us s2 ⟨vs,H2,I2,r2,q2⟩=>hm pins s2 σ H2 x vs v us Q I2 r1 r2 q2
end
def MtM (X:Cx) (id:String) (r:V→List V→Hp→VK→Prop):Prop:=
 ∀ (pins:List (Addr×Obj)) (s:Shared) (σ:St) (H:Hp) (x:V) (xs:List V) (v:Value) (us:List Value) (Q:VK),Inv X pins σ H s→RelV x v→Vals xs us→r x xs H Q→
  wpAny (model X.prog X.w) X.A (call (.builtin id) (v :: us)) (EP X pins σ Q) X.xe s
theorem Vals.one:∀ {x:V} {us:List Value},Vals [x] us→∃ u,us=[u]∧RelV x u
 | _,_,.cons r .nil=>⟨_,rfl,r⟩
theorem Vals.two:∀ {x y:V} {us:List Value},Vals [x,y] us→∃ u v,us=[u,v]∧RelV x u∧RelV y v
 | _,_,_,.cons r (.cons q .nil)=>⟨_,_,rfl,r,q⟩
theorem Vals.zero:∀ {us:List Value},Vals [] us→us=[]
 | _,.nil=>rfl
theorem Vals.dropLast {xs:List V} {us:List Value} (h:Vals xs us):Vals xs.dropLast us.dropLast:=by
 induction h with
 | nil=>exact .nil
 | cons r t ih=>
  cases t with
  | nil=>exact .nil
  | cons q t'=>exact .cons r ih
theorem Vals.eraseIdx:∀ {xs:List V} {us:List Value} (i:Nat),Vals xs us→Vals (xs.eraseIdx i) (us.eraseIdx i)
 | _,_,_,.nil=>.nil
 | _,_,0,.cons _ t=>t
 | _,_,i+1,.cons r t=>.cons r (Vals.eraseIdx i t)
theorem Vals.reverse {xs:List V} {us:List Value} (h:Vals xs us):Vals xs.reverse us.reverse:=by
 induction h with
 | nil=>exact .nil
 | cons r t ih=>rw [List.reverse_cons,List.reverse_cons];exact Vals.append ih (.cons r .nil)
theorem jan {α:Type} (l:List α):l.eraseIdx (l.length - 1)=l.dropLast:=by
 induction l with
 | nil=>rfl
 | cons a r ih=>
  cases r with
  | nil=>rfl
  | cons b r=>
   have e:(a :: b :: r).length - 1=((b :: r).length - 1)+1:=by
    have h1:(a :: b :: r).length=r.length+2:=rfl
    have h2:(b :: r).length=r.length+1:=rfl
    omega
   rw [e,List.eraseIdx_cons_succ,ih]
   all_goals rfl
section
variable {X:Cx} {pins:List (Addr×Obj)} {σ:St} {H:Hp} {s:Shared} {l b:Addr} {xs ys zs:List V}
theorem Inv.lset {its its':List Value} {n:Nat} {f:Array Value→Array Value} {t':Nat} (I:Inv X pins σ H s) (hH:H l=some (.lst xs))
  (e:s.heap.get? l=some { cls:=.type "list",data:=.seq its.toArray n }) (hf:f its.toArray=its'.toArray) (hv:Vals ys its') (hz:ys.length≤sizeLine) :
  Inv X pins σ (upd H l (.lst ys)) { s with heap:=s.heap.update l (Obj.mapSeq f),toks:=t' }:=by
 have q:=PySem.IsL.update e f
 rw [hf] at q
 refine I.write (x:=l) (e:=l) (by rw [hH];exact trivial) (.inl rfl) (fun b' u hb hu=>(Heap.get?_update_other s.heap (Obj.mapSeq f) (Ne.symm hb)).trans hu) ⟨_,q⟩ ?_
 exact ⟨hz,its',_,hv,q⟩
theorem Inv.lnew {its:List Value} {t':Nat} (I:Inv X pins σ H s) (hv:Vals ys its) (hz:ys.length≤sizeLine) :
  Inv X pins σ (upd H s.heap.objs.size (.lst ys)) { s with heap:=s.heap.push { cls:=.type "list",data:=.seq its.toArray },toks:=t' }:=
 I.laid (fun _ _ q=>Heap.get?_push_of_some _ q) (Nat.le_refl _) ⟨hz,its,0,hv,Heap.get?_push_size _ rfl⟩
theorem Inv.fresh (I:Inv X pins σ H s):H s.heap.objs.size=none:=I.hok.fresh (Nat.le_refl _)
theorem Inv.lstM (I:Inv X pins σ H s) (hH:H l=some (.lst xs)):xs.length≤sizeLine∧∃ (its:List Value) (n:Nat),Vals xs its∧xs.length=its.length∧s.heap.get? l=some { cls:=.type "list",data:=.seq its.toArray n }:=by
 obtain ⟨z,its,n,r,e⟩:=I.hok l _ hH
 exact ⟨z,its,n,r,r.length,e⟩
theorem jdp {n:Nat} (h:n≤sizeLine):Builtin.List.listTooLong n=false:=by
 unfold Builtin.List.listTooLong
 exact decide_eq_false (by omega)
end
section
variable {X:Cx}
def jek:V→List V→Hp→VK→Prop:=fun x vs H Q=>∃ l xs y,x=.ref l∧vs=[y]∧H l=some (.lst xs)∧xs.length < sizeLine∧Q .non (upd H l (.lst (xs++[y])))
theorem jO:MtM X "list.append" jek:=by
 intro pins s σ H x vs v us Q I rx rv h
 obtain ⟨l,xs,y,rfl,rfl,hH,hz,q⟩:=h
 cases rx
 obtain ⟨u,rfl,ru⟩:=rv.one
 obtain ⟨z,its,n,r,hl,e⟩:=I.lstM hH
 refine call_meets F.slot_list_append ⟨_,e,rfl⟩ F.entry_list_append (F.args_list_append_2 _ _) (PySem.list_append l its.toArray n u (by rw [List.size_toArray];omega)) ⟨e,?_⟩
 refine ⟨.non,_,I.lset (its':=its++[u]) hH e (by simp) (r.append (.cons ru .nil)) ?_,rfl,q⟩
 rw [List.length_append,List.length_singleton]
 omega
def jej:V→List V→Hp→VK→Prop:=fun x vs H Q=>∃ l b xs zs,x=.ref l∧vs=[.ref b]∧H l=some (.lst xs)∧H b=some (.lst zs)∧xs.length+zs.length≤sizeLine∧Q .non (upd H l (.lst (xs++zs)))
theorem jgo:MtM X "list.extend" jej:=by
 intro pins s σ H x vs v us Q I rx rv h
 obtain ⟨l,b,xs,zs,rfl,rfl,hH,hB,hz,q⟩:=h
 cases rx
 obtain ⟨u,rfl,ru⟩:=rv.one
 cases ru
 obtain ⟨z,its,n,r,hl,e⟩:=I.lstM hH
 obtain ⟨z2,its2,n2,r2,hl2,e2⟩:=I.lstM hB
 have hsz:its.toArray.size+its2.toArray.size≤sizeLine:=by rw [List.size_toArray,List.size_toArray];omega
 have hlong:¬ (!its.toArray.isEmpty && Builtin.List.listTooLong (its.toArray.size+its2.toArray.size))=true:=by
  rw [jdp hsz,Bool.and_false]
  exact Bool.false_ne_true
 refine call_meets F.slot_list_extend ⟨_,e,rfl⟩ F.entry_list_extend (F.args_list_extend_2 _ _)
  (AutoSeq1.list_extend_list_list_0 l its.toArray n b its2.toArray n2 hlong (by rw [List.size_toArray];omega) (by omega)) ⟨e,e2,?_⟩
 refine ⟨.non,_,I.lset (its':=its++its2) hH e (by simp) (r.append r2) ?_,rfl,q⟩
 rw [List.length_append]
 omega
def jg9:V→List V→Hp→VK→Prop:=fun x vs H Q=>∃ l xs y,x=.ref l∧vs=[]∧H l=some (.lst xs)∧xs[xs.length - 1]?=some y∧Q y (upd H l (.lst xs.dropLast))
theorem jfX:MtM X "list.pop" jg9:=by
 intro pins s σ H x vs v us Q I rx rv h
 obtain ⟨l,xs,y,rfl,rfl,hH,hy,q⟩:=h
 cases rx
 have hus:=rv.zero
 subst hus
 obtain ⟨z,its,n,r,hl,e⟩:=I.lstM hH
 obtain ⟨u,hu,ru⟩:=r.get hy
 have hy':its.toArray[its.toArray.size - 1]?=some u:=by
  show its.toArray[its.length - 1]?=some u
  rw [← Array.getElem?_toList,← hl]
  exact hu
 refine call_meets F.slot_list_pop ⟨_,e,rfl⟩ F.entry_list_pop (F.args_list_pop_1 _) (MeetsSeq.list_pop_last l its.toArray n u hy' (by rw [List.size_toArray];omega)) ⟨e,?_⟩
 refine ⟨y,_,I.lset (its':=its.dropLast) hH e ?_ r.dropLast ?_,ru,q⟩
 ·show its.toArray.eraseIdxIfInBounds (its.toArray.size - 1)=its.dropLast.toArray
  rw [List.size_toArray,List.eraseIdxIfInBounds_toArray,jan]
 ·rw [List.length_dropLast]
  omega
def jhc:R2:=fun x y H Q=>∃ l b xs zs,x=.ref l∧y=.ref b∧H l=some (.lst xs)∧H b=some (.lst zs)∧xs.length+zs.length≤sizeLine∧∀ p,H p=none→Q (.ref p) (upd H p (.lst (xs++zs)))
theorem qz:OpR X (binaryOp .Add) jhc:=by
 intro pins s σ H x y v u Q I rx ry h
 obtain ⟨l,b,xs,zs,rfl,rfl,hH,hB,hz,q⟩:=h
 cases rx
 cases ry
 obtain ⟨z,its,n,r,hl,e⟩:=I.lstM hH
 obtain ⟨z2,its2,n2,r2,hl2,e2⟩:=I.lstM hB
 refine PySem.P.add_list e e2 ?_ (by rw [List.size_toArray,List.size_toArray];omega)
 have ea:its.toArray++its2.toArray=(its++its2).toArray:=by simp
 rw [ea]
 exact ⟨.ref _,_,I.lnew (t':=s.toks) (r.append r2) (by rw [List.length_append];omega),rfl,q _ I.fresh⟩
end
section
variable {κ:Type} [DecidableEq κ]
def jT (kvs:List (κ×V)) (k:κ):Option V:=(kvs.find? fun kv=>decide (kv.1=k)).map (·.2)
def qI (kvs:List (κ×V)) (k:κ) (v:V):List (κ×V):=
 if (kvs.any fun kv=>decide (kv.1=k))=true then kvs.map (fun kv=>if kv.1=k then (kv.1,v) else kv) else kvs++[(k,v)]
theorem jcB {k:κ}:jT ([]:List (κ×V)) k=none:=rfl
theorem kh {p:κ×V} {r:List (κ×V)} {k:κ} (e:p.1=k):jT (p :: r) k=some p.2:=by simp [jT,List.find?_cons,e]
theorem kl {p:κ×V} {r:List (κ×V)} {k:κ} (e:¬ p.1=k):jT (p :: r) k=jT r k:=by simp [jT,List.find?_cons,e]
theorem JJ (k:κ):∀ kvs:List (κ×V),(kvs.any fun kv=>decide (kv.1=k))=(jT kvs k).isSome
 | []=>rfl
 | p :: r=>by
  rw [List.any_cons]
  by_cases e:p.1=k
  ·simp only [kh e,decide_eq_true e,Bool.true_or,Option.isSome_some]
  ·rw [kl e,decide_eq_false e,Bool.false_or];exact JJ k r
theorem YO (k j:κ) (y:V):∀ kvs:List (κ×V),jT (kvs.map fun kv=>if kv.1=k then (kv.1,y) else kv) j=(jT kvs j).map fun x=>if j=k then y else x
 | []=>rfl
 | p :: r=>by
  have ih:=YO k j y r
  rw [List.map_cons]
  by_cases h:p.1=k
  ·rw [if_pos h]
   by_cases e:p.1=j
   ·rw [kh (p:=(p.1,y)) e,kh e,Option.map_some,if_pos (e.symm.trans h)]
   ·rw [kl (p:=(p.1,y)) e,kl e,ih]
  ·rw [if_neg h]
   by_cases e:p.1=j
   ·rw [kh (p:=p) e,kh e,Option.map_some,if_neg (fun z=>h (e.trans z))]
   ·rw [kl (p:=p) e,kl e,ih]
theorem Kq (k j:κ) (y:V):∀ kvs:List (κ×V),jT kvs k=none→jT (kvs++[(k,y)]) j=if j=k then some y else jT kvs j
 | [],_=>by
  by_cases e:k=j
  ·rw [if_pos e.symm];exact kh (p:=(k,y)) e
  ·rw [if_neg (fun z=>e z.symm)];exact kl (p:=(k,y)) e
 | p :: r,hn=>by
  rw [List.cons_append]
  have hk:¬ p.1=k:=fun z=>by rw [kh z] at hn;cases hn
  rw [kl hk] at hn
  have ih:=Kq k j y r hn
  by_cases e:p.1=j
  ·rw [kh e,kh e,if_neg (fun z=>hk (e.trans z))]
  ·rw [kl e,kl e,ih]
theorem JI (kvs:List (κ×V)) (k j:κ) (y:V):jT (qI kvs k y) j=if j=k then some y else jT kvs j:=by
 unfold qI
 by_cases a:(kvs.any fun kv=>decide (kv.1=k))=true
 ·rw [if_pos a,YO]
  rw [JJ] at a
  by_cases e:j=k
  ·obtain ⟨x,hx⟩:=Option.isSome_iff_exists.mp a
   rw [if_pos e,e,hx,Option.map_some,if_pos rfl]
  ·rw [if_neg e]
   cases jT kvs j with
   | none=>rfl
   | some x=>rw [Option.map_some,if_neg e]
 ·rw [if_neg a]
  refine Kq k j y kvs ?_
  rw [JJ] at a
  cases q:jT kvs k with
  | none=>rfl
  | some x=>rw [q] at a;exact (a rfl).elim
theorem qP (kvs:List (κ×V)) (k:κ) (v:V):(qI kvs k v).length≤kvs.length+1:=by
 unfold qI
 split
 ·rw [List.length_map];omega
 ·rw [List.length_append,List.length_cons,List.length_nil];omega
theorem RelO.isSome_eq {o:Option V} {u:Option Value} (r:RelO o u):o.isSome=u.isSome:=by
 cases o with
 | none=>cases u with
  | none=>rfl
  | some _=>exact (show False from r).elim
 | some _=>cases u with
  | none=>exact (show False from r).elim
  | some _=>rfl
theorem RelO.getD {o:Option V} {u:Option Value} {d:V} {d':Value} (r:RelO o u) (rd:RelV d d'):RelV (o.getD d) (u.getD d'):=by
 cases o with
 | none=>cases u with
  | none=>exact rd
  | some _=>exact (show False from r).elim
 | some _=>cases u with
  | none=>exact (show False from r).elim
  | some _=>exact r
theorem KV.val {kvs:List (κ×V)} {vs:List (κ×Value)} (r:KV kvs vs) (k:κ):RelO (jT kvs k) (valueAt vs k):=by
 unfold KV at r
 induction r with
 | nil=>exact True.intro
 | @cons p q ps qs h t ih=>
  obtain ⟨h1,h2⟩:=h
  by_cases e:p.1=k
  ·have e':q.1=k:=h1.symm.trans e
   have b:valueAt (q :: qs) k=some q.2:=by simp [valueAt,List.find?_cons,e']
   rw [kh e,b];exact h2
  ·have e':¬ q.1=k:=fun z=>e (h1.trans z)
   have b:valueAt (q :: qs) k=valueAt qs k:=by simp [valueAt,List.find?_cons,e']
   rw [kl e,b];exact ih
theorem KV.any {kvs:List (κ×V)} {vs:List (κ×Value)} (r:KV kvs vs) (k:κ):(kvs.any fun kv=>decide (kv.1=k))=vs.any fun kv=>decide (kv.1=k):=by
 unfold KV at r
 induction r with
 | nil=>rfl
 | cons h t ih=>rw [List.any_cons,List.any_cons,ih,h.1]
theorem KV.repl {kvs:List (κ×V)} {vs:List (κ×Value)} (r:KV kvs vs) (k:κ) {y:V} {u:Value} (ry:RelV y u) :
  KV (kvs.map fun kv=>if kv.1=k then (kv.1,y) else kv) (vs.map fun kv=>if kv.1=k then (kv.1,u) else kv):=by
 unfold KV at r ⊢
 induction r with
 | nil=>exact .nil
 | @cons p q ps qs h t ih=>
  rw [List.map_cons,List.map_cons]
  refine .cons ?_ ih
  obtain ⟨h1,h2⟩:=h
  by_cases e:p.1=k
  ·rw [if_pos e,if_pos (h1.symm.trans e)];exact ⟨h1,ry⟩
  ·rw [if_neg e,if_neg (fun z=>e (h1.trans z))];exact ⟨h1,h2⟩
theorem KV.put {kvs:List (κ×V)} {vs:List (κ×Value)} (r:KV kvs vs) (k:κ) {y:V} {u:Value} (ry:RelV y u):KV (qI kvs k y) (stored vs k u):=by
 unfold qI stored
 rw [r.any k]
 by_cases e:(vs.any fun kv=>decide (kv.1=k))=true
 ·rw [if_pos e,if_pos e];exact r.repl k ry
 ·rw [if_neg e,if_neg e];exact Paired.snoc r ⟨rfl,ry⟩
theorem KV.keys {kvs:List (κ×V)} {vs:List (κ×Value)} (r:KV kvs vs):kvs.map (·.1)=vs.map (·.1):=by
 unfold KV at r
 induction r with
 | nil=>rfl
 | cons h t ih=>rw [List.map_cons,List.map_cons,ih,h.1]
theorem KV.length {kvs:List (κ×V)} {vs:List (κ×Value)} (r:KV kvs vs):kvs.length=vs.length:=Paired.length r
end
theorem Zv {P:Program} {w:World} {k:Key} {u:Value} (r:RelV (kV k) u):(jY P w).is k u=true:=by
 cases k with
 | inl i=>obtain ⟨t,e⟩:=(show ∃ t,u=Value.int i t from r);subst e;exact Zk P w i t
 | inr x=>obtain ⟨t,e⟩:=(show ∃ t,u=Value.str x t from r);subst e;exact Zj P w x t
theorem KI {P:Program} {w:World}:∀ {ks:List Key} {us:List Value},Vals (ks.map kV) us→ItemsAre (jY P w) ks us
 | [],_,r=>by rw [List.map_nil] at r;cases r;exact .nil
 | k :: ks,_,r=>by
  rw [List.map_cons] at r
  cases r with
  | cons h t=>exact .cons (Zv h) (KI t)
abbrev KT (H:Hp):List (List Key×V)→List (List Key×Addr×Value)→Prop:=Paired fun p q=>p.1=q.1∧H q.2.1=some (.tup (p.1.map kV))∧RelV p.2 q.2.2
theorem KT.val {H:Hp} {kvs:List (List Key×V)} {xs:List (List Key×Addr×Value)} (r:KT H kvs xs) (k:List Key):RelO (jT kvs k) ((atKey xs k).map (·.2)):=by
 induction r with
 | nil=>exact True.intro
 | @cons p q ps qs h t ih=>
  obtain ⟨h1,_,h2⟩:=h
  by_cases e:p.1=k
  ·have e':q.1=k:=h1.symm.trans e
   have b:atKey (q :: qs) k=some q.2:=by simp [atKey,List.find?_cons,e']
   rw [kh e,b];exact h2
  ·have e':¬ q.1=k:=fun z=>e (h1.trans z)
   have b:atKey (q :: qs) k=atKey qs k:=by simp [atKey,List.find?_cons,e']
   rw [kl e,b];exact ih
theorem KT.keeps {H H':Hp} {kvs:List (List Key×V)} {xs:List (List Key×Addr×Value)} (r:KT H kvs xs) (ht:∀ b ys,H b=some (.tup ys)→H' b=some (.tup ys)):KT H' kvs xs:=
 Paired.mapP r fun _ _ z=>⟨z.1,ht _ _ z.2.1,z.2.2⟩
section
variable {P:Program} {w:World} {H:Hp} {h:Heap} {a:Addr}
theorem jfe {u:HO} (ok:HOk P w H h) (e:Rd H a u):ObjOk P w H h a u:=e.ok ok
theorem jbq {kvs:List (Key×V)} (ok:HOk P w H h) (e:Rd H a (.dK kvs)):kvs.length≤sizeLine∧(a == sysModules)=false∧∃ vs,KV kvs vs∧h.DictOf (jY P w) a vs:=
 show ObjOk P w H h a (.dK kvs) from jfe ok e
theorem jfk {kvs:List (Key×V)} (ok:HOk P w H h) (e:H a=some (.dK kvs)):kvs.length≤sizeLine∧(a == sysModules)=false∧∃ vs,KV kvs vs∧h.DictOf (jY P w) a vs:=jbq ok (.inl e)
theorem jaj {ks:List Key} (ok:HOk P w H h) (e:H a=some (.tup (ks.map kV))):(tupleKind (jY P w)).is h ks a:=by
 obtain ⟨_,its,r,o,h1,h2,n,h3⟩:=(show ObjOk P w H h a (.tup (ks.map kV)) from ok a _ e)
 exact ⟨o,its.toArray,n,h1,h2,h3,by simpa using KI r⟩
theorem jdQ {kvs:List (List Key×V)} (ok:HOk P w H h) (e:Rd H a (.dT kvs)):kvs.length≤sizeLine∧(a == sysModules)=false∧
  ∃ xs,KT H kvs xs∧h.DictOfH (tupleKind (jY P w)) a xs:=by
 obtain ⟨z,y,xs,r,o,es,ep,h1,h2,h3,h4,h5⟩:=(show ObjOk P w H h a (.dT kvs) from jfe ok e)
 refine ⟨z,y,xs,r,o,es,ep,h1,h2,h3,h4,fun x hx=>?_,h5⟩
 have all:∀ {l:List (List Key×V)} {m:List (List Key×Addr×Value)},KT H l m→∀ x∈m,(tupleKind (jY P w)).is h x.1 x.2.1:=by
  intro l m q
  induction q with
  | nil=>intro x hx;exact nomatch hx
  | @cons p q ps qs hq t ih=>
   intro x hx
   rcases List.mem_cons.mp hx with e | hx
   ·subst e
    exact jaj ok (by rw [← hq.1];exact hq.2.1)
   ·exact ih x hx
 exact all r x hx
end
def DGet (H:Hp) (a:Addr) (y:V) (r:Option V):Prop:=
 (∃ kvs k,Rd H a (.dK kvs)∧y=kV k∧r=jT kvs k)∨∃ kvs k b,Rd H a (.dT kvs)∧y=.ref b∧H b=some (.tup (k.map kV))∧r=jT kvs k
def DPut (H:Hp) (a:Addr) (y v:V) (H':Hp):Prop:=
 (∃ kvs k,H a=some (.dK kvs)∧y=kV k∧kvs.length < sizeLine∧H'=upd H a (.dK (qI kvs k v)))∨
 ∃ kvs k b,H a=some (.dT kvs)∧y=.ref b∧H b=some (.tup (k.map kV))∧kvs.length < sizeLine∧H'=upd H a (.dT (qI kvs k v))
theorem DGet.k {H:Hp} {a:Addr} {kvs:List (Key×V)} {k:Key} (e:H a=some (.dK kvs)):DGet H a (kV k) (jT kvs k):=.inl ⟨kvs,k,.inl e,rfl,rfl⟩
theorem DGet.t {H:Hp} {a b:Addr} {kvs:List (List Key×V)} {k:List Key} (e:H a=some (.dT kvs)) (eb:H b=some (.tup (k.map kV))):DGet H a (.ref b) (jT kvs k):=.inr ⟨kvs,k,b,.inl e,rfl,eb,rfl⟩
theorem DPut.k {H:Hp} {a:Addr} {kvs:List (Key×V)} {k:Key} {v:V} (e:H a=some (.dK kvs)) (hl:kvs.length < sizeLine):DPut H a (kV k) v (upd H a (.dK (qI kvs k v))):=.inl ⟨kvs,k,e,rfl,hl,rfl⟩
theorem DPut.t {H:Hp} {a b:Addr} {kvs:List (List Key×V)} {k:List Key} {v:V} (e:H a=some (.dT kvs)) (eb:H b=some (.tup (k.map kV))) (hl:kvs.length < sizeLine) :
  DPut H a (.ref b) v (upd H a (.dT (qI kvs k v))):=.inr ⟨kvs,k,b,e,rfl,eb,hl,rfl⟩
section
variable {X:Cx} {pins:List (Addr×Obj)} {σ:St} {H:Hp} {s:Shared} {a:Addr} {y v:V} {u r:Value} {o:Option V} {A:Around} {E:Value→Shared→Prop}
theorem Inv.big (I:Inv X pins σ H s):sysModules < s.heap.objs.size:=by
 have h:mainGlobals < s.heap.objs.size:=(I.mod.glob.keeps I.bk).lt
 exact Nat.lt_trans (by decide) h
theorem jhf {Q:Value→Shared→Prop} (hu:A.units+1 < cLine) (I:Inv X pins σ H s) (g:DGet H a y o) (ry:RelV y u) (h:∀ s',Inv X pins σ H s'→Q (.bool o.isSome) s') :
  wpAny (model X.prog X.w) A (compareOp .In u (.ref a)) Q E s:=by
 rcases g with ⟨kvs,k,e,ey,l⟩ | ⟨kvs,k,b,e,ey,eb,l⟩
 ·subst ey
  obtain ⟨z,hd,vs,rel,dd⟩:=jbq I.hok e
  refine wpAny_in_of (Zv ry) hd dd.mapOf ?_
  rw [← (rel.val k).isSome_eq,← l]
  exact h _ (I.tok _)
 ·subst ey
  cases (show u=Value.ref b from ry)
  obtain ⟨z,hd,xs,rel,dd⟩:=jdQ I.hok e
  refine wpAny_in_heap (tupleKind_room_in1 hu) (jaj I.hok eb) hd dd ?_
  have q:=(rel.val k).isSome_eq
  rw [Option.isSome_map] at q
  rw [← q,← l]
  exact h _ (I.tok _)
theorem jbr {h':Heap} {t':Nat} {ob:HO} (I:Inv X pins σ H s) (mu:Mut (H a)) (hs:Heap.SameBut a s.heap h') (he:∃ q,h'.get? a=some q) (new:ObjOk X.prog X.w (upd H a ob) h' a ob) :
  Inv X pins σ (upd H a ob) { s with heap:=h',toks:=t' }:=
 I.write (x:=a) (e:=a) mu (.inl rfl) (fun b q hb z=>(hs.2 b hb).trans z) he new
theorem jdT {P:Program} {w:World} {H':Hp} {h':Heap} {kvs:List (Key×V)} {vs:List (Key×Value)} (z:kvs.length≤sizeLine) (hd:(a == sysModules)=false) (rel:KV kvs vs) (dd:h'.DictOf (jY P w) a vs) :
  ObjOk P w H' h' a (.dK kvs):=⟨z,hd,vs,rel,dd⟩
end
def jgw (ty td:TE):TE:=fun σ H Q=>ty σ H fun y H1=>td σ H1 fun x H2=>∃ a o,x=.ref a∧DGet H2 a y o∧Q (.bl o.isSome) H2
section
variable {X:Cx} {o i e value:Expr} {pos pos' tpos:Pos} {td ty tv:TE}
theorem jfN (hu:X.A.units+1 < cLine) (hi:PE X i ty) (ho:PE X o td):PC X .In i o (jgw ty td):=by
 intro pins s σ H Q I h
 refine thn (hi pins s σ H _ I h) fun iv s1 ⟨y,H1,I1,ry,q1⟩=>thn (ho pins s1 σ H1 _ I1 q1) fun u s2 ⟨x,H2,I2,rx,a,ov,ex,g,q2⟩=>?_
 subst ex
 obtain rfl:u=Value.ref a:=rx
 exact jhf hu I2 g ry fun s3 I3=>⟨.bl ov.isSome,H2,I3,rfl,q2⟩
end
theorem ZJ {P:Program} {w:World} {H:Hp} (h:Heap) (hb:sysModules < h.objs.size):ObjOk P w H (h.push { cls:=.type "dict",data:=.dict #[] }) h.objs.size (.dK []):=
 ⟨Nat.zero_le _,beq_eq_false_iff_ne.mpr (Ne.symm (Nat.ne_of_lt hb)),[],.nil,Heap.DictOf.new h⟩
def jcH:TE:=fun _ H Q=>∀ p,H p=none→Q (.ref p) (upd H p (.dK []))
section
variable {X:Cx} {pos:Pos}
theorem jdg:PE X (.Dict [] [] pos) jcH:=fun pins s σ H Q I h=>
 wpAny_Dict_empty ⟨.ref s.heap.objs.size,_,I.laid (a:=s.heap.objs.size) (o:=.dK []) (t':=s.toks) (fun _ _ q=>Heap.get?_push_of_some _ q) (Nat.le_refl _) (ZJ s.heap I.big),rfl,h _ (I.hok.fresh (Nat.le_refl _))⟩
end
def jfY (kvs more:List (Key×V)):List (Key×V):=more.foldl (fun acc kv=>qI acc kv.1 kv.2) kvs
theorem KV.merge:∀ {more:List (Key×V)} {rs:List (Key×Value)} {kvs:List (Key×V)} {vs:List (Key×Value)},KV more rs→KV kvs vs→KV (jfY kvs more) (merged vs rs):=by
 intro more rs kvs vs r
 unfold KV at r
 induction r generalizing kvs vs with
 | nil=>intro q;exact q
 | @cons p q ps qs h t ih=>
  intro r0
  have e:KV (qI kvs p.1 p.2) (stored vs q.1 q.2):=by
   have:=r0.put p.1 h.2
   rw [← h.1];exact this
  exact ih e
structure M2 (X:Cx) (o:Expr) (m:Str) (apos:Pos) (e f:Expr) (cpos:Pos):Prop where
 base:attributeBase o m X.env (eval o X.env)=eval o X.env
 few:((backTo cpos (starEach [e,f] X.env)).all (fun x=>!x.1) && (backToKw cpos (keywordEach [] X.env)).all (fun x=>x.1.isSome)
  && decide (([e,f]:List Expr).length+([]:List Keyword).length+(if ([]:List Keyword).isEmpty then 0 else 1) < 30))=true
 line:(apos.endLine == cpos.line)=true
 trees:backTo cpos (starEach [e,f] X.env)=[(false,eval e X.env),(false,eval f X.env)]
def IsD (H:Hp) (a:Addr):Prop:=(∃ kvs,Rd H a (.dK kvs))∨∃ kvs,Rd H a (.dT kvs)
theorem jf8 {X:Cx} {pins:List (Addr×Obj)} {σ:St} {H:Hp} {s:Shared} {a:Addr} (I:Inv X pins σ H s) (d:IsD H a) :
  s.TypeIs (.ref a) "dict"∧(∀ b,Value.ref a=.ref b→∃ ob,s.heap.get? b=some ob∧ob.dict=none)∧(a == sysModules)=false:=by
 rcases d with ⟨kvs,e⟩ | ⟨kvs,e⟩
 ·obtain ⟨_,hd,vs,_,dd⟩:=jbq I.hok e
  refine ⟨dd.typeIs,fun b q=>?_,hd⟩
  cases q
  obtain ⟨ob,_,_,h1,h2,_⟩:=dd
  exact ⟨ob,h1,h2.2.1⟩
 ·obtain ⟨_,hd,xs,_,dd⟩:=jdQ I.hok e
  refine ⟨dd.typeIs,fun b q=>?_,hd⟩
  cases q
  obtain ⟨ob,_,_,h1,h2,_⟩:=dd
  exact ⟨ob,h1,h2.2.1⟩
section
variable {X:Cx} {pins:List (Addr×Obj)} {σ:St} {H:Hp} {s:Shared} {a:Addr} {y d:V} {u r:Value} {o:Option V} {A:Around} {E:Value→Shared→Prop}
theorem jgf {Q:Value→Shared→Prop} (hu:A.units+1 < cLine) (I:Inv X pins σ H s) (g:DGet H a y o) (ry:RelV y u) (rd:RelV d r) (h:∀ w' s',Inv X pins σ H s'→RelV (o.getD d) w'→Q w' s') :
  wpAny (model X.prog X.w) A (call (.builtin "dict.get") [.ref a,u,r]) Q E s:=by
 rcases g with ⟨kvs,k,e,ey,l⟩ | ⟨kvs,k,b,e,ey,eb,l⟩
 ·subst ey
  obtain ⟨z,hd,vs,rel,dd⟩:=jbq I.hok e
  refine call_meetsIn PySem.F.slot_dict_get dd.typeIs PySem.F.entry_dict_get (PySem.F.args_dict_get_3 _ _ _) (meets_dict_get_default (jY X.prog X.w) a (Zv ry) hd r) ⟨_,dd.mapOf,h _ _ (I.tok _) ?_⟩
  rw [l]
  exact (rel.val k).getD rd
 ·subst ey
  cases (show u=Value.ref b from ry)
  obtain ⟨z,hd,xs,rel,dd⟩:=jdQ I.hok e
  refine call_meetsIn PySem.F.slot_dict_get dd.typeIs PySem.F.entry_dict_get (PySem.F.args_dict_get_3 _ _ _) (meetsH_dict_get_default (tupleKind (jY X.prog X.w)) a b hd r) ⟨tupleKind_room_in1 hu,k,xs,jaj I.hok eb,dd,h _ _ (I.tok _) ?_⟩
  rw [l]
  exact (rel.val k).getD rd
end
def jcI (td ty tx:TE):TE:=fun σ H Q=>td σ H fun x H1=>∃ a,x=.ref a∧IsD H1 a∧ty σ H1 fun y H2=>tx σ H2 fun z H3=>∃ o,DGet H3 a y o∧Q (o.getD z) H3
section
variable {X:Cx} {o e f:Expr} {apos cpos:Pos} {td ty tx:TE}
theorem jdh (hu:X.A.units+1 < cLine) (ho:PE X o td) (he:PE X e ty) (hf:PE X f tx) (m:M2 X o "get" apos e f cpos):PE X (.Call (.Attribute o "get" apos) [e,f] [] cpos) (jcI td ty tx):=by
 intro pins s σ H Q I h
 refine wpAny_Call_method m.base m.few m.line PySem.F.plainAttrs_dict PySem.F.slot_dict_get PySem.F.type_dict_get (thn (ho pins s σ H _ I h) fun u s1 ⟨x,H1,I1,rx,a,ex,d,q1⟩=>?_)
 subst ex
 obtain rfl:u=Value.ref a:=rx
 obtain ⟨t1,t2,_⟩:=jf8 I1 d
 refine ⟨t1,t2,?_⟩
 rw [m.trees]
 refine Calls.callWith_builtin rfl (Calls.evalArgs_plain (Calls.spliced_cons (thn (he pins s1 σ H1 _ I1 q1) fun iv s2 ⟨y,H2,I2,ry,q2⟩=>
  Calls.spliced_cons (thn (hf pins s2 σ H2 _ I2 q2) fun fv s3 ⟨z,H3,I3,rz,ov,g,q3⟩=>Calls.spliced_nil ?_))))
 exact jgf hu I3 g ry rz fun w' s4 I4 rw'=>⟨_,H3,I4,rw',q3⟩
end
end L2
namespace Att
open PySem PySem.W PySem.Calls PyProof.Rows
theorem Jr {P:Params} {h:Heap}:∀ (ns:List Int) (vs:List Value),WellAll P h vs (ns.map WData.int)→IntsAre vs ns:=by
 intro ns
 induction ns with
 | nil=>
  intro vs w
  rw [List.map_nil] at w
  cases w
  exact .nil
 | cons n ns ih=>
  intro vs w
  rw [List.map_cons] at w
  cases w with
  | cons a b=>
   cases a
   exact .cons _ _ (ih _ b)
theorem jbV {l:OpenLaw} {n:Nat} (hn:l.most=some n) {P:Params} {h:Heap} {args:List WData} {vals:List Value}
  (hpre:l.row.toRowW.claim.pre args=true) (hwl:WellAll P h vals args) :
  ∃ a vs ns,vals=[Value.ref a]∧args=[WData.list (ns.map WData.int)]∧h.get? a=some { cls:=.type "list",data:=.seq vs.toArray }∧IntsAre vs ns∧ns.length≤n:=by
 have hsh:WShape.hasAll [] args [.list .int]=true:=(pre_splitW hpre).1
 have hc:l.pre.holds [] { args:=args }=true:=(pre_splitW hpre).2
 obtain ⟨d,r,rfl,h1,h2⟩:=hasAllW_cons hsh
 obtain rfl:=hasAllW_nil h2
 obtain ⟨xs,rfl,h3⟩:=hasW_list h1
 obtain ⟨ns,rfl⟩:=items_int h3
 have hlen:ns.length≤n:=by
  unfold OpenLaw.pre at hc
  have h4:(WTm.not (.lt (.lit (.int (n:Int))) (.len (.arg 0)))).holds [] { args:=[.list (ns.map .int)] }=true:=by
   have h4:=(holds_andW hc).1
   rw [hn] at h4
   exact h4
  have h5:=condW_of h4 (w_not (w_lt w_lit (w_len_list (w_arg rfl))))
  rw [List.length_map] at h5
  refine Nat.le_of_not_lt fun q=>?_
  have q':(n:Int) < ((ns.length:Nat):Int):=by omega
  first
   | (rw [decide_eq_true q'] at h5;exact absurd h5 (by decide))
   | (simp at h5;omega)
 cases hwl with
 | cons w1 w2=>
  cases w2
  cases w1 with
  | list ho hall=>exact ⟨_,_,ns,rfl,rfl,ho,Jr ns _ hall,hlen⟩
theorem jbW (l:OpenLaw) (args:List WData):l.row.toRowW.claim.post args (.bool true) args=true:=
 postW_of (r:=l.row.toRowW) (X:=(true == true))
  (show WShape.has [] (.bool true) .bool=true by first | rfl | decide | simp [WShape.has,WShape.arms,WShape.armsAll])
  (show (WTm.eq .res (.lit (.bool true))).value [] { args:=args,res:=some (.bool true),after:=args }=some (.bool (true == true)) from w_eq_bool (w_res rfl) w_lit) rfl
theorem attach_call {l:OpenLaw} {n:Nat} {q:Program} {loose:List Str} {XP:(Str→Option Value)→Heap→Prop} {YP:World→Heap→Prop} {d:DefRec}
  (hn:l.most=some n) (hdf:d.params.defaults=[])
  (call:∀ (w:World) (s₀ s₁:Shared) (mg mb:Str→Option Value) (fa:Addr) (o:Obj) (pm cd doc:Value) (a:Addr) (vs:List Value) (ns:List Int),
   Ground q loose [] XP w s₀ mg mb s₁.heap→YP w s₁.heap→
   s₁.heap.get? fa=some o→o.data=.func (docDef d.name d.params d.body d.scope pm cd doc)→s₁.heap.CodeRec cd d.name→mg d.name=some (.ref fa)→
   s₁.heap.get? a=some { cls:=.type "list",data:=.seq vs.toArray }→IntsAre vs ns→ns.length≤n→s₁.gens=#[]→
   codeAny (model l.prog w) callerA (.call (.ref fa) ⟨[.ref a],[]⟩) (fun r s'=>r=.ok (.ret (.bool true))∧OldK s₁.heap s'.heap∧s'.os=s₁.os∧AllBare s'.gens) s₁) :
  WalkO q loose XP YP l.row.toRowW d [] (fun f vs=>PySem.call f vs):=by
 intro w s₀ s₁ mg mb G Y fa o pm cd doc dV kV ho hd hcd hD hmg hg args vals as hpre hlay hrd hwl hlo
 obtain rfl:dV=.none:=Dflts.none hD hdf
 obtain rfl:kV=.none:=Dflts.noKw hD
 obtain ⟨a,vs,ns,rfl,rfl,hobj,hints,hlen⟩:=jbV hn hpre hwl
 refine enter_call (codeAny_mono (call w s₀ s₁ mg mb fa o pm cd doc a vs ns G Y ho (fd_plain hd) hcd hmg hobj hints hlen hg) fun r s' hq=>?_)
 obtain ⟨rfl,h2,h3,h4⟩:=hq
 exact ⟨.inl ⟨.bool true,.bool true,[],rfl,fun _=>rfl,.bool true,jbW l _,fun _=>⟨List.Pairwise.nil,fun _ hm=>(nomatch hm)⟩⟩,h2,h3,h4⟩
end Att
namespace L2
open PySem PySem.Spec PyProof.Rows
theorem Kp:∀ {vs:List Value} {ns:List Int},IntsAre vs ns→Vals (ns.map V.int) vs
 | _,_,.nil=>.nil
 | _,_,.cons n t h=>.cons ⟨t,rfl⟩ (Kp h)
def jgm (H:Hp):Prop:=∀ b,H b=none∨∃ o xs,H b=some (.frz o (.lst xs))
theorem jdv {P:Program} {w:World} {K:PySem.W.Frag} {mg mb:Str→Option Value} {CX:CXT} {k:Nat} {fa a:Addr} {fd:FuncData} {x:Str} {sp:Sp} {s₁:Shared} {vs:List Value} {ns:List Int}
  (KX:K.In s₁.heap) (hns:s₁.heap.Ns mainGlobals mg) (hb:s₁.heap.Ns builtinsNs mb) (hbb:∀ x:Str,x≠"__name__"→mb x=bootBuiltins x) (hlim:s₁.heap.NoLimit) (hg:s₁.gens=#[])
  (ha:s₁.heap.get? a=some { cls:=.type "list",data:=.seq vs.toArray }) (hi:IntsAre vs ns) (hl:ns.length≤sizeLine) (hr:Room k callerA)
  (F:∀ base:Heap,K.In base→base.Ns mainGlobals mg→FnOk P w K mg base CX k fa fd [x] sp) (hbind:∀ (s:Shared) (u:Value),BindsTo s fd ⟨[u],[]⟩ [(x,u)])
  (hsp:∀ H:Hp,jgm H→SqL K H a (ns.map V.int)→sp [.ref a] H (fun v _=>v=.bl true) fun _ _ _=>False)
  (hCX:∀ H e s',CX [] H s₁ (fun _ _ _=>False) e s'→False) :
  codeAny (model P w) callerA (.call (.ref fa) ⟨[.ref a],[]⟩) (fun r s'=>r=.ok (.ret (.bool true))∧OldK s₁.heap s'.heap∧s'.os=s₁.os∧AllBare s'.gens) s₁:=by
 have rv:=Kp hi
 have lenV:=hi.length
 have core:∀ H:Hp,jgm H→SqL K H a (ns.map V.int)→HOk P w H s₁.heap→(∀ b,H b≠none→b=a)→(H a≠none→K.lookup a=none)→
   codeAny (model P w) callerA (.call (.ref fa) ⟨[.ref a],[]⟩) (fun r s'=>r=.ok (.ret (.bool true))∧OldK s₁.heap s'.heap∧s'.os=s₁.os∧AllBare s'.gens) s₁:=by
  intro H hO hS hok hA hK
  have base_of:∀ {b:Addr} {o:Obj},s₁.heap.get? b=some o→H b=none→(Yq s₁.heap H).get? b=some o:=fun e n=>jdE e n
  have noA:∀ {b:Addr} {o:Obj} {es:Array DictEntry} {ep:Nat},s₁.heap.get? b=some o→o.data=.dict es ep→H b=none:=fun {b o es ep} e d=>by
   cases q:H b with
   | none=>rfl
   | some u=>
    have e':b=a:=hA b (by rw [q];simp)
    subst e'
    rw [ha] at e;cases e
    have d':Data.seq vs.toArray _=Data.dict es ep:=d
    cases d'
  have nsK:∀ {b:Addr} {m:Str→Option Value},s₁.heap.Ns b m→(Yq s₁.heap H).Ns b m:=fun {b m} ⟨o,es,ep,e,d,r⟩=>⟨o,es,ep,base_of e (noA e d),d,r⟩
  have hKb:K.In (Yq s₁.heap H):=fun b o e=>base_of (KX b o e) (by
   cases q:H b with
   | none=>rfl
   | some u=>
    have e':b=a:=hA b (by rw [q];simp)
    subst e'
    rw [hK (by rw [q];simp)] at e;cases e)
  have hM:Mod K mg (Yq s₁.heap H):=⟨hKb,nsK hns,⟨mb,nsK hb,hbb⟩,let ⟨mc,h1,h2⟩:=hlim;⟨mc,nsK h1,h2⟩⟩
  have e0:Env0 P w K mg (Yq s₁.heap H) callerA [] s₁ H:=⟨rfl,hM,fun b o e=>jeL e,Nat.le_of_eq (jcl _ _),trivial,fun b hb=>absurd (show b∈([]:List Addr) from hb) (by simp),hok,.of_eq hg⟩
  refine codeAny_mono ((F _ hKb (nsK hns)).run callerA [] s₁ H ⟨[.ref a],[]⟩ [.ref a] [.ref a] _ _ hr e0 (hbind s₁ (.ref a)) (.cons rfl .nil) (hsp H hO hS)) fun r s' h=>?_
  cases r with
  | error e=>exact (hCX H e s' h).elim
  | ok fl=>
   cases fl with
   | next=>exact False.elim h
   | brk=>exact False.elim h
   | cont=>exact False.elim h
   | ret u=>
    obtain ⟨v,H',os,bare,un,hok',r',q⟩:=h
    have q':v=.bl true:=q
    subst q'
    obtain rfl:u=Value.bool true:=r'
    refine ⟨rfl,OldK.of_keep fun b o e=>?_,os,bare⟩
    cases q:H b with
    | none=>exact un.keep b o e q (by intro z;exact absurd (show b∈([]:List Addr) from z) (by simp)) (by simp)
    | some u=>
     rcases hO b with z | ⟨ob,xs,z⟩
     ·rw [q] at z;cases z
     ·have z2:=un.frzs b ob _ z
      obtain ⟨e1,_⟩:=hok b _ z
      obtain ⟨e2,_⟩:=hok' b _ z2
      rw [e] at e1;cases e1
      exact e2
 cases hk:K.lookup a with
 | some o=>
  have e:=KX a o hk
  rw [ha] at e
  cases e
  refine core (fun _=>none) (fun _=>.inl rfl) (.inr ⟨_,vs.toArray,_,hk,rfl,rfl,rfl,by rw [List.size_toArray,lenV];exact hl,by simpa using rv⟩) (fun b u z=>by have z':(none:Option HO)=some u:=z;cases z') (fun b z=>absurd rfl z) fun z=>absurd rfl z
 | none=>
  refine core (fun b=>if b=a then some (.frz { cls:=.type "list",data:=.seq vs.toArray } (.lst (ns.map V.int))) else none) (fun b=>?_) (.inl (.inr ⟨{ cls:=.type "list",data:=.seq vs.toArray },if_pos rfl⟩)) (fun b u z=>?_) (fun b z=>?_) fun _=>hk
  ·by_cases hb:b=a
   ·exact .inr ⟨_,_,if_pos hb⟩
   ·exact .inl (if_neg hb)
  ·by_cases hb:b=a
   ·have z':=(if_pos hb).symm.trans z
    cases z'
    subst hb
    exact ⟨ha,by rw [List.length_map];exact hl,vs,_,rv,ha⟩
   ·have z':=(if_neg hb).symm.trans z
    cases z'
  ·by_cases hb:b=a
   ·exact hb
   ·exact absurd (if_neg hb) z
theorem walk_of {l:PySem.W.OpenLaw} {n k:Nat} {q:Program} {loose:List Str} {XP:(Str→Option Value)→Heap→Prop} {YP:World→Heap→Prop} {d:DefRec} {K:Params→PySem.W.Frag} {CX:World→CXT} {sp:World→Sp} {x:Str}
  (hn:l.most=some n) (hn2:n≤sizeLine) (hdf:d.params.defaults=[]) (hr:Room k callerA)
  (hY:∀ (w:World) (h:Heap),YP w h→(K w.params).In h)
  (F:∀ (w:World) (mg:Str→Option Value) (fa:Addr) (h:Heap),(K w.params).In h→h.Ns mainGlobals mg→mg d.name=some (.ref fa)→
   ∃ fd:FuncData,(∀ (s:Shared) (u:Value),BindsTo s fd ⟨[u],[]⟩ [(x,u)])∧
    ∀ base:Heap,(K w.params).In base→base.Ns mainGlobals mg→FnOk l.prog w (K w.params) mg base (CX w) k fa fd [x] (sp w))
  (hsp:∀ (w:World) (H:Hp) (a:Addr) (ns:List Int),ns.length≤n→jgm H→SqL (K w.params) H a (ns.map V.int)→sp w [.ref a] H (fun v _=>v=.bl true) fun _ _ _=>False)
  (hCX:∀ (w:World) (H:Hp) (s:Shared) (e:Value) (s':Shared),CX w [] H s (fun _ _ _=>False) e s'→False) :
  PySem.W.WalkO q loose XP YP l.row.toRowW d [] (fun f vs=>PySem.call f vs):=by
 refine Att.attach_call hn hdf fun w s₀ s₁ mg mb fa o pm cd doc a vs ns G Y ho hd hcd hmg hobj hints hlen hg=>?_
 have KX:=hY w _ Y
 obtain ⟨fd,hb,hF⟩:=F w mg fa _ KX G.T.g hmg
 exact jdv KX G.T.g G.T.b G.T.builtins G.T.nolimit hg hobj hints (Nat.le_trans hlen hn2) hr hF hb (fun H hO hS=>hsp w H a ns hlen hO hS) fun H e s'=>hCX w H s₁ e s'
def zW (s:Stmt):Arguments:=match s with
 | .FunctionDef _ a _ _ _ _ _ _ _ _=>a
 | _=>{ posonlyargs:=[],args:=[],vararg:=none,kwonlyargs:=[],kw_defaults:=[],kwarg:=none,defaults:=[] }
def qR (s:Stmt):List Stmt:=match s with
 | .FunctionDef _ _ b _ _ _ _ _ _ _=>b
 | _=>[]
def jk (s:Stmt):Scope:=match s with
 | .FunctionDef _ _ _ _ _ _ sc _ _ _=>sc
 | _=>{ kind:=.function,names:=[],isGenerator:=false,isCoroutine:=false }
abbrev CX0:CXT:=fun _ _ _ _ _ _=>False
abbrev E0:XK:=fun _ _ _=>False
theorem jgO {X:Cx}:jaB CX0 X E0:=fun _ _ _ _ _ _ _ h=>h.elim
structure Fun (K:PySem.W.Frag) (x qual:Str) (st:Stmt) (f:Addr) (fd:FuncData):Prop where
 ex:∃ (oc:Value) (od:Option Addr) (kV doc pm:Value) (an:Option Addr) (cdv ct:Value) (osl:Array (Option Value)),
  fd=PySem.W.fnOf x qual (zW st) (qR st) (jk st) .none kV doc pm an cdv ct∧K.lookup f=some ⟨oc,od,.func fd,osl⟩∧PySem.W.codeIn K cdv qual=true
 kp:PySem.W.keepIn K (.ref f)=true
section
variable {P:Program} {w:World} {K:PySem.W.Frag} {mg:Str→Option Value} {base:Heap}
theorem Fun.ok {x qual:Str} {st:Stmt} {f:Addr} {fd:FuncData} {N ps:List Str} {k:Nat} {sp:Sp} (F:Fun K x qual st f fd) (S:FnScope N ps (jk st)) (len:∀ vs H Q E,sp vs H Q E→vs.length=ps.length)
  (hbody:∀ (cdv:Value) (A:Around) (outer:List Env) (s:Shared) (H:Hp) (vs:List V) (Q:VK) (E:XK),Room k (A.deeper (envOfC qual (jk st) s.heap.objs.size f cdv))→sp vs H Q E→
   ∃ t,PSs (kZ CX0 P w K mg base N qual (jk st) f cdv A outer s H E).nox (qR st) t∧t { nx:=fun _ H'=>Q .non H',rt:=Q } (yy N vs) H):FnOk P w K mg base CX0 (k+1) f fd ps sp:=by
 obtain ⟨oc,od,kV,doc,pm,an,cdv,ct,osl,rfl,lk,hcd⟩:=F.ex
 refine jg1 lk hcd S len fun A outer s H vs Q E hr hsp=>?_
 obtain ⟨t,h,q⟩:=hbody cdv A outer s H vs Q E hr hsp
 exact ⟨t,h.nox,q⟩
theorem Fun.binds {x qual:Str} {st:Stmt} {f:Addr} {fd:FuncData} {ps:List Str} (F:Fun K x qual st f fd)
  (h:∀ (kV doc pm:Value) (an:Option Addr) (cdv ct:Value) (us:List Value),us.length=ps.length→bindArgs (PySem.W.fnOf x qual (zW st) (qR st) (jk st) .none kV doc pm an cdv ct) ⟨us,[]⟩=pure (ps.zip us)):Binds K fd ps []:=by
 obtain ⟨oc,od,kV,doc,pm,an,cdv,ct,osl,rfl,lk,hcd⟩:=F.ex
 exact .all (h kV doc pm an cdv ct)
theorem j7 {x qual:Str} {st:Stmt} {f:Addr} {oc:Value} {od an:Option Addr} {osl:Array (Option Value)} {kV doc pm cdv ct:Value} (l:K.lookup f=some ⟨oc,od,.func (PySem.W.fnOf x qual (zW st) (qR st) (jk st) .none kV doc pm an cdv ct),osl⟩)
  (c:PySem.W.codeIn K cdv qual=true) (k:PySem.W.keepIn K (.ref f)=true):Fun K x qual st f (PySem.W.fnOf x qual (zW st) (qR st) (jk st) .none kV doc pm an cdv ct):=⟨⟨oc,od,kV,doc,pm,an,cdv,ct,osl,rfl,l,c⟩,k⟩
end
theorem jx {n:Nat} (h:n≤1000):n < sizeLine:=Nat.lt_of_le_of_lt h (by decide)
section
variable {X:Cx}
theorem pv (i:Nat) {x:Str} {pos:Pos} (hN:X.N[i]?=some x:=by rfl) (hv:Vis X.env.scope x:=by first | exact Or.inl rfl | exact Or.inr (Or.inl rfl) | exact Or.inr (Or.inr rfl)) (hd:(x == ("__debug__" : Str))=false:=by decide)
  (hcd:(x == ("__classdict__" : Str))=false:=by decide):PE X (.Name x pos) (ya i):=jfH hN hv hd hcd
end
theorem Zx {A B:Prop} (h:B):if false=true then A else B:=by
 rw [if_neg Bool.false_ne_true]
 exact h
theorem zm {A B:Prop} (h:A):if true=true then A else B:=by
 rw [if_pos rfl]
 exact h
theorem j6 {c A B:Prop} [Decidable c] (h1:c→A) (h2:¬ c→B):if c then A else B:=by
 by_cases h:c
 ·rw [if_pos h]
  exact h1 h
 ·rw [if_neg h]
  exact h2 h
def Same (H H':Hp):Prop:=∀ b o,H b=some o→H' b=some o
theorem Same.refl (H:Hp):Same H H:=fun _ _ h=>h
theorem Same.trans {H H1 H2:Hp} (a:Same H H1) (b:Same H1 H2):Same H H2:=fun c o h=>b c o (a c o h)
theorem Same.free {H H':Hp} (e:Same H H') {l:Addr} (h:H' l=Option.none):H l=Option.none:=by
 cases q:H l with
 | none=>rfl
 | some o=>
  rw [e l o q] at h
  cases h
theorem yQ {prog:Program} {w:World} {A:Around} {s:Shared} {elt target iter:Expr} {ifs:List Expr} {scope:Scope} {pos:Pos} {it acc:Value} {env:Env} {R:Result→Shared→Prop} (I:Nat→Shared→Prop)
  (turn:∀ n s,I n s→wpAny (model prog w) A (pyNext it) (fun r s1=>match r with
   | none=>R (.ok .next) s1
   | some v=>wpAny (model prog w) A (letOwnedTupleGo target it v) (fun _ s1'=>wpAny (model prog w) A (assign target env v) (fun _ s2=>
     wpAny (model prog w) A (forIn ifs true fun c r=>if r=true then do let ok ← isTrue c env (eval c env);pure (ForInStep.yield ok) else pure (ForInStep.yield r)) (fun ok s3=>
      if ok=true then wpAny (model prog w) A (eval elt env) (fun x s4=>
       wpAny (model prog w) A (call (.builtin "list.append") [acc,x]) (fun _ s5=>∃ m,m < n∧I m s5) (fun _ _=>False) s4) (fun _ _=>False) s3
      else ∃ m,m < n∧I m s3) (fun _ _=>False) s2) (fun _ _=>False) s1') (fun _ _=>False) s1) (fun _ _=>False) s)
  (n:Nat) (h:I n s):codeAny (model prog w) A (.compLoop (.ListComp elt [⟨target,iter,ifs,0⟩] scope pos) 0 it acc env) R s:=by
 have no:∀ (x:Value) (s':Shared),False→notedBy (model prog w) A env (fun e s'=>R (.error e) s') x s':=fun _ _ z=>z.elim
 refine codeAny_loop rfl I (fun n s hI=>?_) n h
 show wpAny _ A ((compTurn (.ListComp elt [⟨target,iter,ifs,0⟩] scope pos) 0 it acc env).onRaise (fun x=>do noteFrame x env;theTreesLotGoes x)) _ _ s
 refine wpAny_noted ?_
 rw [compTurn_list]
 refine wpAny_bind (wpAny_standAt (wpAny_bind (wpAny_mono (turn n s hI) (fun r s1 h1=>?_) no)))
 cases r with
 | none=>exact wpAny_pure h1
 | some v=>
  refine wpAny_bind (wpAny_mono h1 (fun _ s1' h1'=>?_) no)
  refine wpAny_bind (wpAny_mono h1' (fun _ s2 h2=>wpAny_bind (wpAny_mono h2 (fun ok s3 h3=>?_) no)) no)
  cases ok with
  | false=>exact wpAny_pure ⟨rfl,h3⟩
  | true=>
   exact wpAny_bind (wpAny_bind (wpAny_mono h3 (fun x s4 h4=>wpAny_bind (wpAny_mono h4 (fun _ s5 h5=>wpAny_pure (wpAny_pure ⟨rfl,h5⟩)) no)) no))
theorem jdK:(NameKind.free == NameKind.free)=true:=rfl
def zz (cells:List (Str×Addr)):List (Str×NameKind)→List (Str×Addr)→List (Str×Addr)
 | [],acc=>acc
 | (n,k) :: r,acc=>if k == .free then zz cells r ((n,(cells.lookup n).getD 0) :: acc) else zz cells r acc
theorem ZE {env:Env}:∀ (names:List (Str×NameKind)) (acc:List (Str×Addr)),(∀ x∈names,x.2=.free→(env.cells.lookup x.1).isSome=true)→
  (forIn names acc fun x (cs:List (Str×Addr))=>(match x with | (name,kind)=>if (kind == NameKind.free)=true then do let c ← cellOf env name;pure (ForInStep.yield ((name,c) :: cs)) else pure (ForInStep.yield cs):Sem (ForInStep (List (Str×Addr)))))=(pure (zz env.cells names acc):Sem (List (Str×Addr)))
 | [],acc,_=>by simp only [List.forIn_nil];rfl
 | (n,k) :: r,acc,h=>by
  have ih:=fun a=>ZE (env:=env) r a fun x hx=>h x (List.mem_cons_of_mem _ hx)
  rw [List.forIn_cons]
  by_cases hk:k=.free
  ·subst hk
   have q:=h (n,.free) List.mem_cons_self rfl
   obtain ⟨c,hc⟩:=Option.isSome_iff_exists.mp q
   have e:cellOf env n=pure c:=by unfold cellOf;rw [show env.cells.lookup n=some c from hc]
   simp only [beq_self_eq_true,if_true,e,pure_bind]
   rw [ih]
   show _=pure (if (NameKind.free == NameKind.free)=true then zz env.cells r ((n,(env.cells.lookup n).getD 0) :: acc) else _)
   rw [if_pos jdK,show env.cells.lookup n=some c from hc]
   rfl
  ·have hb:(k == NameKind.free)=false:=by simpa using hk
   simp only [hb,Bool.false_eq_true,if_false,pure_bind]
   rw [ih]
   show _=pure (if (k == NameKind.free)=true then _ else zz env.cells r acc)
   rw [hb]
   rfl
theorem ym {scope:Scope} {env:Env} (h:∀ x∈scope.names,x.2=.free→(env.cells.lookup x.1).isSome=true):closureFor scope env=pure (zz env.cells scope.names []):=by
 unfold closureFor
 have e:=ZE (env:=env) scope.names [] h
 simp only [bind_pure] at *
 exact e
theorem jar {cells:List (Str×Addr)}:∀ (names:List (Str×NameKind)) (acc:List (Str×Addr)),(∀ x∈names,x.2=.free→(cells.lookup x.1).isSome=true)→(∀ x c,acc.lookup x=some c→cells.lookup x=some c)→
  ∀ x c,(zz cells names acc).lookup x=some c→cells.lookup x=some c
 | [],acc,_,ha=>ha
 | (n,k) :: r,acc,h,ha=>by
  unfold zz
  by_cases hk:k=.free
  ·subst hk
   rw [if_pos jdK]
   refine jar r _ (fun x hx=>h x (List.mem_cons_of_mem _ hx)) fun x c e=>?_
   by_cases hx:x=n
   ·subst hx
    rw [List.lookup_cons_self] at e
    obtain ⟨d,hd⟩:=Option.isSome_iff_exists.mp (h (x,.free) List.mem_cons_self rfl)
    have hd':cells.lookup x=some d:=hd
    rw [hd'] at e ⊢
    exact e
   ·rw [List.lookup_cons,beq_eq_false_iff_ne.mpr hx] at e
    exact ha x c e
  ·rw [if_neg (by simpa using hk)]
   exact jar r _ (fun x hx=>h x (List.mem_cons_of_mem _ hx)) ha
theorem Yy {cells:List (Str×Addr)}:∀ (names:List (Str×NameKind)) (acc:List (Str×Addr)) (x:Str),(acc.lookup x).isSome=true→((zz cells names acc).lookup x).isSome=true
 | [],acc,_,ha=>ha
 | (n,k) :: r,acc,x,ha=>by
  unfold zz
  split
  ·refine Yy r _ x ?_
   rw [List.lookup_cons]
   split
   ·rfl
   ·exact ha
  ·exact Yy r _ x ha
theorem jat {cells:List (Str×Addr)}:∀ (names:List (Str×NameKind)) (acc:List (Str×Addr)) (x:Str),(x,NameKind.free)∈names→((zz cells names acc).lookup x).isSome=true
 | [],_,_,h=>by simp at h
 | (n,k) :: r,acc,x,h=>by
  unfold zz
  rcases List.mem_cons.mp h with e | h
  ·obtain ⟨e1,e2⟩:=Prod.mk.inj e
   subst e1 e2
   rw [if_pos jdK]
   refine Yy r _ _ ?_
   rw [List.lookup_cons_self]
   rfl
  ·split
   ·exact jat r _ x h
   ·exact jat r _ x h
theorem qA {env:Env}:∀ {names:List (Str×NameKind)} {x:Str} {k:NameKind},
  (names.map fun (n,k)=>if (k == NameKind.free && env.scope.kind == .function && env.kindOf n == some .cell) then (n,NameKind.cell) else (n,k)).lookup x=some k→
   names.lookup x=some k∨(k=.cell∧names.lookup x=some .free)
 | [],_,_,h=>by simp at h
 | (n,k') :: r,x,k,h=>by
  rw [List.map_cons] at h
  by_cases hx:x=n
  ·subst hx
   rw [List.lookup_cons_self]
   by_cases hc:(k' == NameKind.free && env.scope.kind == .function && env.kindOf x == some .cell)=true
   ·simp only [hc,if_true] at h
    rw [List.lookup_cons_self] at h
    have hk:k'=.free:=by
     simp only [Bool.and_eq_true,beq_iff_eq] at hc
     exact hc.1.1
    exact .inr ⟨(Option.some.inj h).symm,by rw [hk]⟩
   ·simp only [hc] at h
    rw [if_neg (by simp),List.lookup_cons_self] at h
    exact .inl h
  ·have e:(x == n)=false:=beq_eq_false_iff_ne.mpr hx
   have h':(r.map fun (n,k)=>if (k == NameKind.free && env.scope.kind == .function && env.kindOf n == some .cell) then (n,NameKind.cell) else (n,k)).lookup x=some k:=by
    by_cases hc:(k' == NameKind.free && env.scope.kind == .function && env.kindOf n == some .cell)=true
    ·simp only [hc,if_true] at h
     rw [List.lookup_cons,e] at h
     exact h
    ·simp only [hc] at h
     rw [if_neg (by simp),List.lookup_cons,e] at h
     exact h
   have ih:=@qA env r x k h'
   rw [List.lookup_cons,e]
   exact ih
theorem yF {env:Env}:∀ {names:List (Str×NameKind)} {x:Str},names.lookup x=some .free→
  (names.map fun (n,k)=>if (k == NameKind.free && env.scope.kind == .function && env.kindOf n == some .cell) then (n,NameKind.cell) else (n,k)).lookup x=some .cell∨
  (names.map fun (n,k)=>if (k == NameKind.free && env.scope.kind == .function && env.kindOf n == some .cell) then (n,NameKind.cell) else (n,k)).lookup x=some .free
 | [],_,h=>by simp at h
 | (n,k') :: r,x,h=>by
  rw [List.map_cons]
  by_cases hx:x=n
  ·subst hx
   rw [List.lookup_cons_self] at h
   cases h
   by_cases hc:(NameKind.free == NameKind.free && env.scope.kind == .function && env.kindOf x == some .cell)=true
   ·simp only [hc,if_true]
    exact .inl List.lookup_cons_self
   ·simp only [hc]
    rw [if_neg (by simp)]
    exact .inr List.lookup_cons_self
  ·have e:(x == n)=false:=beq_eq_false_iff_ne.mpr hx
   rw [List.lookup_cons,e] at h
   have ih:=@yF env r x h
   by_cases hc:(k' == NameKind.free && env.scope.kind == .function && env.kindOf n == some .cell)=true
   ·simp only [hc,if_true]
    rw [List.lookup_cons,e]
    exact ih
   ·simp only [hc]
    rw [if_neg (by simp),List.lookup_cons,e]
    exact ih
def blk (X:Cx) (scope:Scope) (own:List Str) (fr:List Nat) (s:Shared) (H:Hp) (ex:List Addr):Cx where
 prog:=X.prog
 w:=X.w
 K:=X.K
 mg:=X.mg
 base:=X.base
 A:=X.A
 N:=own++fr.map fun j=>X.N.getD j (Str.ofString "")
 s₀:=s
 H₀:=H
 env:=compEnvC scope (zz X.env.cells scope.names []) s.heap.objs.size X.env
 outer:=X.stack
 stack:=X.stack
 ex:=ex
 fn:=fun _=>false
 calm:=X.calm
 pn:=[]
 xe:=fun _ _=>False
def jcu (own:List Str) (fr:List Nat) (σ:St):St:=own.map (fun _=>none)++fr.map fun j=>(σ[j]?).join
structure CompOk (X:Cx) (scope:Scope) (fr:List Nat):Prop where
 kind:scope.kind=.function
 nocell:∀ y∈scope.names,y.2≠.cell
 loc:∀ y∈scope.names,y.2=.local→scope.names.lookup y.1=some .local
 frees:∀ y∈scope.names,y.2=.free→X.env.scope.names.lookup y.1=some .cell∨X.env.scope.names.lookup y.1=some .free
 fr:∀ j∈fr,scope.names.lookup (X.N.getD j (Str.ofString ""))=some .free
theorem Yo {X:Cx} {scope:Scope} {own:List Str} {fr:List Nat} {pins:List (Addr×Obj)} {σ:St} {H:Hp} {s:Shared} {ex:List Addr} {h1:Heap} {t1:Nat} (I:Inv X pins σ H s) (O:CompOk X scope fr)
  (hex:∀ b∈ex,yU X pins H b∧b < s.heap.objs.size) (hns:h1.Ns s.heap.objs.size fun _=>none) (hk:∀ b o,s.heap.get? b=some o→h1.get? b=some o) :
  Inv (blk X scope own fr s H ex) [] (jcu own fr σ) H { s with heap:=h1,toks:=t1 }:=by
 have hsome:∀ x∈scope.names,x.2=.free→(X.env.cells.lookup x.1).isSome=true:=fun x hx e=>by
  obtain ⟨c,hc⟩:=I.ok.has x.1 (O.frees x hx e)
  rw [hc];rfl
 have sub:∀ x c,(zz X.env.cells scope.names []).lookup x=some c→X.env.cells.lookup x=some c:=jar scope.names [] hsome fun x c e=>by simp at e
 have hasc:∀ x,scope.names.lookup x=some .free→∃ c,(zz X.env.cells scope.names []).lookup x=some c:=fun x e=>Option.isSome_iff_exists.mp (jat scope.names [] x (PySem.mem_of_lookup e))
 have hcne:∀ x c,X.env.cells.lookup x=some c→c < s.heap.objs.size:=fun x c e=>by
  obtain ⟨v,q⟩:=I.cell x c e
  exact q.lt
 have hN:σ.length=X.N.length:=I.len
 refine ⟨⟨I.ok.mod,O.kind,I.ok.glob,I.ok.blt,Nat.le_refl _,fun x y c e1 e2=>I.ok.inj x y c (sub x c e1) (sub y c e2),fun x hx=>?_,fun x c z=>absurd z (by simp [blk]),I.ok.hd,I.ok.frames,.inl rfl,fun b hb=>⟨Nat.ne_of_lt (hex b hb).2,fun x c e=>(hex b hb).1.2.2.2.2.1 x c (sub x c e)⟩,
  fun b o e=>I.bs b o e,Nat.le_trans I.ok.bsz I.sz,fun b o e hb=>?_,fun b hb z=>?_,I.stack,I.stkFree⟩,
  rfl,I.bare,Un.kept hk,⟨_,hns,fun i x v e1 e2 e3=>?_⟩,fun x c e=>?_,I.fresh,fun x c e=>I.freeC x c (sub x c e),fun p hp=>absurd hp (by simp [blk]),I.hok.kept hk,?_⟩
 ·have hx':(relabel scope X.env).names.lookup x=some .cell∨(relabel scope X.env).names.lookup x=some .free:=hx
  rcases hx' with hx | hx
  ·rcases qA hx with q | ⟨_,q⟩
   ·exact absurd rfl (O.nocell _ (PySem.mem_of_lookup q))
   ·exact hasc x q
  ·rcases qA hx with q | ⟨q,_⟩
   ·exact hasc x q
   ·cases q
 ·rcases (hex b hb).1.2.2.2.1 with z | z
  ·exact I.ok.noex b o e z
  ·exact absurd (Nat.lt_of_lt_of_le (Heap.lt_size e) (Nat.le_trans I.ok.bsz z)) (Nat.lt_irrefl _)
 ·obtain ⟨_,f1,f2,_⟩:=(hex b hb).1
  rcases List.mem_cons.mp (I.stkSub b z) with q | q
  ·exact f1 q
  ·exact f2 q
 ·have e1':(own++fr.map fun j=>X.N.getD j (Str.ofString ""))[i]?=some x:=e1
  unfold jcu at e2
  have hi:own.length≤i:=by
   by_cases h:own.length≤i
   ·exact h
   ·rw [List.getElem?_append_left (by simpa using Nat.lt_of_not_le h),List.getElem?_map] at e2
    cases q:own[i]? with
    | none=>rw [q] at e2;cases e2
    | some z=>rw [q] at e2;cases e2
  rw [List.getElem?_append_right hi,List.getElem?_map] at e1'
  rw [List.getElem?_append_right (by simpa using hi),List.getElem?_map,List.length_map] at e2
  cases q:fr[i - own.length]? with
  | none=>rw [q] at e2;cases e2
  | some j=>
   rw [q] at e1' e2
   have e1'':X.N.getD j (Str.ofString "")=x:=Option.some.inj e1'
   have e2':(σ[j]?).join=some v:=Option.some.inj e2
   have e2'':σ[j]?=some (some v):=by
    cases z:σ[j]? with
    | none=>rw [z] at e2';cases e2'
    | some y=>rw [z] at e2';rw [← e2'];rfl
   have hj:j < X.N.length:=by rw [← hN];exact (List.getElem?_eq_some_iff.mp e2'').1
   have e3':X.N[j]?=some x:=by
    rw [List.getElem?_eq_getElem hj,← e1'',List.getD_eq_getElem?_getD,List.getElem?_eq_getElem hj]
    rfl
   have hf:=O.fr j (List.mem_of_getElem? q)
   rw [e1''] at hf
   have hv:=O.frees _ (PySem.mem_of_lookup hf) rfl
   obtain ⟨m,_,hl⟩:=I.loc
   obtain ⟨u,ru,lk⟩:=hl j x v e3' e2'' (.inr hv)
   refine ⟨u,ru,.inr ⟨?_,?_⟩⟩
   ·exact yF hf
   ·obtain ⟨c,hc⟩:=hasc x hf
    refine ⟨c,hc,?_⟩
    rcases lk with ⟨k,_⟩ | ⟨_,c',hc',z⟩
    ·have k':X.env.scope.names.lookup x=some .local:=k
     rcases hv with hv | hv <;> · rw [k'] at hv;cases hv
    ·have:=sub x c hc
     rw [hc'] at this
     cases this
     obtain ⟨o,ho,hd⟩:=z
     exact ⟨o,hk _ _ ho,hd⟩
 ·obtain ⟨v,o,ho,hd⟩:=I.cell x c (sub x c e)
  exact ⟨v,o,hk _ _ ho,hd⟩
 ·show (jcu own fr σ).length=(own++fr.map fun j=>X.N.getD j (Str.ofString "")).length
  unfold jcu
  rw [List.length_append,List.length_append,List.length_map,List.length_map,List.length_map]
theorem zd {X:Cx} {scope:Scope} {own:List Str} {fr:List Nat} {pins:List (Addr×Obj)} {σ σ':St} {H H':Hp} {s s':Shared} {ex:List Addr} (I:Inv X pins σ H s) (hex:∀ b∈ex,yU X pins H b∧b < s.heap.objs.size)
  (J:Inv (blk X scope own fr s H ex) [] σ' H' s') {h':Heap} (hs:Heap.SameBut s.heap.objs.size s'.heap h'):Inv X pins σ H' { s' with heap:=h' }:=by
 have hC:H' s.heap.objs.size=none:=J.free
 have u:Un (frs X.stack) ex H H' s.heap s'.heap:=J.base
 have ne:∀ b o,s.heap.get? b=some o→b≠s.heap.objs.size:=fun b o e=>Nat.ne_of_lt (Heap.lt_size e)
 have at':∀ b o,b≠s.heap.objs.size→s'.heap.get? b=some o→h'.get? b=some o:=fun b o hb e=>(hs.2 b hb).trans e
 refine I.call' (ch:=ex) J.os ⟨fun b o e n hb hx=>?_,fun b o e n hb hx=>?_,u.free,fun b o e hx=>?_,u.tups,u.frzs,u.tbls⟩ (fun b o e=>?_) J.bare fun b hb=>?_
 ·exact at' b o (ne b o e) (u.keep b o e n hb hx)
 ·obtain ⟨sl,q⟩:=u.slot b o e n hb hx
  exact ⟨sl,at' b _ (ne b o e) q⟩
 ·obtain ⟨o',q⟩:=u.there b o e hx
  exact ⟨o',at' b _ (ne b o e) q⟩
 ·refine (J.hok b o e).stay (fun c v hc q=>at' c v ?_ q) (fun _ q=>q) fun _ _ q=>q
  rintro z
  rcases hc with y | y
  ·rw [y] at z;rw [z,hC] at e;cases e
  ·rw [z,hC] at y;cases y
 ·obtain ⟨f0,f1,f2,f3,f4,f5⟩:=(hex b hb).1
  exact ⟨f3,f1,f4,f5⟩
def PTs (X:Cx) (ifs:List Expr) (t:TT):Prop:=
 ∀ (pins:List (Addr×Obj)) (s:Shared) (σ:St) (H:Hp) (Q:Bool→Hp→Prop),Inv X pins σ H s→t σ H Q→
  wpAny (model X.prog X.w) X.A (forIn ifs true fun c r=>if r=true then do let ok ← isTrue c X.env (eval c X.env);pure (ForInStep.yield ok) else pure (ForInStep.yield r)) (TP X pins σ Q) X.xe s
def yx:TT:=fun _ H Q=>Q true H
theorem jen {X:Cx}:PTs X [] yx:=fun _ _ _ H _ I h=>wpAny_tests_nil ⟨H,I,h⟩
theorem jem {X:Cx} {c:Expr} {t:TT} (h:PT X c t):PTs X [c] t:=fun pins s σ H Q I q=>wpAny_tests_one (h pins s σ H Q I q)
def qj (J:It) (p:Addr) (g:TG) (tt:TT) (te:TE) (Q:VK) (σ:St) (H:Hp):Prop:=∃ W:Nat→Nat→St→Hp→Prop,(∃ m,W 0 m σ H)∧
 ∀ i m σ' H',W i m σ' H'→(J.stop i H'∧Q (.ref p) H')∨(J.go i H'∧∃ N:St→Hp→Prop,(∀ σ3 H3,N σ3 H3→∃ m',m' < m∧W (i+1) m' σ3 H3)∧∀ x H2,J.yld i H' x H2→g x σ' H2 fun σ3 H3=>tt σ3 H3 fun c H4=>
  if c=true then te σ3 H4 fun y H5=>∃ ys,H5 p=some (.lst ys)∧ys.length < sizeLine∧N σ3 (upd H5 p (.lst (ys++[y]))) else N σ3 H4)
def Jj (own:List Str) (fr:List Nat) (wi:TI) (g:TG) (tt:TT) (te:TE):TE:=fun σ H Q=>wi σ H fun J H1=>∀ p,H1 p=none→qj J p g tt te Q (jcu own fr σ) (upd H1 p (.lst []))
theorem ZK {X:Cx} {scope:Scope} {own:List Str} {fr:List Nat} {elt tg iter:Expr} {ifs:List Expr} {pos:Pos} {wi:TI} {g:TG} {tt:TT} {te:TE} {use:Option (Value→Sem Unit)} (hc:X.calm=true) (O:CompOk X scope fr) (hi:PI X tg iter wi)
  (hb:∀ s H ex,PG (blk X scope own fr s H ex) tg g∧PTs (blk X scope own fr s H ex) ifs tt∧PE (blk X scope own fr s H ex) elt te)
  (hs:∀ x,foldedSetIterable iter X.env x=pure x) {pins:List (Addr×Obj)} {s:Shared} {σ:St} {H:Hp} {Q:VK} {R:Value→Shared→Prop} (I:Inv X pins σ H s) (h:Jj own fr wi g tt te σ H Q) (hx:∀ e s',X.xe e s'↔False)
  (fin:∀ (p C:Addr) (H':Hp) (s':Shared) (m:Str→Option Value),s'.heap.Ns C m→H' C=none→C≠X.env.locals→(∀ x c,X.env.cells.lookup x=some c→c≠C)→Inv X pins σ H' s'→(∀ h',Heap.SameBut C s'.heap h'→Inv X pins σ H' { s' with heap:=h' })→Q (.ref p) H'→
   compPost (model X.prog X.w) X.A X.xe use R (.ref p) C (.ok .next) s') :
  wpAny (model X.prog X.w) X.A (comprehension (.ListComp elt [⟨tg,iter,ifs,0⟩] scope pos) scope X.env (firstIterPos [⟨tg,iter,ifs,0⟩] pos) (newList []) false (eval iter X.env) use) R X.xe s:=by
 have hsome:∀ x∈scope.names,x.2=.free→(X.env.cells.lookup x.1).isSome=true:=fun x hx' e=>by
  obtain ⟨c,hc⟩:=I.ok.has x.1 (O.frees x hx' e)
  rw [hc];rfl
 have no:∀ (E:Value→Shared→Prop) (x:Value) (s':Shared),X.xe x s'→E x s':=fun E x s' z=>((hx x s').mp z).elim
 refine wpAny_comprehension_free (cl:=zz X.env.cells scope.names []) rfl hs (ym hsome) O.kind O.loc ?_
 refine thn (hi pins s σ H _ I h) fun v s1 h1=>thn h1 fun itv s2 h2=>?_
 obtain ⟨it,fp,tn,J,H2,e,I2,T,st2,f2,q2⟩:=h2
 subst e
 refine wpAny_newObj_type ?_
 have nw:H2 s2.heap.objs.size=none:=I2.fresh
 obtain ⟨W,⟨m0,w0⟩,turn⟩:=q2 _ nw
 generalize hp:s2.heap.objs.size=p at *
 have I3:Inv X pins σ (upd H2 p (.lst [])) { s2 with heap:=s2.heap.push { cls:=.type "list",dict:=none,data:=.seq ([]:List Value).toArray } }:=by
  have:=I2.lnew (ys:=[]) (its:=[]) (t':=s2.toks) .nil (Nat.zero_le _)
  rw [hp] at this
  exact this
 have lt2:∀ b∈fp,b < s2.heap.objs.size:=fun b hb=>by
  obtain ⟨o,ho,_⟩:=T.obj _ _ st2 b hb
  exact Heap.lt_size ho
 have fpn:∀ b∈fp,(upd H2 p (.lst [])) b=none:=fun b hb=>by
  rw [jm (by rw [← hp];exact Nat.ne_of_lt (lt2 b hb))]
  exact (f2 b hb).1
 generalize hs3:({ s2 with heap:=s2.heap.push { cls:=.type "list",dict:=none,data:=.seq ([]:List Value).toArray } }:Shared)=s3 at *
 have sz3:s3.heap.objs.size=p+1:=by
  rw [← hs3]
  show (s2.heap.push _).objs.size=_
  rw [Heap.size_push,hp]
 have st3:tn 0 s3.heap:=T.keep 0 _ _ st2 fun b hb o e=>by
  rw [← hs3]
  exact Heap.get?_push_of_some _ e
 refine wpAny_newFunctionEnv O.nocell (by intro y hy;simp at hy) (fun h4 hns4 hsb4=>?_) O.kind
 have k4:∀ b o,s3.heap.get? b=some o→h4.get? b=some o:=fun b o e=>hsb4.extBut b o (Nat.ne_of_lt (Heap.lt_size e)) (Heap.get?_push_of_some _ e)
 have hns4':h4.Ns s3.heap.objs.size fun _=>none:=by
  have z:(fun x:Str=>([]:List (Str×Value)).reverse.lookup x)=fun _=>none:=by funext x;rfl
  rw [z] at hns4
  exact hns4
 have fo:∀ b∈fp,yU X pins (upd H2 p (.lst [])) b∧b < s3.heap.objs.size:=fun b hb=>⟨⟨fpn b hb,(f2 b hb).2⟩,by rw [sz3,← hp];exact Nat.lt_succ_of_lt (lt2 b hb)⟩
 have I4:=Yo (own:=own) (fr:=fr) (t1:=s3.toks+([]:List (Str×Value)).length) I3 O fo hns4' k4
 have st4:tn 0 h4:=T.keep 0 _ _ st3 fun b hb o e=>k4 b o e
 obtain ⟨hg,ht,he⟩:=hb s3 (upd H2 p (.lst [])) fp
 have stat:∀ {H':Hp} {pn:List (Addr×Obj)} {s':Shared} {σ':St},Inv (blk X scope own fr s3 (upd H2 p (.lst [])) fp) [] σ' H' s'→(∀ b∈fp,H' b=none)→∀ b∈fp,yU (blk X scope own fr s3 (upd H2 p (.lst [])) fp) [] H' b:=fun {H' pn s' σ'} J hn b hb'=>
  ⟨hn b hb',(J.ok.exf b hb').1,J.ok.exfs b hb',.inl hb',(J.ok.exf b hb').2,fun p hp=>absurd hp (by simp [blk])⟩
 have nocells:∀ x c,X.env.cells.lookup x=some c→c≠s3.heap.objs.size:=fun x c e=>by
  obtain ⟨v,q⟩:=I3.cell x c e
  exact Nat.ne_of_lt q.lt
 have loop:∀ s5:Shared,s5={ s3 with heap:=h4,toks:=s3.toks+([]:List (Str×Value)).length }→
   codeAny (model X.prog X.w) X.A (.compLoop (.ListComp elt [⟨tg,iter,ifs,0⟩] scope pos) 0 (.ref it) (.ref p) (blk X scope own fr s3 (upd H2 p (.lst [])) fp).env) (compPost (model X.prog X.w) X.A X.xe use R (.ref p) s3.heap.objs.size) s5:=by
  rintro s5 rfl
  refine yQ (fun n s'=>∃ i σ' H',Inv (blk X scope own fr s3 (upd H2 p (.lst [])) fp) [] σ' H' s'∧tn i s'.heap∧(∀ b∈fp,H' b=none)∧W i n σ' H') ?_ m0 ⟨0,_,_,I4,st4,fpn,w0⟩
  rintro n s6 ⟨i,σ6,H6,I6,st6,fr6,w6⟩
  rcases turn i n σ6 H6 w6 with ⟨stop,qn⟩ | ⟨go,N,hN,step⟩
  ·refine thn (T.done (blk X scope own fr s3 (upd H2 p (.lst [])) fp) rfl rfl rfl hc i [] s6 σ6 H6 _ I6 (stat (pn:=[]) I6 fr6) st6 stop) fun r s7 ⟨hr,I7⟩=>?_
   subst hr
   obtain ⟨m,hm,_⟩:=I7.loc
   exact fin p _ H6 s7 m hm I7.free (Nat.ne_of_gt I3.lt) nocells (zd I3 fo I7 (Heap.SameBut.refl ..)) (fun h' hs'=>zd I3 fo I7 hs') qn
  ·refine thn (T.item (blk X scope own fr s3 (upd H2 p (.lst [])) fp) rfl rfl rfl hc i [] s6 σ6 H6 _ I6 (stat (pn:=[]) I6 fr6) st6 go) fun r s7 ⟨u,hr,h7⟩=>?_
   subst hr
   refine thn h7 fun _ s8 ⟨x,H8,I8,r8,y8,st8,fr8⟩=>?_
   have I8':=I8.pinned (stat (pn:=[]) I8 fr8) (T.obj _ _ st8)
   refine thn (hg _ s8 σ6 H8 x u _ I8' r8 (step x H8 y8)) fun _ s9 ⟨σ9,H9,I9,q9⟩=>?_
   refine thn (ht _ s9 σ9 H9 _ I9 q9) fun ok s10 ⟨H10,I10,q10⟩=>?_
   have again:∀ {H11:Hp} {s11:Shared},Inv (blk X scope own fr s3 (upd H2 p (.lst [])) fp) ([]++zg fp s8.heap) σ9 H11 s11→(∃ m',m' < n∧W (i+1) m' σ9 H11)→
     ∃ m,m < n∧∃ i σ' H',Inv (blk X scope own fr s3 (upd H2 p (.lst [])) fp) [] σ' H' s11∧tn i s11.heap∧(∀ b∈fp,H' b=none)∧W i m σ' H':=fun {H11 s11} I11 ⟨m',hm,w11⟩=>by
    refine ⟨m',hm,i+1,σ9,H11,I11.unpinned,T.keep _ _ _ st8 fun b hb' o e=>(I11.pin (b,o) (List.mem_append_right _ (List.mem_append_right _ (kr hb' e)))).1,fun b hb'=>?_,w11⟩
    obtain ⟨o,e,d⟩:=T.obj _ _ st8 b hb'
    exact (I11.pin (b,o) (List.mem_append_right _ (List.mem_append_right _ (kr hb' e)))).2.1
   cases ok with
   | false=>
    rw [if_neg Bool.false_ne_true] at q10 ⊢
    exact again I10 (hN _ _ q10)
   | true=>
    rw [if_pos rfl] at q10 ⊢
    refine thn (he _ s10 σ9 H10 _ I10 q10) fun yv s11 ⟨y,H11,I11,r11,ys,hys,hlen,q11⟩=>?_
    have ap:=jO (X:=blk X scope own fr s3 (upd H2 p (.lst [])) fp) ([]++zg fp s8.heap) s11 σ9 H11 (.ref p) [y] (.ref p) [yv] (fun _ H12=>∃ m',m' < n∧W (i+1) m' σ9 H12) I11 rfl (.cons r11 .nil) ⟨p,ys,y,rfl,rfl,hys,hlen,hN _ _ q11⟩
    exact thn ap fun _ s12 ⟨_,H12,I12,_,q12⟩=>again I12 q12
 refine codeAny_compStart_list (loop _ rfl) (T.self X.A 0 _ _ _ st4 (loop _ rfl))
theorem jey {X:Cx} {scope:Scope} {elt tg iter:Expr} {ifs:List Expr} {pos:Pos} {wi:TI} {g:TG} {tt:TT} {te:TE} (own:List Str) (fr:List Nat) (hc:X.calm=true) (O:CompOk X scope fr) (hi:PI X.nox tg iter wi)
  (hb:∀ s H ex,PG (blk X.nox scope own fr s H ex) tg g∧PTs (blk X.nox scope own fr s H ex) ifs tt∧PE (blk X.nox scope own fr s H ex) elt te)
  (hs:∀ x,foldedSetIterable iter X.env x=pure x:=by intro _;rfl):PE X.nox (.ListComp elt [⟨tg,iter,ifs,0⟩] scope pos) (Jj own fr wi g tt te):=by
 intro pins s σ H Q I h
 rw [eval_ListComp]
 refine ZK (X:=X.nox) (use:=none) (Q:=Q) hc ⟨O.kind,O.nocell,O.loc,O.frees,O.fr⟩ hi hb hs I h (fun _ _=>Iff.rfl) fun p C H' s' m hm hC _ _ I' back q=>?_
 exact ⟨m,hm,fun h' hs'=>⟨.ref p,H',back h' hs',rfl,q⟩⟩
section
variable {p:Addr} {g:TG} {tt:TT} {te:TE} {σ:St} {H:Hp} {Q:VK}
theorem Yx (J:It) (n:Nat) (Pv:Nat→St→Hp→Prop) (h0:Pv 0 σ H) (stop:∀ σ' H',Pv n σ' H'→J.stop n H') (go:∀ i σ' H',i < n→Pv i σ' H'→J.go i H')
  (hs:∀ i σ' H',i < n→Pv i σ' H'→∀ x H2,J.yld i H' x H2→g x σ' H2 fun σ3 H3=>tt σ3 H3 fun c H4=>if c=true then te σ3 H4 fun y H5=>∃ ys,H5 p=some (.lst ys)∧ys.length < sizeLine∧Pv (i+1) σ3 (upd H5 p (.lst (ys++[y]))) else Pv (i+1) σ3 H4)
  (hd:∀ σ' H',Pv n σ' H'→Q (.ref p) H'):qj J p g tt te Q σ H:=by
 refine ⟨fun i m σ H=>m=n - i∧i≤n∧Pv i σ H,⟨n,by simp,Nat.zero_le _,h0⟩,?_⟩
 rintro i m σ1 H1 ⟨rfl,hi,pv⟩
 by_cases hlt:i < n
 ·exact .inr ⟨go i σ1 H1 hlt pv,Pv (i+1),fun σ3 H3 q=>⟨n - (i+1),by omega,rfl,hlt,q⟩,hs i σ1 H1 hlt pv⟩
 ·have e:i=n:=by omega
  subst e
  exact .inl ⟨stop σ1 H1 pv,hd σ1 H1 pv⟩
theorem Kd {lo:Int} {n:Nat} (Pv:Nat→St→Hp→Prop) (h0:Pv 0 σ H)
  (hs:∀ i σ' H',i < n→Pv i σ' H'→g (.int (lo+i)) σ' H' fun σ3 H3=>tt σ3 H3 fun c H4=>if c=true then te σ3 H4 fun y H5=>∃ ys,H5 p=some (.lst ys)∧ys.length < sizeLine∧Pv (i+1) σ3 (upd H5 p (.lst (ys++[y]))) else Pv (i+1) σ3 H4)
  (hd:∀ σ' H',Pv n σ' H'→Q (.ref p) H'):qj (Itr lo n) p g tt te Q σ H:=
 Yx (Itr lo n) n Pv h0 (fun _ _ _=>Nat.le_refl _) (fun i _ _ h _=>h) (fun i σ' H' h pv x H2 y=>by
  obtain ⟨e1,e2⟩:=y
  subst e1 e2
  exact hs i σ' _ h pv) hd
theorem jdW {K:PySem.W.Frag} {a:Addr} {xs:List V} (Pv:Nat→St→Hp→Prop) (h0:Pv 0 σ H) (hl:∀ i σ' H',i≤xs.length→Pv i σ' H'→SqT K H' a xs)
  (hs:∀ i x σ' H',xs[i]?=some x→Pv i σ' H'→g x σ' H' fun σ3 H3=>tt σ3 H3 fun c H4=>if c=true then te σ3 H4 fun y H5=>∃ ys,H5 p=some (.lst ys)∧ys.length < sizeLine∧Pv (i+1) σ3 (upd H5 p (.lst (ys++[y]))) else Pv (i+1) σ3 H4)
  (hd:∀ σ' H',Pv xs.length σ' H'→Q (.ref p) H'):qj (Itt K a) p g tt te Q σ H:=
 Yx (Itt K a) xs.length Pv h0 (fun σ' H' pv=>⟨xs,hl _ σ' H' (Nat.le_refl _) pv,Nat.le_refl _⟩) (fun i σ' H' h pv=>⟨xs,xs[i],hl i σ' H' (Nat.le_of_lt h) pv,by simp [h]⟩) (fun i σ' H' h pv x H2 y=>by
  obtain ⟨e1,e2⟩:=y
  subst e1
  exact hs i x σ' _ (e2 xs (hl i σ' _ (Nat.le_of_lt h) pv)) pv) hd
theorem zc {K:PySem.W.Frag} {a:Addr} {xs:List V} (Pv:Nat→St→Hp→Prop) (h0:Pv 0 σ H) (hl:∀ i σ' H',i≤xs.length→Pv i σ' H'→SqL K H' a xs)
  (hs:∀ i x σ' H',xs[i]?=some x→Pv i σ' H'→g x σ' H' fun σ3 H3=>tt σ3 H3 fun c H4=>if c=true then te σ3 H4 fun y H5=>∃ ys,H5 p=some (.lst ys)∧ys.length < sizeLine∧Pv (i+1) σ3 (upd H5 p (.lst (ys++[y]))) else Pv (i+1) σ3 H4)
  (hd:∀ σ' H',Pv xs.length σ' H'→Q (.ref p) H'):qj (Itl K a) p g tt te Q σ H:=
 Yx (Itl K a) xs.length Pv h0 (fun σ' H' pv=>⟨xs,hl _ σ' H' (Nat.le_refl _) pv,Nat.le_refl _⟩) (fun i σ' H' h pv=>⟨xs,xs[i],hl i σ' H' (Nat.le_of_lt h) pv,by simp [h]⟩) (fun i σ' H' h pv x H2 y=>by
  obtain ⟨e1,e2⟩:=y
  subst e1
  exact hs i x σ' _ (e2 xs (hl i σ' _ (Nat.le_of_lt h) pv)) pv) hd
end
inductive D where
 | int (i:Int) | str (x:Str) | tup (ds:List D)
mutual
def Held (H:Hp):D→V→Prop
 | .int i,v=>v=.int i
 | .str x,v=>v=.str x
 | .tup ds,v=>∃ a xs,v=.ref a∧H a=some (.tup xs)∧HeldL H ds xs
def HeldL (H:Hp):List D→List V→Prop
 | [],vs=>vs=[]
 | d :: ds,vs=>∃ v r,vs=v :: r∧Held H d v∧HeldL H ds r
end
mutual
theorem Held.mono {H H':Hp} (e:Same H H'):∀ {d:D} {v:V},Held H d v→Held H' d v
 | .int i,v,h=>by unfold Held at h ⊢;exact h
 | .str x,v,h=>by unfold Held at h ⊢;exact h
 | .tup ds,v,h=>by
  unfold Held at h ⊢
  obtain ⟨a,xs,e1,e2,e3⟩:=h
  exact ⟨a,xs,e1,e a _ e2,HeldL.mono e e3⟩
theorem HeldL.mono {H H':Hp} (e:Same H H'):∀ {ds:List D} {vs:List V},HeldL H ds vs→HeldL H' ds vs
 | [],vs,h=>by unfold HeldL at h ⊢;exact h
 | d :: ds,vs,h=>by
  unfold HeldL at h ⊢
  obtain ⟨v,r,e1,e2,e3⟩:=h
  exact ⟨v,r,e1,Held.mono e e2,HeldL.mono e e3⟩
end
theorem j3 {H:Hp} {i:Int}:Held H (.int i) (.int i):=by unfold Held;rfl
theorem j8 {H:Hp} {x:Str}:Held H (.str x) (.str x):=by unfold Held;rfl
theorem jF {H:Hp} {a:Addr} {xs:List V} {ds:List D} (e:H a=some (.tup xs)) (h:HeldL H ds xs):Held H (.tup ds) (.ref a):=by unfold Held;exact ⟨a,xs,rfl,e,h⟩
theorem ji {H:Hp}:HeldL H [] []:=by unfold HeldL;rfl
theorem jg {H:Hp} {d:D} {ds:List D} {v:V} {r:List V} (h:Held H d v) (t:HeldL H ds r):HeldL H (d :: ds) (v :: r):=by unfold HeldL;exact ⟨v,r,rfl,h,t⟩
theorem HeldL.length {H:Hp}:∀ {ds:List D} {vs:List V},HeldL H ds vs→ds.length=vs.length
 | [],vs,h=>by unfold HeldL at h;subst h;rfl
 | d :: ds,vs,h=>by
  unfold HeldL at h
  obtain ⟨v,r,e1,_,e3⟩:=h
  subst e1
  rw [List.length_cons,List.length_cons,HeldL.length e3]
theorem HeldL.get {H:Hp}:∀ {ds:List D} {vs:List V} {j:Nat} {d:D},HeldL H ds vs→ds[j]?=some d→∃ v,vs[j]?=some v∧Held H d v
 | [],_,_,_,_,e=>by simp at e
 | d :: ds,vs,0,d',h,e=>by
  unfold HeldL at h
  obtain ⟨v,r,e1,e2,e3⟩:=h
  simp at e;subst e e1
  exact ⟨v,rfl,e2⟩
 | d :: ds,vs,j+1,d',h,e=>by
  unfold HeldL at h
  obtain ⟨v,r,e1,e2,e3⟩:=h
  subst e1
  obtain ⟨w,h1,h2⟩:=HeldL.get (j:=j) (d:=d') e3 (by simpa using e)
  exact ⟨w,by simpa using h1,h2⟩
mutual
def D.depth:D→Nat
 | .int _=>0
 | .str _=>0
 | .tup ds=>D.depthL ds+1
def D.depthL:List D→Nat
 | []=>0
 | d :: ds=>max (D.depth d) (D.depthL ds)
end
theorem D.depthL_get:∀ {ds:List D} {j:Nat} {d:D},ds[j]?=some d→d.depth≤D.depthL ds
 | [],_,_,e=>by simp at e
 | d :: ds,0,d',e=>by simp at e;subst e;unfold D.depthL;exact Nat.le_max_left _ _
 | d :: ds,j+1,d',e=>by unfold D.depthL;exact Nat.le_trans (D.depthL_get (j:=j) (by simpa using e)) (Nat.le_max_right _ _)
theorem Ze {X:Cx}:OpR X (binaryOp .FloorDiv) (rI (fun _ j=>0 < j∧j < 2 ^ 200) fun i j=>.int (i / j)):=opI fun i j _ _ _ _ _ hc q=>by
 refine floordiv_int (by omega) ?_ (.inl (PyProof.noPylong_of_log2 ?_))
 ·rw [Int.fdiv_eq_ediv_of_nonneg _ (by omega)]
  exact q
 ·have h0:j.natAbs≠0:=by omega
  exact Nat.lt_trans ((Nat.log2_lt h0).mpr (show j.natAbs < 2 ^ 200 by omega)) (by decide)
theorem ZN {X:Cx} (hc:X.calm=true):qH X (.builtin "all") (fun xs H Q=>∃ (p:Addr) (ys:List Bool),xs=[.ref p]∧SqL X.K H p (ys.map V.bl)∧Q (.bl (ys.all id)) H):=by
 intro pins s σ H xs us Q I r h
 obtain ⟨p,ys,rfl,hq,q⟩:=h
 obtain ⟨u,rfl,ru⟩:=yb r
 cases ru
 obtain ⟨its,rv,hp,hz⟩:=I.list hq
 refine call_all_walk (wpAny_pyIter_list hp.isList ?_)
 have hne:p≠s.heap.objs.size:=by
  obtain ⟨o,ho,_⟩:=hp.isList
  exact Nat.ne_of_lt (Heap.lt_size ho)
 have hl:=rv.length
 rw [List.length_map] at hl
 refine ⟨_,_,_,_,_,_,fun i=>ys.getD i false,rfl,Walks.list (A:=X.A.in1) (show X.A.in1.handled=none from I.ok.hd hc) s.heap.objs.size p hne its.toArray,⟨⟨_,Heap.get?_push_size _ rfl,rfl,rfl⟩,hp.isList.at fun o e=>Heap.get?_push_of_some _ e⟩,?_,?_⟩
 ·intro i v s1 Q1 E1 hv hq1
  have hv':its[i]?=some v:=by simpa using hv
  have hi:i < its.length:=(List.getElem?_eq_some_iff.mp hv').1
  have ey:(ys.map V.bl)[i]?=some (.bl (ys[i]'(by omega))):=by rw [List.getElem?_map,List.getElem?_eq_getElem (by omega)];rfl
  obtain ⟨w,hw,rw'⟩:=rv.get ey
  rw [hv'] at hw;cases hw
  cases rw'
  have:ys.getD i false=ys[i]'(by omega):=by rw [List.getD_eq_getElem?_getD,List.getElem?_eq_getElem (by omega)];rfl
  have hq2:Q1 (ys.getD i false) s1:=hq1
  rw [this] at hq2
  exact wpAny_truthy_bool hq2
 ·intro h' tk hk
  have e:((List.range its.toArray.size).all fun i=>ys.getD i false)=ys.all id:=by
   have el:its.toArray.size=ys.length:=by simp;omega
   rw [el]
   apply Bool.eq_iff_iff.mpr
   rw [List.all_eq_true,List.all_eq_true]
   constructor
   ·intro h x hx
    obtain ⟨i,hi,rfl⟩:=List.mem_iff_getElem.mp hx
    have:=h i (List.mem_range.mpr hi)
    rw [List.getD_eq_getElem?_getD,List.getElem?_eq_getElem hi] at this
    exact this
   ·intro h i hi
    have hi:=List.mem_range.mp hi
    rw [List.getD_eq_getElem?_getD,List.getElem?_eq_getElem hi]
    exact h _ (List.getElem_mem hi)
  rw [e]
  exact ⟨.bl (ys.all id),H,I.kept (t':=tk) fun b o e=>hk b o (by simp;exact Nat.ne_of_lt (Heap.lt_size e)) (Heap.get?_push_of_some _ e),rfl,q⟩
def qi:Expr→Bool
 | .Starred _ _=>false
 | _=>true
theorem zF {e:Expr} (h:qi e=true) (jG:List Expr) (env:Env):starEach (e :: jG) env=(false,eval e env) :: starEach jG env:=by
 cases e <;> first | rfl | cases h
theorem Ye (pos:Pos) (env:Env):∀ es:List Expr,es.all qi=true→(backTo pos (starEach es env)).any (·.1)=false
 | [],_=>rfl
 | e :: es,h=>by
  rw [List.all_cons,Bool.and_eq_true] at h
  rw [zF h.1]
  have ih:=Ye pos env es h.2
  show (false || (backTo pos (starEach es env)).any (·.1))=false
  rw [ih]
  rfl
theorem jgP {X:Cx} {e:Expr} {es:List Expr} {te:TE} {t:TA} (ha:PE X e te) (hr:PA X es t) (hp:qi e=true:=by rfl):PA X (e :: es) (jcJ te t):=jeB ha hr (zF hp es X.env)
theorem jgK {X:Cx} {x:Str} {p pos:Pos} {e:Expr} {es:List Expr} {t:TA} {id:String} {r:List V→Hp→VK→Prop} (hc:qH X (.builtin id) r) (hg:Gl X x) (hm:X.mg x=none) (hv:bootBuiltins x=some (.builtin id)) (ha:PA X (e :: es) t) (hp:(e :: es).all qi=true:=by rfl) (hn:x≠"__name__":=by decide) (hdb:(x == ("__debug__" : Str))=false:=by decide) :
  PE X (.Call (.Name x p) (e :: es) [] pos) (tCB r t):=by
 rw [List.all_cons,Bool.and_eq_true] at hp
 exact jdj hc hg hm hv ha hn hdb (zF hp.1 es X.env) (Ye pos X.env es hp.2)
theorem jgJ {X:Cx} {x:Str} {p pos:Pos} {e:Expr} {es:List Expr} {t:TA} {T:String} {r:List V→Hp→VK→Prop} (hc:qH X (.type T) r) (hg:Gl X x) (hm:X.mg x=none) (hv:bootBuiltins x=some (.type T)) (ha:PA X (e :: es) t) (hp:(e :: es).all qi=true:=by rfl) (hn:x≠"__name__":=by decide) (hdb:(x == ("__debug__" : Str))=false:=by decide) :
  PE X (.Call (.Name x p) (e :: es) [] pos) (tCB r t):=by
 rw [List.all_cons,Bool.and_eq_true] at hp
 exact jb0 hc hg hm hv ha hn hdb (zF hp.1 es X.env) (Ye pos X.env es hp.2)
structure Fn (P:Program) (w:World) (K:PySem.W.Frag) (mg:Str→Option Value) (base:Heap) (k:Nat) (x:Str) (ps:List Str) (sp:Sp):Prop where
 ex:∃ f fd,FnOk P w K mg base CX0 k f fd ps sp∧Binds K fd ps []∧PySem.W.keepIn K (.ref f)=true∧mg x=some (.ref f)
theorem jff {X:Cx} {k k':Nat} {x:Str} {ps:List Str} {sp:Sp} {e:Expr} {es:List Expr} {t:TA} {p pos:Pos} (F:Fn X.prog X.w X.K X.mg X.base k x ps sp) (hr:Room k' X.A) (ha:PA X (e :: es) t) (hk:k≤k':=by decide) (hg:Gl X x:=by rfl)
  (hd:(x == ("__debug__" : Str))=false:=by decide) (hp:(e :: es).all qi=true:=by rfl):PE X (.Call (.Name x p) (e :: es) [] pos) (jaO sp [] E0 t):=by
 obtain ⟨f,fd,G,b,kp,m⟩:=F.ex
 rw [List.all_cons,Bool.and_eq_true] at hp
 exact jeA G (hr.mono hk) hg m kp b .nil jgO ha hd (zF hp.1 es X.env) (Ye pos X.env es hp.2)
theorem Fn.mk' {P:Program} {w:World} {K:PySem.W.Frag} {mg:Str→Option Value} {base:Heap} {k:Nat} {x:Str} {ps:List Str} {sp:Sp} {st:Stmt} {f:Addr} {fd:FuncData} (F:Fun K x x st f fd) (b:Binds K fd ps []) (m:mg x=some (.ref f)) (G:FnOk P w K mg base CX0 k f fd ps sp):Fn P w K mg base k x ps sp:=⟨f,fd,G,b,F.kp,m⟩
theorem jS {X:Cx} {scope:Scope} {fr:List Nat} {sc:Scope} {N:List Str} (h1:X.env.scope=sc) (h2:X.N=N) (h:scope.kind=.function∧(∀ y∈scope.names,y.2≠.cell)∧(∀ y∈scope.names,y.2=.local→scope.names.lookup y.1=some .local)∧
  (∀ y∈scope.names,y.2=.free→sc.names.lookup y.1=some .cell∨sc.names.lookup y.1=some .free)∧∀ j∈fr,scope.names.lookup (N.getD j (Str.ofString ""))=some .free):CompOk X scope fr:=by
 obtain ⟨a,b,c,d,e⟩:=h
 exact ⟨a,b,c,by rw [h1];exact d,by rw [h2];exact e⟩
theorem kc:bootBuiltins "len" = some (.builtin "len"):=by decide +kernel
theorem jd2:bootBuiltins "all" = some (.builtin "all"):=by decide +kernel
theorem zZ:bootBuiltins "sorted" = some (.builtin "sorted"):=by decide +kernel
theorem jav:bootBuiltins "sum" = some (.builtin "sum"):=by decide +kernel
theorem jgj:bootBuiltins "int" = some (.type "int"):=by decide +kernel
theorem jd1:bootBuiltins "tuple" = some (.type "tuple"):=by decide +kernel
theorem YA:bootBuiltins "list" = some (.type "list"):=by decide +kernel
theorem Yz:bootBuiltins "set" = some (.type "set"):=by decide +kernel
structure Free0 (mg:Str→Option Value):Prop where
 len_:mg "len" = none
 max_:mg "max" = none
 min_:mg "min" = none
 all_:mg "all" = none
 isinstance_:mg "isinstance" = none
 abs_:mg "abs" = none
 sorted_:mg "sorted" = none
 int_:mg "int" = none
 str_:mg "str" = none
 bool_:mg "bool" = none
 tuple_:mg "tuple" = none
 list_:mg "list" = none
 dict_:mg "dict" = none
 range_:mg "range" = none
 set_:mg "set" = none
theorem Zw {X:Cx} {K:PySem.W.Frag} (h:X.K=K:=by rfl):IxR X (jgB K):=by subst h;exact jr
theorem qQ {X:Cx} {K:PySem.W.Frag} (h:X.K=K:=by rfl):IxR X (jc3 K):=by subst h;exact jy
structure QS (X:Cx) (st:Stmt) (t:TS):Prop where
 h:PS X st t
structure QSs (X:Cx) (st:List Stmt) (t:TS):Prop where
 h:PSs X st t
theorem qs {X:Cx} {st:Stmt} {t:TS} (h:PS X st t):QS X st t:=⟨h⟩
theorem Zz:∀ {ns:List Int} {its:List Value},Vals (ns.map V.int) its→IntsAre its ns
 | [],_,r=>by cases r;exact .nil
 | n :: ns,_,r=>by
  cases r with
  | cons h r=>
   obtain ⟨t,rfl⟩:=h
   exact .cons n t (Zz r)
theorem JR {X:Cx}:OpR X (binaryOp .Mult) (fun x y H Q=>∃ i j,x=.str i∧y=.int j∧i.length≤16∧0≤j∧j≤1000∧Q (.str (Txt.mul i j)) H):=by
 intro pins s σ H x y v u Q I rx ry h
 obtain ⟨i,j,rfl,rfl,h1,h2,h3,q⟩:=h
 obtain ⟨t,rfl⟩:=rx
 obtain ⟨t',rfl⟩:=ry
 exact SB.mul (mulOk_of 16 1000 h1 (by omega) (by omega) (by decide) (by decide)) fun t' k=>⟨.str (Txt.mul i j),H,I.tok _,⟨_,rfl⟩,q⟩
open PySem PySem.Spec PyProof.Rows PySem.W
end L2
namespace PySem
open Sem (wp)
namespace F
end F
end PySem
namespace L2
open PySem PySem.Spec PyProof.Rows PySem.W
abbrev Up (xs:Array Nat):Prop:=xs.toList.Pairwise (· < ·)
structure TabOk (led:Bool) (t:SetTable):Prop where
 led_:t.led=led
 none_:t.dummies=#[]
 up:Up t.place
theorem jaH {xs:Array Nat} (h:Up xs) {i j:Nat} (hij:i < j) (hj:j < xs.size):xs.getD i 0 < xs.getD j 0:=by
 have hi:i < xs.size:=by omega
 have:=List.pairwise_iff_getElem.mp h i j (by simpa using hi) (by simpa using hj) hij
 simpa [Array.getD,hi,hj] using this
theorem Kf {xs:Array Nat} (h:Up xs) (j:Nat):∀ (f lo hi:Nat),lo≤hi→hi≤xs.size→hi≤lo+f→(∀ i,i < lo→xs.getD i 0 < j)→(∀ i,hi≤i→i < xs.size→j≤xs.getD i 0)→
  (SetTable.below.go xs j f lo hi)≤xs.size∧(∀ i,i < SetTable.below.go xs j f lo hi→xs.getD i 0 < j)∧∀ i,SetTable.below.go xs j f lo hi≤i→i < xs.size→j≤xs.getD i 0
 | 0,lo,hi,h1,h2,h3,a,b=>by
  unfold SetTable.below.go
  exact ⟨by omega,a,fun i hi'=>b i (by omega)⟩
 | f+1,lo,hi,h1,h2,h3,a,b=>by
  unfold SetTable.below.go
  by_cases e:lo < hi
  ·rw [if_pos e]
   dsimp only
   have hm:(lo+hi) / 2 < xs.size:=by omega
   have eg:xs.getD ((lo+hi) / 2) j=xs.getD ((lo+hi) / 2) 0:=by simp [Array.getD,hm]
   rw [eg]
   by_cases c:xs.getD ((lo+hi) / 2) 0 < j
   ·rw [if_pos c]
    refine Kf h j f ((lo+hi) / 2+1) hi (by omega) h2 (by omega) (fun i hi'=>?_) b
    rcases Nat.lt_or_ge i ((lo+hi) / 2) with z | z
    ·exact Nat.lt_trans (jaH h z hm) c
    ·have:i=(lo+hi) / 2:=by omega
     subst this
     exact c
   ·rw [if_neg c]
    refine Kf h j f lo ((lo+hi) / 2) (by omega) (by omega) (by omega) a fun i hi' hs=>?_
    rcases Nat.lt_or_ge ((lo+hi) / 2) i with z | z
    ·exact Nat.le_trans (Nat.le_of_not_lt c) (Nat.le_of_lt (jaH h z hs))
    ·have:i=(lo+hi) / 2:=by omega
     subst this
     exact Nat.le_of_not_lt c
  ·rw [if_neg e]
   exact ⟨by omega,a,fun i hi'=>b i (by omega)⟩
theorem zK {xs:Array Nat} (h:Up xs) (j:Nat):SetTable.below xs j≤xs.size∧(∀ i,i < SetTable.below xs j→xs.getD i 0 < j)∧∀ i,SetTable.below xs j≤i→i < xs.size→j≤xs.getD i 0:=
 Kf h j xs.size 0 xs.size (Nat.zero_le _) (Nat.le_refl _) (by omega) (fun i h=>by omega) fun i h1 h2=>by omega
theorem jeU {xs:Array Nat} {i:Nat} (h:i < xs.size):xs[i]?=some (xs.getD i 0):=by simp [Array.getD,h]
theorem jck {xs:Array Nat} (h:Up xs) {j:Nat} (hj:xs[SetTable.below xs j]?≠some j):Up (SetTable.insertAt xs (SetTable.below xs j) j):=by
 obtain ⟨b1,b2,b3⟩:=zK h j
 unfold Up
 rw [SetTable.toList_insertAt]
 have hd:∀ x∈xs.toList.drop (SetTable.below xs j),j < x:=fun x hx=>by
  obtain ⟨i,hi,rfl⟩:=List.mem_iff_getElem.mp hx
  rw [List.length_drop] at hi
  rw [List.getElem_drop]
  have hs:SetTable.below xs j+i < xs.size:=by simpa using (by omega:SetTable.below xs j+i < xs.toList.length)
  have e:xs.toList[SetTable.below xs j+i]'(by simpa using hs)=xs.getD (SetTable.below xs j+i) 0:=by simp [Array.getD,hs]
  rw [e]
  have ge:=b3 (SetTable.below xs j+i) (by omega) hs
  rcases Nat.lt_or_ge j (xs.getD (SetTable.below xs j+i) 0) with z | z
  ·exact z
  ·have eq:xs.getD (SetTable.below xs j+i) 0=j:=by omega
   rcases Nat.eq_zero_or_pos i with rfl | hp
   ·exact absurd (by rw [Nat.add_zero] at eq hs;rw [jeU hs,eq]) hj
   ·have:=jaH h (i:=SetTable.below xs j) (j:=SetTable.below xs j+i) (by omega) hs
    have:=b3 (SetTable.below xs j) (Nat.le_refl _) (by omega)
    omega
 have ht:∀ x∈xs.toList.take (SetTable.below xs j),x < j:=fun x hx=>by
  obtain ⟨i,hi,rfl⟩:=List.mem_iff_getElem.mp hx
  rw [List.length_take] at hi
  rw [List.getElem_take]
  have hs:i < xs.size:=by simpa using (by omega:i < xs.toList.length)
  have e:xs.toList[i]'(by simpa using hs)=xs.getD i 0:=by simp [Array.getD,hs]
  rw [e]
  exact b2 i (by omega)
 refine List.pairwise_append.mpr ⟨h.sublist (List.take_sublist _ _),List.pairwise_cons.mpr ⟨hd,h.sublist (List.drop_sublist _ _)⟩,fun x hx y hy=>?_⟩
 rcases List.mem_cons.mp hy with rfl | hy
 ·exact ht x hx
 ·exact Nat.lt_trans (ht x hx) (hd y hy)
theorem jfw {led:Bool} {t:SetTable} (h:TabOk led t) {j:Nat} (hj:t.place[SetTable.below t.place j]?≠some j):TabOk led (t.put j).1:=by
 refine ⟨h.led_,?_,jck h.up hj⟩
 unfold SetTable.put
 dsimp only
 rw [h.none_]
 split
 ·simp [SetTable.eraseAt]
 ·rfl
theorem jeR {mask finger moves:Nat} {led plain:Bool} {hashes:Array Int} {t:SetTable} {o:Array Nat} (h:SetTable.laid mask finger moves led plain hashes=some (t,o)):TabOk led t:=by
 unfold SetTable.laid at h
 cases hl:SetTable.layClean mask hashes with
 | none=>rw [hl] at h;cases h
 | some owner=>
  rw [hl] at h
  cases h
  refine ⟨rfl,rfl,?_⟩
  unfold Up
  dsimp only
  have key:∀ l:List Nat,(l.filterMap fun j=>(owner.getD j none).map (fun k=>(j,k))).map (·.1)=l.filter fun j=>(owner.getD j none).isSome:=by
   intro l
   induction l with
   | nil=>rfl
   | cons a l ih=>
    rw [List.filterMap_cons,List.filter_cons]
    cases owner.getD a none with
    | none=>simpa using ih
    | some k=>
     show a :: List.map _ _=_
     rw [ih]
     rfl
  show List.Pairwise _ (List.map _ _)
  rw [key]
  exact List.pairwise_lt_range.sublist List.filter_sublist
abbrev ledOf (w:World):Bool:=!(w.params.followText "set-order")
end L2
namespace PySem
section
variable {prog:Program} {w:World} {A:Around} {E:Value→Shared→Prop} {s:Shared}
theorem Y3 (a:Value) {Q₁:Value→Shared→Prop}
  (h:Q₁ (.ref s.heap.objs.size) { s with heap:=s.heap.push { cls:=.type "set",dict:=none,data:=.set #[] 0 (.fresh 0 0 (L2.ledOf w)) } }) :
  codeAny (model prog w) A (.call (.builtin "set.__new__") ⟨[.type "set",a],[]⟩) (wants Q₁ E) s:=by
 refine codeAny_of_tree ?_
 show wpAny _ A.in1 (do checkBuiltinCall "set.__new__" ⟨[.type "set",a],[]⟩;again (.builtin "set.__new__" ⟨[.type "set",a],[]⟩)) _ _ s
 refine wpAny_bind (wpAny_of_eq (F.newCall_set_1 a) (wpAny_pure ⟨plainId_quiet F.plain_set_new _,codeAny_builtin F.entry_set_new ?_⟩))
 rw [Around.under_plainId F.plain_set_new _]
 unfold Builtin.«set.__new__» Builtin.Frozenset.newClass
 have hsub:=sub_set_self
 obtain ⟨hp,g,d,tk,os⟩:=s
 dsimp only
 wp_walk
 refine wpAny_askSetting (wpAny_pure ?_)
 dsimp only
 simp only [newObj]
 refine wpAny_bind (wpAny_alloc (wpAny_pure ?_))
 exact wpAny_pure h
end
namespace F
theorem slot_seti_next:Slot "set_iterator" "__next__" "set_iterator.__next__":=
 .of (owner:="set_iterator") (n:="__next__") (by rw [typeLookup_type,builtinLookup_eq_fast];kernel_rfl) (by decide +kernel) (by decide +kernel) (by decide +kernel)
  (by first | exact .inl (by decide +kernel) | exact .inr (by decide +kernel)) (by rw [isSubtype_type];kernel_rfl)
theorem entry_seti_next:entryFor table "set_iterator.__next__" = some Builtin.«set_iterator.__next__»:=entryFor_of_tree (by kernel_rfl)
theorem args_seti_next (a:Value):argsOk "set_iterator.__next__" ⟨[a],[]⟩:=by unfold argsOk;kernel_rfl
theorem entry_set_iter':entryFor table "set.__iter__" = some Builtin.«frozenset.__iter__»:=entryFor_alias (id':="frozenset.__iter__") (by kernel_rfl) (by first | rfl | decide +kernel) (by decide +kernel) (by kernel_rfl)
end F
end PySem
namespace L2
open PySem PySem.Spec PyProof.Rows PySem.W
abbrev yg (es:Array (Int×Value)) (ep:Nat) (t:SetTable):Obj:={ cls:=.type "set",dict:=none,data:=.set es ep t }
abbrev KJ (first:Value) (i:Nat) (a:Addr) (n ep:Nat):Obj:={ cls:=.type "set_iterator",data:=.fields #[first,.int i 0,.ref a,.int n 0,.int ep 0] }
def Ka (es:Array (Int×Value)) (t:SetTable):Bool:=!t.plain && decide (es.size > 1)
section
variable {prog:Program} {w:World} {A:Around} {E:Value→Shared→Prop} {s:Shared}
theorem jau {src:Source} {n:Nat} {Q:Nat→Shared→Prop} (hn:n≠0) (h:∀ i d',i < n→Q i { s with drawn:=d' }):wpAny (model prog w) A (choose src n) Q E s:=by
 intro Γ p hΓ
 show Sem.wp _ _ (.choose src n .pure) _ _ _ _
 rw [Sem.wp_choose]
 exact ⟨hn,h _ _ (Nat.mod_lt _ (Nat.pos_of_ne_zero hn))⟩
theorem yk {α:Type}:∀ {l:List α} {i:Nat} {x:α},l[i]?=some x→(x :: l.eraseIdx i).Perm l
 | [],i,x,e=>by simp at e
 | a :: l,0,x,e=>by
  simp at e
  subst e
  exact List.Perm.refl _
 | a :: l,i+1,x,e=>by
  simp at e
  have ih:=yk (l:=l) (i:=i) (x:=x) e
  show (x :: a :: l.eraseIdx i).Perm (a :: l)
  exact (List.Perm.swap a x _).trans (ih.cons a)
theorem Kb {α:Type}:∀ (n:Nat) (xs:List α) (s:Shared) (Q:List α→Shared→Prop),xs.length=n→(∀ ys d',ys.Perm xs→Q ys { s with drawn:=d' })→wpAny (model prog w) A (drawOrder n xs) Q E s
 | 0,xs,s,Q,hl,h=>by
  have:xs=[]:=List.length_eq_zero_iff.mp hl
  subst this
  unfold drawOrder
  exact wpAny_pure (h [] s.drawn (List.Perm.refl _))
 | n+1,[],s,Q,hl,h=>by simp at hl
 | n+1,x :: xs,s,Q,hl,h=>by
  unfold drawOrder
  refine wpAny_bind (jau (by simp) fun i d' hi=>?_)
  have hg:(x :: xs)[i]?=some (x :: xs)[i]:=List.getElem?_eq_getElem hi
  rw [hg]
  dsimp only
  refine wpAny_bind (Kb n _ _ _ (by rw [List.length_eraseIdx,if_pos hi];omega) fun ys d2 hp=>?_)
  exact wpAny_pure (h _ d2 ((hp.cons _).trans (yk hg)))
theorem jbX {α:Type} (next:Nat→Nat) (xs:Array α):(pickOrder next xs).toList.Perm xs.toList:=by
 have key:∀ (f k:Nat) (left:List α) (out:Array α),left.length=f→(pickOrder.go next f k left out).toList.Perm (out.toList++left):=by
  intro f
  induction f with
  | zero=>
   intro k left out h
   have:left=[]:=List.length_eq_zero_iff.mp h
   subst this
   unfold pickOrder.go
   rw [List.append_nil]
  | succ f ih=>
   intro k left out h
   unfold pickOrder.go
   have hm:next k % left.length < left.length:=Nat.mod_lt _ (by omega)
   have hg:left[next k % left.length]?=some (left[next k % left.length]'hm):=List.getElem?_eq_getElem hm
   rw [hg]
   dsimp only
   refine (ih (k+1) _ _ (by rw [List.length_eraseIdx,if_pos hm];omega)).trans ?_
   rw [Array.toList_push,List.append_assoc]
   exact (yk hg).append_left _
 have:=key xs.size 0 xs.toList #[] (by simp)
 simpa [pickOrder] using this
theorem zU {I a:Addr} {first:Value} {i:Nat} {es:Array (Int×Value)} {ep:Nat} {t:SetTable} {Q:Option Value→Shared→Prop} (hI:s.heap.get? I=some (KJ first i a es.size ep)) (ha:s.heap.get? a=some (yg es ep t)) (hf:t.fits es.size=true)
  (h:wpAny (model prog w) A.in1 (if let .int slot _:=first then
   (do match ← setNext a slot.toNat i ep with
    | some (x,next)=>
     setField (.ref I) 0 (rawInt next)
     setField (.ref I) 1 (rawInt ((i:Int)+1))
     ret x
    | none=>setField (.ref I) 2 .none;raiseNew (← newExc (.type "StopIteration") []):Sem Fin)
   else (do
    let some places ← seqItems? first | unsupported "internal:set_iterator"
    match places[i]? with
    | some (.int place _)=>
     let x ← setNextDrawn a place.toNat ep
     setField (.ref I) 1 (rawInt ((i:Int)+1))
     ret x
    | some _=>unsupported "internal:set_iterator"
    | none=>setField (.ref I) 0 (rawInt 0);setField (.ref I) 2 .none;raiseNew (← newExc (.type "StopIteration") []):Sem Fin))
   (fun fin s'=>∃ v,fin=.done (.ret v)∧Q (some v) s') (fun e s'=>∃ c o,e=.ref c∧s'.heap.get? c=some o∧o.cls=.type "StopIteration"∧Q none s') s):wpAny (model prog w) A (pyNext (.ref I)) Q E s:=by
 have hT:s.TypeIs (.ref I) "set_iterator":=⟨_,hI,rfl⟩
 unfold pyNext
 refine wpAny_bind (wpAny_attempt (wpAny_callSpecial?_slot (name:=Str.ofString "__next__") hT F.slot_seti_next
  (wpAny_call_entry F.slot_seti_next hT F.entry_seti_next ?_ (F.args_seti_next _))))
 unfold Builtin.«set_iterator.__next__»
 refine wpAny_bind (wpAny_pure (wpAny_bind (wpAny_fieldsOf hI rfl ?_)))
 dsimp only
 refine wpAny_bind ?_
 unfold setEntries
 refine wpAny_bind (wpAny_setState_of ha rfl hf (wpAny_pure ?_))
 rw [if_neg (by simp)]
 simp only [Int.toNat_natCast]
 refine wpAny_mono h (fun fin s' x=>?_) fun e s' x=>?_
 ·obtain ⟨v,rfl,q⟩:=x
  exact ⟨v,rfl,wpAny_pure q⟩
 ·obtain ⟨c,o,rfl,e1,e2,q⟩:=x
  refine wpAny_bind (wpAny_isInstance (T:="StopIteration") ⟨o,e1,e2⟩ isSubtype_stop ?_)
  rw [if_pos rfl]
  exact wpAny_pure q
def ItSt (w:World) (h:Heap) (I a:Addr) (es:Array (Int×Value)) (ep:Nat) (t:SetTable) (vals:List Value) (i:Nat):Prop:=h.get? a=some (yg es ep t)∧
 ((w.params.followText "set-order" = true∧h.get? I=some (KJ (.int 0 0) i a es.size ep)∧vals=(pickOrder (w.params.setOrder a ep) es).toList.map (·.2))∨
   (w.params.followText "set-order" = false∧∃ (T:Addr) (ps:List Nat),h.get? I=some (KJ (.ref T) i a es.size ep)∧h.get? T=some { cls:=.type "tuple",data:=.seq (ps.map fun (p:Nat)=>rawInt p).toArray }∧T≠I∧(∀ p∈ps,p < es.size)∧vals=ps.map fun p=>(es.getD p (0,.none)).2)∨
   (w.params.followText "set-order" = false∧Ka es t=false∧∃ slot:Nat,h.get? I=some (KJ (.int slot 0) i a es.size ep)∧SetTable.below t.place slot=i∧vals=es.toList.map (·.2)))
theorem K8 {I:Addr} {o:Obj} {vs:Array Value} {k:Nat} {x:Value} {Q:Option Value→Shared→Prop} (hh:A.handled=none) (hI:s.heap.get? I=some o) (hd:o.data=.fields vs) (hk:k < vs.size) (h:∀ h',(∀ b u,b≠I→s.heap.get? b=some u→h'.get? b=some u)→Q none { s with heap:=h' }) :
  wpAny (model prog w) A.in1 (do setField (.ref I) k x;raiseNew (← newExc (.type "StopIteration") []):Sem Fin) (fun fin s'=>∃ v,fin=.done (.ret v)∧Q (some v) s') (fun e s'=>∃ c o,e=.ref c∧s'.heap.get? c=some o∧o.cls=.type "StopIteration"∧Q none s') s:=by
 refine wpAny_bind (wpAny_setField hI hd hk ?_)
 refine wpAny_bind ?_
 simp only [newExc,newTuple]
 refine wpAny_bind (wpAny_newObj_type ?_ (by size_fits))
 refine wpAny_bind (m:=firstArgMember _ _) (wpAny_of_eq (a:=Value.none) (by first | rfl | (simp only [firstArgMember];rfl)) ?_)
 refine wpAny_newObj_type ?_ (by size_fits)
 simp only [raiseNew]
 refine wpAny_bind (wpAny_handled ?_)
 rw [show A.in1.handled=none from hh]
 refine wpAny_bind (wpAny_pure (wpAny_throw ?_))
 refine ⟨_,_,rfl,Heap.get?_push_size _ rfl,rfl,h _ fun b u hb e=>?_⟩
 exact Heap.get?_push_of_some _ (Heap.get?_push_of_some _ ((Heap.get?_update_ne _ _ _ _ hb).trans e))
theorem zu {Q:Bool→Shared→Prop} (h:Q (w.params.followText "set-order") s):wpAny (model prog w) A setsByText Q E s:=by
 unfold setsByText
 exact wpAny_bind (wpAny_askSetting (wpAny_pure h))
theorem Ja {I:Addr} {first:Value} {i:Nat} {a:Addr} {n ep k:Nat} {x:Value} {Q:Unit→Shared→Prop} (hI:s.heap.get? I=some (KJ first i a n ep)) (hk:k < 5)
  (h:∀ h',h'.get? I=some { cls:=.type "set_iterator",data:=.fields (#[first,.int i 0,.ref a,.int n 0,.int ep 0].setIfInBounds k x) }→(∀ b u,b≠I→s.heap.get? b=some u→h'.get? b=some u)→Q () { s with heap:=h' }):wpAny (model prog w) A (setField (.ref I) k x) Q E s:=
 wpAny_setField_rec hI hk fun h' e sb=>h h' e fun b u hb e=>(sb.2 b hb).trans e
theorem jcb {I a:Addr} {es:Array (Int×Value)} {ep:Nat} {t:SetTable} {vals:List Value} {i:Nat} {Q:Option Value→Shared→Prop} (hf:t.fits es.size=true) (ht:TabOk (ledOf w) t) (hIa:a≠I) (hst:ItSt w s.heap I a es ep t vals i) (hi:i < vals.length)
  (h:∀ h',ItSt w h' I a es ep t vals (i+1)→(∀ b u,b≠I→s.heap.get? b=some u→h'.get? b=some u)→Q (some (vals.getD i Value.none)) { s with heap:=h' }):wpAny (model prog w) A (pyNext (.ref I)) Q E s:=by
 obtain ⟨ha,hm⟩:=hst
 rcases hm with ⟨hb,hI,hv⟩ | ⟨hb,T,ps,hI,hT,hTI,hps,hv⟩ | ⟨hb,hd,slot,hI,hs,hv⟩
 ·refine zU hI ha hf ?_
  show wpAny _ _ (setNext a (Int.toNat 0) i ep >>= _) _ _ _
  refine wpAny_bind ?_
  unfold setNext
  refine wpAny_bind (wpAny_setState_of ha rfl hf (wpAny_bind (zu ?_)))
  dsimp only
  rw [hb,if_pos rfl,if_neg (by simp)]
  refine wpAny_bind ?_
  unfold setWalk
  refine wpAny_bind (wpAny_setState_of ha rfl hf (wpAny_bind (zu ?_)))
  rw [hb,if_pos rfl]
  refine wpAny_bind (wpAny_askSetting (wpAny_pure (wpAny_pure ?_)))
  have hg:(pickOrder (w.params.setOrder a ep) es)[i]?=some ((pickOrder (w.params.setOrder a ep) es)[i]'(by rw [hv] at hi;simpa using hi)):=Array.getElem?_eq_getElem _
  have hvi:vals.getD i Value.none=((pickOrder (w.params.setOrder a ep) es)[i]'(by rw [hv] at hi;simpa using hi)).2:=by
   subst hv
   have hi':i < (pickOrder (w.params.setOrder a ep) es).size:=by simpa using hi
   simp [hi']
  show wpAny _ _ (match ((pickOrder (w.params.setOrder a ep) es)[i]?).map fun e=>(e.2,Int.toNat 0) with | some (x,next)=>_ | none=>_) _ _ _
  rw [hg]
  dsimp only [Option.map]
  refine wpAny_bind (Ja hI (by decide) fun h1 e1 k1=>?_)
  refine wpAny_bind (Ja (s:={ s with heap:=h1 }) (first:=.int 0 0) e1 (by decide) fun h2 e2 k2=>wpAny_pure ⟨_,rfl,?_⟩)
  rw [← hvi]
  refine h h2 ⟨k2 _ _ hIa (k1 _ _ hIa ha),.inl ⟨hb,?_,hv⟩⟩ fun b u hb e=>k2 _ _ hb (k1 _ _ hb e)
  exact e2
 ·refine zU hI ha hf ?_
  show wpAny _ _ (seqItems? (.ref T) >>= _) _ _ _
  refine wpAny_bind (wpAny_seqItems hT rfl ?_)
  have hi':i < ps.length:=by rw [hv,List.length_map] at hi;exact hi
  have hg:(List.map (fun (p:Nat)=>rawInt p) ps).toArray[i]?=some (rawInt ps[i]):=by simp [hi']
  dsimp only
  rw [hg]
  have hpl:=hps _ (List.getElem_mem hi')
  show wpAny _ _ (setNextDrawn a (Int.toNat (ps[i]:Nat)) ep >>= _) _ _ _
  rw [Int.toNat_natCast]
  refine wpAny_bind ?_
  unfold setNextDrawn
  refine wpAny_bind (wpAny_setState_of ha rfl hf ?_)
  dsimp only
  rw [if_neg (by simp),Array.getElem?_eq_getElem hpl]
  refine wpAny_pure ?_
  refine wpAny_bind (Ja hI (by decide) fun h1 e1 k1=>wpAny_pure ⟨_,rfl,?_⟩)
  have hvi:vals.getD i Value.none=es[ps[i]].2:=by
   subst hv
   simp [hi',hpl]
  show Q (some es[ps[i]].2) _
  rw [← hvi]
  refine h h1 ⟨k1 _ _ hIa ha,.inr (.inl ⟨hb,T,ps,?_,k1 _ _ hTI hT,hTI,hps,hv⟩)⟩ k1
  exact e1
 ·refine zU hI ha hf ?_
  show wpAny _ _ (setNext a (Int.toNat (slot:Nat)) i ep >>= _) _ _ _
  rw [Int.toNat_natCast]
  refine wpAny_bind ?_
  unfold setNext
  refine wpAny_bind (wpAny_setState_of ha rfl hf (wpAny_bind (zu ?_)))
  dsimp only
  rw [hb,if_neg Bool.false_ne_true]
  have hi':i < es.size:=by rw [hv,List.length_map,Array.length_toList] at hi;exact hi
  have hled:t.led=true:=by rw [ht.led_];unfold ledOf;rw [hb];rfl
  have hpz:t.place.size=es.size:=by
   simp only [SetTable.fits,Bool.and_eq_true,beq_iff_eq] at hf
   exact hf.1
  show wpAny _ _ (if Ka es t=true then _ else _) _ _ _
  rw [hd,if_neg Bool.false_ne_true]
  refine wpAny_bind ?_
  show wpAny _ _ (if (!t.led && !es.isEmpty)=true then _ else _) _ _ _
  rw [hled,if_neg (by simp)]
  refine wpAny_pure (wpAny_pure ?_)
  rw [hs,Array.getElem?_eq_getElem hi',Array.getElem?_eq_getElem (by omega)]
  dsimp only
  refine wpAny_bind (Ja hI (by decide) fun h1 e1 k1=>?_)
  refine wpAny_bind (Ja (s:={ s with heap:=h1 }) (first:=.int ((t.place[i]'(by omega)+1:Nat):Int) 0) e1 (by decide) fun h2 e2 k2=>wpAny_pure ⟨_,rfl,?_⟩)
  have hvi:vals.getD i Value.none=es[i].2:=by
   subst hv
   simp [hi']
  rw [← hvi]
  refine h h2 ⟨k2 _ _ hIa (k1 _ _ hIa ha),.inr (.inr ⟨hb,hd,t.place[i]'(by omega)+1,?_,?_,hv⟩)⟩ fun b u hb e=>k2 _ _ hb (k1 _ _ hb e)
  ·exact e2
  ·obtain ⟨b1,b2,b3⟩:=zK ht.up (t.place[i]'(by omega)+1)
   have eg:t.place.getD i 0=t.place[i]'(by omega):=by
    have hlt:i < t.place.size:=by omega
    simp [Array.getD,hlt]
   have h1:i < SetTable.below t.place (t.place[i]'(by omega)+1):=by
    rcases Nat.lt_or_ge i (SetTable.below t.place (t.place[i]'(by omega)+1)) with z | z
    ·exact z
    ·have:=b3 i z (by omega)
     omega
   rcases Nat.lt_or_ge (i+1) (SetTable.below t.place (t.place[i]'(by omega)+1)) with z | z
   ·have h2:=b2 (i+1) z
    have h3:=jaH ht.up (i:=i) (j:=i+1) (by omega) (by omega)
    omega
   ·omega
theorem jdq {I a:Addr} {es:Array (Int×Value)} {ep:Nat} {t:SetTable} {vals:List Value} {i:Nat} {Q:Option Value→Shared→Prop} (hh:A.handled=none) (hf:t.fits es.size=true) (ht:TabOk (ledOf w) t) (hIa:a≠I) (hst:ItSt w s.heap I a es ep t vals i) (hi:i=vals.length)
  (h:∀ h',(∀ b u,b≠I→s.heap.get? b=some u→h'.get? b=some u)→Q none { s with heap:=h' }):wpAny (model prog w) A (pyNext (.ref I)) Q E s:=by
 obtain ⟨ha,hm⟩:=hst
 rcases hm with ⟨hb,hI,hv⟩ | ⟨hb,T,ps,hI,hT,hTI,hps,hv⟩ | ⟨hb,hd,slot,hI,hs,hv⟩
 ·refine zU hI ha hf ?_
  show wpAny _ _ (setNext a (Int.toNat 0) i ep >>= _) _ _ _
  refine wpAny_bind ?_
  unfold setNext
  refine wpAny_bind (wpAny_setState_of ha rfl hf (wpAny_bind (zu ?_)))
  dsimp only
  rw [hb,if_pos rfl,if_neg (by simp)]
  refine wpAny_bind ?_
  unfold setWalk
  refine wpAny_bind (wpAny_setState_of ha rfl hf (wpAny_bind (zu ?_)))
  rw [hb,if_pos rfl]
  refine wpAny_bind (wpAny_askSetting (wpAny_pure (wpAny_pure ?_)))
  have hg:(pickOrder (w.params.setOrder a ep) es)[i]?=none:=by
   rw [hi,hv]
   simp
  show wpAny _ _ (match ((pickOrder (w.params.setOrder a ep) es)[i]?).map fun e=>(e.2,Int.toNat 0) with | some (x,next)=>_ | none=>_) _ _ _
  rw [hg]
  exact K8 hh hI rfl (by simp) h
 ·refine zU hI ha hf ?_
  show wpAny _ _ (seqItems? (.ref T) >>= _) _ _ _
  refine wpAny_bind (wpAny_seqItems hT rfl ?_)
  have hg:(List.map (fun (p:Nat)=>rawInt p) ps).toArray[i]?=none:=by
   rw [hi,hv]
   simp
  dsimp only
  rw [hg]
  dsimp only
  refine wpAny_bind (Ja hI (by decide) fun h1 e1 k1=>?_)
  exact K8 (s:={ s with heap:=h1 }) hh e1 rfl (by simp) fun h' k=>h h' fun b u hb e=>k _ _ hb (k1 _ _ hb e)
 ·refine zU hI ha hf ?_
  show wpAny _ _ (setNext a (Int.toNat (slot:Nat)) i ep >>= _) _ _ _
  rw [Int.toNat_natCast]
  refine wpAny_bind ?_
  unfold setNext
  refine wpAny_bind (wpAny_setState_of ha rfl hf (wpAny_bind (zu ?_)))
  dsimp only
  rw [hb,if_neg Bool.false_ne_true]
  have hled:t.led=true:=by rw [ht.led_];unfold ledOf;rw [hb];rfl
  show wpAny _ _ (if Ka es t=true then _ else _) _ _ _
  rw [hd,if_neg Bool.false_ne_true]
  refine wpAny_bind ?_
  show wpAny _ _ (if (!t.led && !es.isEmpty)=true then _ else _) _ _ _
  rw [hled,if_neg (by simp)]
  refine wpAny_pure (wpAny_pure ?_)
  have hg:es[i]?=none:=by
   rw [hi,hv]
   simp
  rw [hs,hg]
  dsimp only
  exact K8 hh hI rfl (by simp) h
end
section
variable {prog:Program} {w:World} {A:Around} {E:Value→Shared→Prop} {s:Shared}
theorem ItSt.kept {h h':Heap} {I a:Addr} {es:Array (Int×Value)} {ep:Nat} {t:SetTable} {vals:List Value} {i:Nat} (x:ItSt w h I a es ep t vals i) (k:∀ b o,h.get? b=some o→o.cls≠.type "list"→h'.get? b=some o):ItSt w h' I a es ep t vals i:=by
 obtain ⟨ha,hm⟩:=x
 refine ⟨k _ _ ha (by simp),?_⟩
 rcases hm with ⟨hb,hI,hv⟩ | ⟨hb,T,ps,hI,hT,r⟩ | ⟨hb,hd,slot,hI,r⟩
 ·exact .inl ⟨hb,k _ _ hI (by simp),hv⟩
 ·exact .inr (.inl ⟨hb,T,ps,k _ _ hI (by simp),k _ _ hT (by simp),r⟩)
 ·exact .inr (.inr ⟨hb,hd,slot,k _ _ hI (by simp),r⟩)
theorem jdz {a:Addr} {es:Array (Int×Value)} {ep:Nat} {t:SetTable} {Q:Value→Shared→Prop} (ha:s.heap.get? a=some (yg es ep t)) (hf:t.fits es.size=true) (ht:TabOk (ledOf w) t) (hz:es.size≤1000)
  (h:∀ I h' d' vals,s.heap.objs.size≤I→ItSt w h' I a es ep t vals 0→vals.Perm (es.toList.map (·.2))→(∀ b o,s.heap.get? b=some o→h'.get? b=some o)→Q (.ref I) { s with heap:=h',drawn:=d' }):wpAny (model prog w) A (pyIter (.ref a)) Q E s:=by
 have hT:s.TypeIs (.ref a) "set":=⟨_,ha,rfl⟩
 refine wpAny_pyIter_slot hT PySem.F.slot_set_iter (wpAny_call_entry PySem.F.slot_set_iter hT PySem.F.entry_set_iter' ?_ (PySem.F.args_set_iter_1 _))
 unfold Builtin.«frozenset.__iter__»
 refine wpAny_bind (wpAny_pure (wpAny_bind ?_))
 unfold Builtin.Frozenset.sizeOf setEntries
 refine wpAny_bind (wpAny_bind (wpAny_setState_of ha rfl hf (wpAny_pure (wpAny_pure ?_))))
 refine wpAny_bind ?_
 unfold setDrawn
 refine wpAny_bind (wpAny_setState_of ha rfl hf (wpAny_bind (zu (wpAny_pure ?_))))
 dsimp only
 show wpAny _ _ (if (!(w.params.followText "set-order") && Ka es t)=true then _ else _) _ _ _
 have fin:∀ (first:Value) (s1:Shared) (vals:List Value),s1.heap.get? a=some (yg es ep t)→vals.Perm (es.toList.map (·.2))→(∀ b o,s.heap.get? b=some o→s1.heap.get? b=some o)→s1.gens=s.gens→s1.toks=s.toks→s1.os=s.os→s.heap.objs.size≤s1.heap.objs.size→
   (∀ h' I,(∀ b o,s1.heap.get? b=some o→h'.get? b=some o)→s1.heap.objs.size=I→h'.get? I=some (KJ first 0 a es.size ep)→ItSt w h' I a es ep t vals 0)→
   wpAny (model prog w) A.in1 (do let e ← setEpoch a;let i ← newFields "set_iterator" [first,rawInt 0,.ref a,rawInt es.size,rawInt e];ret i) (fun fin s'=>∃ v,fin=Fin.done (Flow.ret v)∧∃ T' r,s'.TypeIs v T'∧typeLookup (.type T') "__next__" = pure (some r)∧Q v s') E s1:=by
  intro first s1 vals h1 hp hk eg et eo hle hst
  refine wpAny_bind (wpAny_setEpoch_of h1 rfl hf ?_)
  refine wpAny_bind (wpAny_newObj_type (wpAny_pure ⟨_,rfl,"set_iterator",_,⟨_,Heap.get?_push_size _ rfl,rfl⟩,PySem.F.slot_seti_next.lookup,?_⟩))
  obtain ⟨hp1,g1,d1,t1,o1⟩:=s1
  dsimp only at eg et eo
  subst eg et eo
  exact h _ _ d1 vals hle (hst _ _ (fun b o e=>Heap.get?_push_of_some _ e) rfl (Heap.get?_push_size _ rfl)) hp fun b o e=>Heap.get?_push_of_some _ (hk b o e)
 cases hb:w.params.followText "set-order" with
 | true=>
  rw [if_neg (by simp)]
  refine wpAny_bind (wpAny_pure ?_)
  refine fin (rawInt 0) s ((pickOrder (w.params.setOrder a ep) es).toList.map (·.2)) ha ((jbX _ _).map _) (fun _ _ e=>e) rfl rfl rfl (Nat.le_refl _) fun h' I k _ hI=>?_
  exact ⟨k _ _ ha,.inl ⟨hb,hI,rfl⟩⟩
 | false=>
  cases hd:Ka es t with
  | true=>
   rw [if_pos (by simp)]
   refine wpAny_bind (Kb es.size (List.range es.size) s _ (by simp) fun ps d' hp=>?_)
   refine wpAny_bind (wpAny_newObj_type ?_ (by show (List.map _ ps).length≤_;rw [List.length_map,hp.length_eq,List.length_range];exact Nat.le_of_lt (jx hz)))
   have hps:∀ p∈ps,p < es.size:=fun p h=>List.mem_range.mp (hp.mem_iff.mp h)
   have hvp:(ps.map fun p=>(es.getD p (0,.none)).2).Perm (es.toList.map (·.2)):=by
    have h1:=hp.map fun p=>(es.getD p (0,.none)).2
    have e:((List.range es.size).map fun p=>(es.getD p (0,Value.none)).2)=es.toList.map (·.2):=by
     apply List.ext_getElem
     ·simp
     ·intro i h1 h2
      have hi:i < es.size:=by simpa using h1
      simp [hi]
    rw [e] at h1
    exact h1
   have lt:∀ o:Obj,s.heap.objs.size < (s.heap.push o).objs.size:=fun o=>by rw [size_push'];exact Nat.lt_succ_self _
   refine fin (.ref s.heap.objs.size) _ (ps.map fun p=>(es.getD p (0,.none)).2) (Heap.get?_push_of_some _ ha) hvp (fun b o e=>Heap.get?_push_of_some _ e) rfl rfl rfl (Nat.le_of_lt (lt _)) fun h' I k eI hI=>?_
   refine ⟨k _ _ (Heap.get?_push_of_some _ ha),.inr (.inl ⟨hb,s.heap.objs.size,ps,hI,k _ _ (Heap.get?_push_size _ rfl),?_,hps,rfl⟩)⟩
   rw [← eI]
   exact Nat.ne_of_lt (lt _)
  | false=>
   rw [if_neg (by simp)]
   refine wpAny_bind (wpAny_pure ?_)
   refine fin (rawInt 0) s (es.toList.map (·.2)) ha (List.Perm.refl _) (fun _ _ e=>e) rfl rfl rfl (Nat.le_refl _) fun h' I k _ hI=>?_
   refine ⟨k _ _ ha,.inr (.inr ⟨hb,hd,0,hI,?_,rfl⟩)⟩
   obtain ⟨b1,b2,b3⟩:=zK ht.up 0
   rcases Nat.eq_zero_or_pos (SetTable.below t.place 0) with z | z
   ·exact z
   ·exact absurd (b2 0 z) (Nat.not_lt_zero _)
theorem ZH {S I a:Addr} {es:Array (Int×Value)} {ep:Nat} {t:SetTable} {vals:List Value} {res:Value} {R:Result→Shared→Prop} (hh:A.handled=none) (hf:t.fits es.size=true) (ht:TabOk (ledOf w) t) (hIa:a≠I) (hSI:S≠I) (hz:vals.length≤1000) :
  ∀ (k i:Nat) (s:Shared) (c:Nat),i+k=vals.length→ItSt w s.heap I a es ep t vals i→s.heap.get? S=some { cls:=.type "list",dict:=none,data:=.seq (vals.take i).toArray c,slots:=#[] }→
   (∀ h' c',h'.get? S=some { cls:=.type "list",dict:=none,data:=.seq vals.toArray c',slots:=#[] }→(∀ b o,b≠S→b≠I→s.heap.get? b=some o→h'.get? b=some o)→R (.ok (.ret res)) { s with heap:=h' })→
   codeAny (model prog w) A (.builtin "list.extend.loop" ⟨[.ref S,.ref I,res],[]⟩) R s:=by
 intro k
 induction k with
 | zero=>
  intro i s c hk hst hS hR
  have hi:i=vals.length:=by omega
  refine codeAny_builtin PySem.F.entry_extend_loop ?_
  rw [Around.under_plainId PySem.F.plain_extend_loop _]
  show wpAny _ A.in1 (pyNext (.ref I) >>= _) _ _ s
  refine wpAny_bind (jdq (A:=A.in1) hh hf ht hIa hst hi fun h1 k1=>?_)
  refine wpAny_pure ?_
  rw [hi,List.take_length] at hS
  exact hR h1 c (k1 _ _ hSI hS) fun b o _ hb e=>k1 _ _ hb e
 | succ k ih=>
  intro i s c hk hst hS hR
  have hi:i < vals.length:=by omega
  refine codeAny_builtin PySem.F.entry_extend_loop ?_
  rw [Around.under_plainId PySem.F.plain_extend_loop _]
  show wpAny _ A.in1 (pyNext (.ref I) >>= _) _ _ s
  refine wpAny_bind (jcb (A:=A.in1) hf ht hIa hst hi fun h1 st1 k1=>?_)
  dsimp only
  have hS1:=k1 _ _ hSI hS
  refine wpAny_bind ?_
  show wpAny _ _ (updateSeq S (·.push (vals.getD i Value.none))) _ _ _
  refine wpAny_updateSeq hS1 rfl ?_ (by simp only [List.size_toArray,List.length_take];exact Nat.le_of_lt (jx (by omega))) (by simp only [Array.size_push,List.size_toArray,List.length_take];exact Nat.le_succ_of_le (Nat.le_of_lt (jx (by omega))))
  refine wpAny_pure ⟨plainId_quiet PySem.F.plain_extend_loop _,?_⟩
  obtain ⟨c2,hS2⟩:∃ c2,(h1.update S (Obj.mapSeq (·.push (vals.getD i Value.none)))).get? S=some (seqObj "list" ((vals.take i).toArray.push (vals.getD i Value.none)) c2):=⟨_,get?_update_seq hS1 _⟩
  have oth:∀ b o,b≠S→h1.get? b=some o→(h1.update S (Obj.mapSeq (·.push (vals.getD i Value.none)))).get? b=some o:=fun b o hb e=>(Heap.get?_update_other _ _ (Ne.symm hb)).trans e
  have et:((vals.take i).toArray.push (vals.getD i Value.none))=(vals.take (i+1)).toArray:=by
   rw [List.take_succ,List.getElem?_eq_getElem hi]
   simp [hi]
  rw [et] at hS2
  refine ih (i+1) _ c2 (by omega) (st1.kept fun b o e hc=>oth b o (fun z=>?_) e) hS2 fun h' c' e1 e2=>hR h' c' e1 fun b o hb hb2 e=>e2 b o hb hb2 (oth b o hb (k1 _ _ hb2 e))
  rw [z,hS1] at e
  cases e
  exact hc rfl
end
open PySem PySem.Spec PySem.Calls PyProof.Rows PySem.W
section
variable {prog:Program} {w:World} {A:Around} {E:Value→Shared→Prop} {s:Shared}
theorem jdB {r:Addr} {Q:Bool→Shared→Prop} (hT:s.TypeIs (.ref r) "set") (h:Q false s):wpAny (model prog w) A (Builtin.List.listLengthHint (.ref r)) Q E s:=by
 unfold Builtin.List.listLengthHint
 refine wpAny_bind (wpAny_specialOf hT PySem.F.slot_set_len.lookup ?_)
 generalize hid:("set.__len__" : String)=id0
 wp_delta
 rw [show splitId id0=some ("set","__len__") from by subst hid;decide +kernel]
 subst hid
 refine wpAny_bind (wpAny_isInstance (T:="set") (b:=true) hT (by rw [isSubtype_type];kernel_rfl) ?_)
 refine wpAny_ite_split (fun hab=>absurd hab (by decide)) (fun _=>?_)
 refine wpAny_ite_split (fun _=>?_) (fun hab=>absurd (by decide +kernel) hab)
 exact wpAny_bind (wpAny_typeOf hT (wpAny_pure h))
theorem ZL {a:Addr} {es:Array (Int×Value)} {ep:Nat} {t:SetTable} {R:List Value→Shared→Prop} (hh:A.handled=none) (ha:s.heap.get? a=some (yg es ep t)) (hf:t.fits es.size=true) (ht:TabOk (ledOf w) t) (hz:es.size≤1000)
  (h:∀ h' d' vals,vals.Perm (es.toList.map (·.2))→(∀ b o,s.heap.get? b=some o→h'.get? b=some o)→R vals { s with heap:=h',drawn:=d' }):wpAny (model prog w) A (collect (.ref a)) R E s:=by
 have haS:a < s.heap.objs.size:=Heap.lt_size ha
 unfold collect
 refine wpAny_bind (wpAny_runValue (codeAny_builtin entry_proto_collect' ?_))
 rw [Around.under_plainId PySem.F.plain_proto_collect _]
 show wpAny _ A.in1 (newList [] >>= fun l=>again (.builtin "list.__iadd__" ⟨[l,.ref a],[]⟩)) _ _ s
 refine wpAny_bind (wpAny_newObj_type ?_)
 refine wpAny_pure ⟨plainId_quiet PySem.F.plain_list_iadd _,codeAny_builtin entry_list_iadd' ?_⟩
 rw [Around.under_plainId PySem.F.plain_list_iadd _]
 show wpAny _ A.in1 (Builtin.List.listExtendWith (.ref s.heap.objs.size) (.ref a) (.ref s.heap.objs.size)) _ _ _
 have hS:(s.heap.push { cls:=.type "list",data:=.seq ([]:List Value).toArray }).get? s.heap.objs.size=some { cls:=.type "list",data:=.seq #[] }:=Heap.get?_push_size _ rfl
 have ha1:(s.heap.push { cls:=.type "list",data:=.seq ([]:List Value).toArray }).get? a=some (yg es ep t):=Heap.get?_push_of_some _ ha
 have old1:∀ b o,s.heap.get? b=some o→(s.heap.push { cls:=.type "list",data:=.seq ([]:List Value).toArray }).get? b=some o:=fun b o e=>Heap.get?_push_of_some _ e
 have sz1:s.heap.objs.size < (s.heap.push { cls:=.type "list",data:=.seq ([]:List Value).toArray }).objs.size:=Heap.lt_size hS
 generalize (s.heap.push { cls:=.type "list",data:=.seq ([]:List Value).toArray })=h1 at *
 unfold Builtin.List.listExtendWith
 refine wpAny_bind (wpAny_typeOf (T:="set") ⟨_,ha1,rfl⟩ ?_)
 have e1:Builtin.List.listSameRef (.ref s.heap.objs.size) (.ref a)=false:=by
  have:s.heap.objs.size≠a:=Nat.ne_of_gt haS
  simp [Builtin.List.listSameRef,this]
 rw [if_neg (by rw [e1];decide)]
 refine wpAny_bind (jdz (A:=A.in1) (s:={ s with heap:=h1 }) ha1 hf ht hz fun I h2 d2 vals hI st hp old2=>?_)
 have ha2:=old2 _ _ ha1
 have hS2:=old2 _ _ hS
 have hSI:s.heap.objs.size≠I:=Nat.ne_of_lt (Nat.lt_of_lt_of_le sz1 hI)
 have hIa:a≠I:=Nat.ne_of_lt (Nat.lt_of_lt_of_le (Nat.lt_trans haS sz1) hI)
 have hvz:vals.length≤1000:=by
  rw [hp.length_eq,List.length_map,Array.length_toList]
  exact hz
 refine wpAny_bind (wpAny_holding (jdB ⟨_,ha2,rfl⟩ ?_))
 refine wpAny_ite_split (fun _=>?_) (fun _=>?_)
 ·refine wpAny_bind (wpAny_rule (wpAny_bind ?_))
  show wpAny _ _ (updateSeq s.heap.objs.size (·.push .none) >>= fun _=>updateSeq s.heap.objs.size (·.pop)) _ _ _
  refine wpAny_bind (wpAny_updateSeq hS2 rfl ?_ (by decide) (by show 1≤sizeLine+1;omega))
  obtain ⟨c3,hS3⟩:∃ c3,(h2.update s.heap.objs.size (Obj.mapSeq (·.push Value.none))).get? s.heap.objs.size=some (seqObj "list" (#[].push Value.none) c3):=⟨_,get?_update_seq hS2 _⟩
  refine wpAny_updateSeq hS3 rfl ?_ (by show 1≤sizeLine;rw [sizeLine_eq];decide) (by show 0≤sizeLine+1;omega)
  obtain ⟨c4,hS4⟩:∃ c4,((h2.update s.heap.objs.size (Obj.mapSeq (·.push Value.none))).update s.heap.objs.size (Obj.mapSeq (·.pop))).get? s.heap.objs.size=some (seqObj "list" ((#[].push Value.none).pop) c4):=⟨_,get?_update_seq hS3 _⟩
  have oth:∀ b o,b≠s.heap.objs.size→h2.get? b=some o→((h2.update s.heap.objs.size (Obj.mapSeq (·.push Value.none))).update s.heap.objs.size (Obj.mapSeq (·.pop))).get? b=some o:=fun b o hb e=>(Heap.get?_update_other _ _ (Ne.symm hb)).trans ((Heap.get?_update_other _ _ (Ne.symm hb)).trans e)
  refine wpAny_pure ⟨plainId_quiet PySem.F.plain_extend_loop _,ZH hh hf ht hIa hSI hvz vals.length 0 _ c4 (by omega) (st.kept fun b o e hc=>oth b o (fun z=>?_) e) hS4 fun h' c' e k=>?_⟩
  ·rw [z,hS2] at e
   cases e
   exact hc rfl
  ·show wpAny _ A (load s.heap.objs.size >>= _) _ _ _
   refine wpAny_bind (wpAny_load e (wpAny_pure ?_))
   refine h h' d2 vals hp fun b o q=>?_
   have hb:=Heap.lt_size q
   exact k b o (Nat.ne_of_lt hb) (Nat.ne_of_lt (Nat.lt_of_lt_of_le (Nat.lt_trans hb sz1) hI)) (oth b o (Nat.ne_of_lt hb) (old2 _ _ (old1 _ _ q)))
 ·refine wpAny_pure ⟨plainId_quiet PySem.F.plain_extend_loop _,ZH hh hf ht hIa hSI hvz vals.length 0 _ _ (by omega) st hS2 fun h' c' e k=>?_⟩
  show wpAny _ A (load s.heap.objs.size >>= _) _ _ _
  refine wpAny_bind (wpAny_load e (wpAny_pure ?_))
  refine h h' d2 vals hp fun b o q=>?_
  have hb:=Heap.lt_size q
  exact k b o (Nat.ne_of_lt hb) (Nat.ne_of_lt (Nat.lt_of_lt_of_le (Nat.lt_trans hb sz1) hI)) (old2 _ _ (old1 _ _ q))
end
theorem Inv.drawn {X:Cx} {pins:List (Addr×Obj)} {σ:St} {H:Hp} {s:Shared} {h':Heap} {d':Drawn} (I:Inv X pins σ H s) (k:∀ b u,s.heap.get? b=some u→h'.get? b=some u):Inv X pins σ H { s with heap:=h',drawn:=d' }:=
 I.call (g':=s.gens) (t':=s.toks) (d':=d') (ch:=[]) (Un.kept k) (I.hok.kept k) I.bare fun _ z=>nomatch z
theorem Ky {X:Cx}:OpR X (compareOp .IsNot) (fun x y H Q=>∃ i j,x=.bl i∧y=.bl j∧Q (.bl (!(i == j))) H):=by
 intro pins s σ H x y v u Q I rx ry h
 obtain ⟨i,j,rfl,rfl,q⟩:=h
 cases rx;cases ry
 refine wpAny_isNot_plain rfl ?_
 have e:(!(Value.bool i == Value.bool j))=!(i == j):=by cases i <;> cases j <;> rfl
 rw [e]
 exact ⟨.bl (!(i == j)),H,I,rfl,q⟩
theorem jcq {X:Cx} {scope:Scope} {own:List Str} {fr:List Nat} {elt tg iter:Expr} {ifs:List Expr} {pos:Pos} {wi:TI} {g:TG} {tt:TT} {te:TE} {use:Option (Value→Sem Unit)} (hc:X.calm=true) (O:CompOk X scope fr) (hi:PI X tg iter wi)
  (hb:∀ s H ex,PG (blk X scope own fr s H ex) tg g∧PTs (blk X scope own fr s H ex) ifs tt∧PE (blk X scope own fr s H ex) elt te)
  (hs:∀ x,foldedSetIterable iter X.env x=pure x) {pins:List (Addr×Obj)} {s:Shared} {σ:St} {H:Hp} {Q:VK} {R:Value→Shared→Prop} (I:Inv X pins σ H s) (h:Jj own fr wi g tt te σ H Q) (hx:∀ e s',X.xe e s'↔False)
  (fin:∀ (p C:Addr) (H':Hp) (s':Shared) (m:Str→Option Value),s'.heap.Ns C m→H' C=none→C≠X.env.locals→(∀ x c,X.env.cells.lookup x=some c→c≠C)→X.s₀.heap.objs.size≤C→(∀ p∈X.pn++pins,p.1≠C)→Inv X pins σ H' s'→(∀ h',Heap.SameBut C s'.heap h'→Inv X pins σ H' { s' with heap:=h' })→Q (.ref p) H'→
   compPost (model X.prog X.w) X.A X.xe use R (.ref p) C (.ok .next) s') :
  wpAny (model X.prog X.w) X.A (comprehension (.ListComp elt [⟨tg,iter,ifs,0⟩] scope pos) scope X.env (firstIterPos [⟨tg,iter,ifs,0⟩] pos) (newList []) false (eval iter X.env) use) R X.xe s:=by
 have hsome:∀ x∈scope.names,x.2=.free→(X.env.cells.lookup x.1).isSome=true:=fun x hx' e=>by
  obtain ⟨c,hc⟩:=I.ok.has x.1 (O.frees x hx' e)
  rw [hc];rfl
 have no:∀ (E:Value→Shared→Prop) (x:Value) (s':Shared),X.xe x s'→E x s':=fun E x s' z=>((hx x s').mp z).elim
 refine wpAny_comprehension_free (cl:=zz X.env.cells scope.names []) rfl hs (ym hsome) O.kind O.loc ?_
 refine thn (hi pins s σ H _ I h) fun v s1 h1=>thn h1 fun itv s2 h2=>?_
 obtain ⟨it,fp,tn,J,H2,e,I2,T,st2,f2,q2⟩:=h2
 subst e
 refine wpAny_newObj_type ?_
 have nw:H2 s2.heap.objs.size=none:=I2.fresh
 obtain ⟨W,⟨m0,w0⟩,turn⟩:=q2 _ nw
 generalize hp:s2.heap.objs.size=p at *
 have I3:Inv X pins σ (upd H2 p (.lst [])) { s2 with heap:=s2.heap.push { cls:=.type "list",dict:=none,data:=.seq ([]:List Value).toArray } }:=by
  have:=I2.lnew (ys:=[]) (its:=[]) (t':=s2.toks) .nil (Nat.zero_le _)
  rw [hp] at this
  exact this
 have lt2:∀ b∈fp,b < s2.heap.objs.size:=fun b hb=>by
  obtain ⟨o,ho,_⟩:=T.obj _ _ st2 b hb
  exact Heap.lt_size ho
 have fpn:∀ b∈fp,(upd H2 p (.lst [])) b=none:=fun b hb=>by
  rw [jm (by rw [← hp];exact Nat.ne_of_lt (lt2 b hb))]
  exact (f2 b hb).1
 generalize hs3:({ s2 with heap:=s2.heap.push { cls:=.type "list",dict:=none,data:=.seq ([]:List Value).toArray } }:Shared)=s3 at *
 have sz3:s3.heap.objs.size=p+1:=by
  rw [← hs3]
  show (s2.heap.push _).objs.size=_
  rw [Heap.size_push,hp]
 have st3:tn 0 s3.heap:=T.keep 0 _ _ st2 fun b hb o e=>by
  rw [← hs3]
  exact Heap.get?_push_of_some _ e
 refine wpAny_newFunctionEnv O.nocell (by intro y hy;simp at hy) (fun h4 hns4 hsb4=>?_) O.kind
 have k4:∀ b o,s3.heap.get? b=some o→h4.get? b=some o:=fun b o e=>hsb4.extBut b o (Nat.ne_of_lt (Heap.lt_size e)) (Heap.get?_push_of_some _ e)
 have hns4':h4.Ns s3.heap.objs.size fun _=>none:=by
  have z:(fun x:Str=>([]:List (Str×Value)).reverse.lookup x)=fun _=>none:=by funext x;rfl
  rw [z] at hns4
  exact hns4
 have fo:∀ b∈fp,yU X pins (upd H2 p (.lst [])) b∧b < s3.heap.objs.size:=fun b hb=>⟨⟨fpn b hb,(f2 b hb).2⟩,by rw [sz3,← hp];exact Nat.lt_succ_of_lt (lt2 b hb)⟩
 have I4:=Yo (own:=own) (fr:=fr) (t1:=s3.toks+([]:List (Str×Value)).length) I3 O fo hns4' k4
 have st4:tn 0 h4:=T.keep 0 _ _ st3 fun b hb o e=>k4 b o e
 obtain ⟨hg,ht,he⟩:=hb s3 (upd H2 p (.lst [])) fp
 have stat:∀ {H':Hp} {pn:List (Addr×Obj)} {s':Shared} {σ':St},Inv (blk X scope own fr s3 (upd H2 p (.lst [])) fp) [] σ' H' s'→(∀ b∈fp,H' b=none)→∀ b∈fp,yU (blk X scope own fr s3 (upd H2 p (.lst [])) fp) [] H' b:=fun {H' pn s' σ'} J hn b hb'=>
  ⟨hn b hb',(J.ok.exf b hb').1,J.ok.exfs b hb',.inl hb',(J.ok.exf b hb').2,fun p hp=>absurd hp (by simp [blk])⟩
 have nocells:∀ x c,X.env.cells.lookup x=some c→c≠s3.heap.objs.size:=fun x c e=>by
  obtain ⟨v,q⟩:=I3.cell x c e
  exact Nat.ne_of_lt q.lt
 have loop:∀ s5:Shared,s5={ s3 with heap:=h4,toks:=s3.toks+([]:List (Str×Value)).length }→
   codeAny (model X.prog X.w) X.A (.compLoop (.ListComp elt [⟨tg,iter,ifs,0⟩] scope pos) 0 (.ref it) (.ref p) (blk X scope own fr s3 (upd H2 p (.lst [])) fp).env) (compPost (model X.prog X.w) X.A X.xe use R (.ref p) s3.heap.objs.size) s5:=by
  rintro s5 rfl
  refine yQ (fun n s'=>∃ i σ' H',Inv (blk X scope own fr s3 (upd H2 p (.lst [])) fp) [] σ' H' s'∧tn i s'.heap∧(∀ b∈fp,H' b=none)∧W i n σ' H') ?_ m0 ⟨0,_,_,I4,st4,fpn,w0⟩
  rintro n s6 ⟨i,σ6,H6,I6,st6,fr6,w6⟩
  rcases turn i n σ6 H6 w6 with ⟨stop,qn⟩ | ⟨go,N,hN,step⟩
  ·refine thn (T.done (blk X scope own fr s3 (upd H2 p (.lst [])) fp) rfl rfl rfl hc i [] s6 σ6 H6 _ I6 (stat (pn:=[]) I6 fr6) st6 stop) fun r s7 ⟨hr,I7⟩=>?_
   subst hr
   obtain ⟨m,hm,_⟩:=I7.loc
   exact fin p _ H6 s7 m hm I7.free (Nat.ne_of_gt I3.lt) nocells I3.sz (fun p hp=>Nat.ne_of_lt (Heap.lt_size (I3.pin p hp).1)) (zd I3 fo I7 (Heap.SameBut.refl ..)) (fun h' hs'=>zd I3 fo I7 hs') qn
  ·refine thn (T.item (blk X scope own fr s3 (upd H2 p (.lst [])) fp) rfl rfl rfl hc i [] s6 σ6 H6 _ I6 (stat (pn:=[]) I6 fr6) st6 go) fun r s7 ⟨u,hr,h7⟩=>?_
   subst hr
   refine thn h7 fun _ s8 ⟨x,H8,I8,r8,y8,st8,fr8⟩=>?_
   have I8':=I8.pinned (stat (pn:=[]) I8 fr8) (T.obj _ _ st8)
   refine thn (hg _ s8 σ6 H8 x u _ I8' r8 (step x H8 y8)) fun _ s9 ⟨σ9,H9,I9,q9⟩=>?_
   refine thn (ht _ s9 σ9 H9 _ I9 q9) fun ok s10 ⟨H10,I10,q10⟩=>?_
   have again:∀ {H11:Hp} {s11:Shared},Inv (blk X scope own fr s3 (upd H2 p (.lst [])) fp) ([]++zg fp s8.heap) σ9 H11 s11→(∃ m',m' < n∧W (i+1) m' σ9 H11)→
     ∃ m,m < n∧∃ i σ' H',Inv (blk X scope own fr s3 (upd H2 p (.lst [])) fp) [] σ' H' s11∧tn i s11.heap∧(∀ b∈fp,H' b=none)∧W i m σ' H':=fun {H11 s11} I11 ⟨m',hm,w11⟩=>by
    refine ⟨m',hm,i+1,σ9,H11,I11.unpinned,T.keep _ _ _ st8 fun b hb' o e=>(I11.pin (b,o) (List.mem_append_right _ (List.mem_append_right _ (kr hb' e)))).1,fun b hb'=>?_,w11⟩
    obtain ⟨o,e,d⟩:=T.obj _ _ st8 b hb'
    exact (I11.pin (b,o) (List.mem_append_right _ (List.mem_append_right _ (kr hb' e)))).2.1
   cases ok with
   | false=>
    rw [if_neg Bool.false_ne_true] at q10 ⊢
    exact again I10 (hN _ _ q10)
   | true=>
    rw [if_pos rfl] at q10 ⊢
    refine thn (he _ s10 σ9 H10 _ I10 q10) fun yv s11 ⟨y,H11,I11,r11,ys,hys,hlen,q11⟩=>?_
    have ap:=jO (X:=blk X scope own fr s3 (upd H2 p (.lst [])) fp) ([]++zg fp s8.heap) s11 σ9 H11 (.ref p) [y] (.ref p) [yv] (fun _ H12=>∃ m',m' < n∧W (i+1) m' σ9 H12) I11 rfl (.cons r11 .nil) ⟨p,ys,y,rfl,rfl,hys,hlen,hN _ _ q11⟩
    exact thn ap fun _ s12 ⟨_,H12,I12,_,q12⟩=>again I12 q12
 refine codeAny_compStart_list (loop _ rfl) (T.self X.A 0 _ _ _ st4 (loop _ rfl))
theorem Z5 {X:Cx} {scope:Scope} {elt tg iter:Expr} {ifs:List Expr} {pos:Pos} {wi:TI} {g:TG} {tt:TT} {te:TE} {i:Nat} {y:Str} {py spos:Pos} (hN:X.N.Nodup) (hi':X.N[i]?=some y) (hy:Loc X.env.scope y) (own:List Str) (fr:List Nat) (hc:X.calm=true) (O:CompOk X scope fr) (hi:PI X.nox tg iter wi)
  (hb:∀ s H ex,PG (blk X.nox scope own fr s H ex) tg g∧PTs (blk X.nox scope own fr s H ex) ifs tt∧PE (blk X.nox scope own fr s H ex) elt te)
  (hs:∀ x,foldedSetIterable iter X.env x=pure x:=by intro _;rfl)
  (hsw:swapsWith (.ListComp elt [⟨tg,iter,ifs,0⟩] scope pos) (some (.Name y py)) spos.line X.env=pure true:=by rfl)
  (hf:X.fn y=true∨X.env.scope.names.lookup y=some .local:=by first | exact .inl rfl | exact .inr rfl | assumption) :
  PS X.nox (.Assign [.Name y py] (.ListComp elt [⟨tg,iter,ifs,0⟩] scope pos) spos) (K7 (Jj own fr wi g tt te) (j4 i)):=by
 intro pins s σ H D I h
 rw [exec_Assign_Name_used _ _ _ _ hsw]
 refine wpAny_bind (wpAny_standAt (wpAny_bind ?_))
 show wpAny _ _ (do let _ ← comprehension (.ListComp elt [⟨tg,iter,ifs,0⟩] scope pos) scope X.nox.env _ (newList []) false (eval iter X.nox.env) (some (assign (.Name y py) X.nox.env))) _ _ s
 refine wpAny_bind (wpAny_mono (jcq (X:=X.nox) (use:=some (assign (.Name y py) X.nox.env)) (R:=fun _ s'=>SP X.nox pins D .next s') hc ⟨O.kind,O.nocell,O.loc,O.frees,O.fr⟩ hi hb hs I h (fun _ _=>Iff.rfl)
  fun p C H' s' m hm hC hL hcs hz hpn I' back q=>?_) (fun _ s' hq=>wpAny_pure (wpAny_pure hq)) fun _ _ e=>e)
 show wpAny _ _ (assign (.Name y py) X.nox.env (.ref p)) _ _ _
 refine wpAny_assign_Name (yX (v:=.ref p) I' hN hi' hy rfl (fun s2 I2 hsb=>?_) hf)
 obtain ⟨a,hsa,ha⟩:=hsb
 have hCa:C≠a:=by
  rcases ha with rfl | e
  ·exact hL
  ·exact fun z=>hcs _ _ e z.symm
 refine ⟨m,hm.sameBut hsa hCa,fun h' hs'=>?_⟩
 exact ⟨_,H',I2.turned (t':=s2.toks) (fun b o hb e=>(hs'.2 b hb).trans e) hC hL (.inr hz) hcs hpn,q⟩
section
variable {X:Cx} {pins:List (Addr×Obj)} {σ:St} {H:Hp} {s:Shared} {tg:Expr}
theorem Inv.relabel {a:Addr} {u v:HO} (I:Inv X pins σ H s) (hu:H a=some u) (h1:∀ xs,u≠.tup xs) (h2:∀ ps,u≠.tbl ps) (h3:∀ o z,X.H₀ a≠some (.frz o z)) (h4:∀ x,u≠.own x) (hv:ObjOk X.prog X.w (upd H a v) s.heap a v):Inv X pins σ (upd H a v) s:=by
 have ne:∀ b,H b=none→b≠a:=fun b n z=>by rw [z,hu] at n;cases n
 have nt:∀ b xs,H b=some (.tup xs)→b≠a:=fun b xs n z=>by rw [z,hu] at n;exact h1 xs (Option.some.inj n)
 have no:∀ b x,H b=some (.own x)→b≠a:=fun b x n z=>by rw [z,hu] at n;exact h4 x (Option.some.inj n)
 refine ⟨I.ok,I.os,I.bare,⟨I.base.keep,I.base.slot,fun b o e n hx=>?_,I.base.there,fun b xs e=>?_,fun b o z e=>?_,fun b ps e=>?_⟩,I.loc,I.cell,?_,fun x c e=>?_,fun p hp=>?_,fun b o e=>?_,I.len⟩
 ·have q:=I.base.free b o e n hx
  rw [jm (ne b q)];exact q
 ·have q:=I.base.tups b xs e
  rw [jm (nt b xs q)];exact q
 ·have hb:b≠a:=fun z'=>by subst z';exact h3 _ _ e
  rw [jm hb]
  exact I.base.frzs b o z e
 ·obtain ⟨m,q⟩:=I.base.tbls b ps e
  have hb:b≠a:=fun z'=>by rw [z',hu] at q;exact h2 _ (Option.some.inj q)
  exact ⟨m,by rw [jm hb];exact q⟩
 ·rw [jm (ne _ I.free)];exact I.free
 ·rw [jm (ne _ (I.freeC x c e))];exact I.freeC x c e
 ·obtain ⟨q1,q2,q3⟩:=I.pin p hp
  exact ⟨q1,by rw [jm (ne _ q2)];exact q2,q3⟩
 ·by_cases hb:b=a
  ·subst hb
   rw [jd] at e
   cases e
   exact hv
  ·rw [jm hb] at e
   exact (I.hok b o e).stay (fun _ _ _ q=>q) (fun c q=>by rw [jm (no c _ q)];exact q) fun c xs q=>by rw [jm (nt c xs q)];exact q
end
end L2
namespace PySem
open AutoSeq1 (wpAny_loadPart')
end PySem
namespace L2
open PySem PySem.Spec PyProof.Rows
open PySem PySem.Spec PyProof.Rows PySem.W
mutual
def dEq:D→D→Bool
 | .int i,.int j=>i == j
 | .str x,.str y=>x == y
 | .tup a,.tup b=>dEqL a b
 | _,_=>false
def dEqL:List D→List D→Bool
 | [],[]=>true
 | a :: as,b :: bs=>dEq a b && dEqL as bs
 | _,_=>false
end
mutual
theorem jP:∀ {a b:D},dEq a b=true↔a=b
 | .int i,.int j=>by unfold dEq;rw [beq_iff_eq];exact ⟨(fun h=>by rw [h]),(fun h=>by injection h)⟩
 | .str i,.str j=>by unfold dEq;rw [beq_iff_eq];exact ⟨(fun h=>by rw [h]),(fun h=>by injection h)⟩
 | .tup a,.tup b=>by unfold dEq;rw [dEqL_iff];exact ⟨(fun h=>by rw [h]),(fun h=>by injection h)⟩
 | .int i,.str j=>by unfold dEq;exact ⟨(fun h=>by cases h),(fun h=>by cases h)⟩
 | .int i,.tup j=>by unfold dEq;exact ⟨(fun h=>by cases h),(fun h=>by cases h)⟩
 | .str i,.int j=>by unfold dEq;exact ⟨(fun h=>by cases h),(fun h=>by cases h)⟩
 | .str i,.tup j=>by unfold dEq;exact ⟨(fun h=>by cases h),(fun h=>by cases h)⟩
 | .tup i,.int j=>by unfold dEq;exact ⟨(fun h=>by cases h),(fun h=>by cases h)⟩
 | .tup i,.str j=>by unfold dEq;exact ⟨(fun h=>by cases h),(fun h=>by cases h)⟩
theorem dEqL_iff:∀ {a b:List D},dEqL a b=true↔a=b
 | [],[]=>by unfold dEqL;exact ⟨(fun _=>rfl),(fun _=>rfl)⟩
 | a :: as,b :: bs=>by
  unfold dEqL
  rw [Bool.and_eq_true,jP,dEqL_iff]
  exact ⟨(fun h=>by rw [h.1,h.2]),(fun h=>by injection h with h1 h2;exact ⟨h1,h2⟩)⟩
 | [],b :: bs=>by unfold dEqL;exact ⟨(fun h=>by cases h),(fun h=>by cases h)⟩
 | a :: as,[]=>by unfold dEqL;exact ⟨(fun h=>by cases h),(fun h=>by cases h)⟩
end
instance:DecidableEq D:=fun a b=>if h:dEq a b=true then isTrue (jP.mp h) else isFalse fun e=>h (jP.mpr e)
theorem jbt (a b:D):dEq a b=decide (a=b):=by
 apply Bool.eq_iff_iff.mpr
 rw [jP,decide_eq_true_iff]
theorem Kc (a b:List D):dEqL a b=decide (a=b):=by
 apply Bool.eq_iff_iff.mpr
 rw [dEqL_iff,decide_eq_true_iff]
mutual
theorem yM {H:Hp}:∀ {d d':D} {v:V},Held H d v→Held H d' v→d=d'
 | .int i,.int j,v,h,h'=>by unfold Held at h h';subst h;injection h' with h';rw [h']
 | .str i,.str j,v,h,h'=>by unfold Held at h h';subst h;injection h' with h';rw [h']
 | .tup a,.tup b,v,h,h'=>by
  unfold Held at h h'
  obtain ⟨p,xs,rfl,e,h⟩:=h
  obtain ⟨p',xs',e0,e',h'⟩:=h'
  injection e0 with e0
  subst e0
  rw [e] at e'
  injection e' with e'
  injection e' with e'
  subst e'
  rw [heldL_inj h h']
 | .int i,.str j,v,h,h'=>by unfold Held at h h';subst h;cases h'
 | .int i,.tup j,v,h,h'=>by unfold Held at h h';subst h;obtain ⟨p,xs,e,_⟩:=h';cases e
 | .str i,.int j,v,h,h'=>by unfold Held at h h';subst h;cases h'
 | .str i,.tup j,v,h,h'=>by unfold Held at h h';subst h;obtain ⟨p,xs,e,_⟩:=h';cases e
 | .tup i,.int j,v,h,h'=>by unfold Held at h h';subst h';obtain ⟨p,xs,e,_⟩:=h;cases e
 | .tup i,.str j,v,h,h'=>by unfold Held at h h';subst h';obtain ⟨p,xs,e,_⟩:=h;cases e
theorem heldL_inj {H:Hp}:∀ {d d':List D} {v:List V},HeldL H d v→HeldL H d' v→d=d'
 | [],[],_,_,_=>rfl
 | a :: as,b :: bs,v,h,h'=>by
  unfold HeldL at h h'
  obtain ⟨u,r,rfl,h1,h2⟩:=h
  obtain ⟨u',r',e,h1',h2'⟩:=h'
  injection e with e1 e2
  subst e1 e2
  rw [yM h1 h1',heldL_inj h2 h2']
 | [],b :: bs,v,h,h'=>by unfold HeldL at h h';subst h;obtain ⟨u',r',e,_⟩:=h';cases e
 | a :: as,[],v,h,h'=>by unfold HeldL at h h';subst h';obtain ⟨u',r',e,_⟩:=h;cases e
end
theorem zH:∀ (a b:List D),((List.range (min a.length b.length)).all (fun j=>dEq (a.getD j (.int 0)) (b.getD j (.int 0))) && a.length == b.length)=dEqL a b:=by
 intro a b
 apply Bool.eq_iff_iff.mpr
 rw [dEqL_iff,Bool.and_eq_true,List.all_eq_true,beq_iff_eq]
 constructor
 ·rintro ⟨h1,h2⟩
  apply List.ext_getElem h2
  intro j hj hj'
  have:=h1 j (List.mem_range.mpr (by omega))
  rw [jP] at this
  simpa [hj,hj'] using this
 ·rintro rfl
  exact ⟨fun j _=>jP.mpr rfl,rfl⟩
section
variable {X:Cx} {pins:List (Addr×Obj)} {σ:St} {H:Hp} {s:Shared}
theorem jbp (I:Inv X pins σ H s):∀ (n:Nat) (A:Around) (d d':D) (x y:V) (u v:Value),d.depth≤n→A.units+n < cLine→Held H d x→Held H d' y→RelV x u→RelV y v→SeqAt.EqAt A s u v (dEq d d'):=by
 intro n
 induction n with
 | zero=>
  intro A d d' x y u v hd hA hx hy ru rv
  have hA':A.units < cLine:=by omega
  cases d with
  | int i=>
   unfold Held at hx;subst hx
   obtain ⟨t,rfl⟩:=ru
   cases d' with
   | int j=>
    unfold Held at hy;subst hy
    obtain ⟨t',rfl⟩:=rv
    unfold dEq
    exact SeqAt.EqAt.int_int i t j t'
   | str j=>
    unfold Held at hy;subst hy
    obtain ⟨t',rfl⟩:=rv
    unfold dEq
    exact SeqAt.EqAt.int_str i t j t'
   | tup ds=>
    unfold Held at hy
    obtain ⟨b,ys,rfl,hb,_⟩:=hy
    cases rv
    obtain ⟨its,_,tb,_⟩:=I.tuple (SqT.of hb)
    unfold dEq
    exact SeqAt.EqAt.int_tuple i t (show s.heap.IsTuple b its.toArray from tb) hA'
  | str i=>
   unfold Held at hx;subst hx
   obtain ⟨t,rfl⟩:=ru
   cases d' with
   | int j=>
    unfold Held at hy;subst hy
    obtain ⟨t',rfl⟩:=rv
    unfold dEq
    exact SeqAt.EqAt.str_int i t j t'
   | str j=>
    unfold Held at hy;subst hy
    obtain ⟨t',rfl⟩:=rv
    unfold dEq
    exact SeqAt.EqAt.str_str i t j t'
   | tup ds=>
    unfold Held at hy
    obtain ⟨b,ys,rfl,hb,_⟩:=hy
    cases rv
    obtain ⟨its,_,tb,_⟩:=I.tuple (SqT.of hb)
    unfold dEq
    exact SeqAt.EqAt.str_tuple i t (show s.heap.IsTuple b its.toArray from tb) hA'
  | tup ds=>unfold D.depth at hd;omega
 | succ n ih=>
  intro A d d' x y u v hd hA hx hy ru rv
  have hA':A.units < cLine:=by omega
  cases d with
  | int i=>exact ih A (.int i) d' x y u v (by unfold D.depth;omega) (by omega) hx hy ru rv
  | str z=>exact ih A (.str z) d' x y u v (by unfold D.depth;omega) (by omega) hx hy ru rv
  | tup ds=>
   have hx0:=hx
   unfold Held at hx
   obtain ⟨a,xs,rfl,ha,hxs⟩:=hx
   cases ru
   obtain ⟨its,rva,ta,_⟩:=I.tuple (SqT.of ha)
   cases d' with
   | int j=>
    unfold Held at hy;subst hy
    obtain ⟨t',rfl⟩:=rv
    unfold dEq
    exact SeqAt.EqAt.tuple_int j t' (show s.heap.IsTuple a its.toArray from ta) hA'
   | str j=>
    unfold Held at hy;subst hy
    obtain ⟨t',rfl⟩:=rv
    unfold dEq
    exact SeqAt.EqAt.tuple_str j t' (show s.heap.IsTuple a its.toArray from ta) hA'
   | tup ds'=>
    have hy0:=hy
    unfold Held at hy
    obtain ⟨b,ys,rfl,hb,hys⟩:=hy
    cases rv
    by_cases hab:a=b
    ·subst hab
     rw [jP.mpr (yM hx0 hy0)]
     exact SeqAt.EqAt.same _
    ·obtain ⟨its2,rvb,tb,_⟩:=I.tuple (SqT.of hb)
     refine SeqAt.EqAt.of_refs hab ?_
     have l1:=hxs.length
     have l2:=hys.length
     have l3:=rva.length
     have l4:=rvb.length
     have key:=SeqAt.RcAt.tuples (A:=A) (s:=s) (e:=fun j=>dEq (ds.getD j (.int 0)) (ds'.getD j (.int 0))) (show s.heap.IsTuple a its.toArray from ta) (show s.heap.IsTuple b its2.toArray from tb) (by omega) (fun j h1 h2=>by
      have hj:j < ds.length:=by
       have:j < its.length:=by simpa using h1
       omega
      have hj':j < ds'.length:=by
       have:j < its2.length:=by simpa using h2
       omega
      have ej:ds[j]?=some ds[j]:=List.getElem?_eq_getElem hj
      obtain ⟨x',hx',gx⟩:=hxs.get ej
      obtain ⟨y',hy',gy⟩:=hys.get (List.getElem?_eq_getElem hj')
      obtain ⟨u',hu',ru'⟩:=rva.get hx'
      obtain ⟨v',hv',rv'⟩:=rvb.get hy'
      have eu:its.toArray[j]=u':=by
       have:=(List.getElem?_eq_some_iff.mp hu').2
       simpa using this
      have ev:its2.toArray[j]=v':=by
       have:=(List.getElem?_eq_some_iff.mp hv').2
       simpa using this
      rw [eu,ev]
      unfold D.depth at hd
      have g1:ds.getD j (.int 0)=ds[j]:=by simp [hj]
      have g2:ds'.getD j (.int 0)=ds'[j]:=by simp [hj']
      rw [g1,g2]
      exact ih A.in1 ds[j] ds'[j] x' y' u' v' (by have:=D.depthL_get ej;omega) (by show A.units+1+n < cLine;omega) gx gy ru' rv')
     have e:((List.range (min its.toArray.size its2.toArray.size)).all (fun j=>dEq (ds.getD j (.int 0)) (ds'.getD j (.int 0))) && its.toArray.size == its2.toArray.size)=dEqL ds ds':=by
      have e1:its.toArray.size=ds.length:=by simp;omega
      have e2:its2.toArray.size=ds'.length:=by simp;omega
      rw [e1,e2]
      exact zH ds ds'
     rw [e] at key
     unfold dEq
     exact key
theorem yl (I:Inv X pins σ H s) {n:Nat} {A:Around} {ds ds':List D} {xs ys:List V} {its its2:List Value} (hd:D.depthL ds≤n) (hA:A.units+n < cLine) (hxs:HeldL H ds xs) (hys:HeldL H ds' ys) (rva:Vals xs its) (rvb:Vals ys its2) :
  ∀ j (h1:j < its.toArray.size) (h2:j < its2.toArray.size),SeqAt.EqAt A s its.toArray[j] its2.toArray[j] (dEq (ds.getD j (.int 0)) (ds'.getD j (.int 0))):=fun j h1 h2=>by
 have l1:=hxs.length
 have l2:=hys.length
 have l3:=rva.length
 have l4:=rvb.length
 have hj:j < ds.length:=by
  have:j < its.length:=by simpa using h1
  omega
 have hj':j < ds'.length:=by
  have:j < its2.length:=by simpa using h2
  omega
 have ej:ds[j]?=some ds[j]:=List.getElem?_eq_getElem hj
 obtain ⟨x',hx',gx⟩:=hxs.get ej
 obtain ⟨y',hy',gy⟩:=hys.get (List.getElem?_eq_getElem hj')
 obtain ⟨u',hu',ru'⟩:=rva.get hx'
 obtain ⟨v',hv',rv'⟩:=rvb.get hy'
 have eu:its.toArray[j]=u':=by
  have:=(List.getElem?_eq_some_iff.mp hu').2
  simpa using this
 have ev:its2.toArray[j]=v':=by
  have:=(List.getElem?_eq_some_iff.mp hv').2
  simpa using this
 rw [eu,ev]
 have g1:ds.getD j (.int 0)=ds[j]:=by simp [hj]
 have g2:ds'.getD j (.int 0)=ds'[j]:=by simp [hj']
 rw [g1,g2]
 exact jbp I n A ds[j] ds'[j] x' y' u' v' (by have:=D.depthL_get ej;omega) hA gx gy ru' rv'
theorem ja6 (n:Nat) (hu:X.A.units+1+n < cLine):OpR X (compareOp .Eq) (fun x y H Q=>∃ a b xs ys ds ds',x=.ref a∧y=.ref b∧H a=some (.tup xs)∧H b=some (.tup ys)∧D.depthL ds≤n∧HeldL H ds xs∧HeldL H ds' ys∧Q (.bl (decide (ds=ds'))) H):=by
 intro pins s σ H x y v u Q I rx ry h
 obtain ⟨a,b,xs,ys,ds,ds',rfl,rfl,ha,hb,hd,hxs,hys,q⟩:=h
 cases rx;cases ry
 obtain ⟨its,rva,ta,_⟩:=I.tuple (SqT.of ha)
 obtain ⟨its2,rvb,tb,_⟩:=I.tuple (SqT.of hb)
 have l1:=hxs.length
 have l2:=hys.length
 have l3:=rva.length
 have l4:=rvb.length
 have key:=SeqAt.RcAt.tuples (A:=X.A) (s:=s) (e:=fun j=>dEq (ds.getD j (.int 0)) (ds'.getD j (.int 0))) (show s.heap.IsTuple a its.toArray from ta) (show s.heap.IsTuple b its2.toArray from tb) (by omega) (yl I (A:=X.A.in1) hd (by show X.A.units+1+n < cLine;exact hu) hxs hys rva rvb)
 have e:((List.range (min its.toArray.size its2.toArray.size)).all (fun j=>dEq (ds.getD j (.int 0)) (ds'.getD j (.int 0))) && its.toArray.size == its2.toArray.size)=decide (ds=ds'):=by
  have e1:its.toArray.size=ds.length:=by simp;omega
  have e2:its2.toArray.size=ds'.length:=by simp;omega
  rw [e1,e2,zH,Kc]
 rw [e] at key
 exact key X.prog X.w X.xe _ ⟨.bl (decide (ds=ds')),H,I,rfl,q⟩
theorem Jz (n:Nat) (hu:X.A.units+1+n < cLine):OpR X (compareOp .NotEq) (fun x y H Q=>∃ a b xs ys ds ds',x=.ref a∧y=.ref b∧H a=some (.tup xs)∧H b=some (.tup ys)∧D.depthL ds≤n∧HeldL H ds xs∧HeldL H ds' ys∧Q (.bl (!decide (ds=ds'))) H):=by
 intro pins s σ H x y v u Q I rx ry h
 obtain ⟨a,b,xs,ys,ds,ds',rfl,rfl,ha,hb,hd,hxs,hys,q⟩:=h
 cases rx;cases ry
 obtain ⟨its,rva,ta,_⟩:=I.tuple (SqT.of ha)
 obtain ⟨its2,rvb,tb,_⟩:=I.tuple (SqT.of hb)
 have l1:=hxs.length
 have l2:=hys.length
 have l3:=rva.length
 have l4:=rvb.length
 have key:=SeqAt.RcNeAt.tuples (A:=X.A) (s:=s) (e:=fun j=>dEq (ds.getD j (.int 0)) (ds'.getD j (.int 0))) (show s.heap.IsTuple a its.toArray from ta) (show s.heap.IsTuple b its2.toArray from tb) (by omega) (yl I (A:=X.A.in1) hd (by show X.A.units+1+n < cLine;exact hu) hxs hys rva rvb)
 have e:(!((List.range (min its.toArray.size its2.toArray.size)).all (fun j=>dEq (ds.getD j (.int 0)) (ds'.getD j (.int 0))) && its.toArray.size == its2.toArray.size))=!decide (ds=ds'):=by
  have e1:its.toArray.size=ds.length:=by simp;omega
  have e2:its2.toArray.size=ds'.length:=by simp;omega
  rw [e1,e2,zH,Kc]
 rw [e] at key
 exact key X.prog X.w X.xe _ ⟨.bl (!decide (ds=ds')),H,I,rfl,q⟩
theorem je4 {ds ds':List D} (h:ds.length=ds'.length):((List.range ds.length).all fun j=>dEq (ds.getD j (.int 0)) (ds'.getD j (.int 0)))=decide (ds=ds'):=by
 have:=zH ds ds'
 rw [← h,Nat.min_self,beq_self_eq_true,Bool.and_true,Kc] at this
 exact this
theorem jeD (n:Nat) (hu:X.A.units+1+n < cLine):OpR X (compareOp .Eq) (fun x y H Q=>∃ a b xs ys ds ds',x=.ref a∧y=.ref b∧H a=some (.lst xs)∧H b=some (.lst ys)∧D.depthL ds≤n∧HeldL H ds xs∧HeldL H ds' ys∧Q (.bl (decide (ds=ds'))) H):=by
 intro pins s σ H x y v u Q I rx ry h
 obtain ⟨a,b,xs,ys,ds,ds',rfl,rfl,ha,hb,hd,hxs,hys,q⟩:=h
 cases rx;cases ry
 obtain ⟨its,rva,ta,_⟩:=I.list (SqL.of ha)
 obtain ⟨its2,rvb,tb,_⟩:=I.list (SqL.of hb)
 have l1:=hxs.length
 have l2:=hys.length
 have l3:=rva.length
 have l4:=rvb.length
 have e1:its.toArray.size=ds.length:=by simp;omega
 have e2:its2.toArray.size=ds'.length:=by simp;omega
 by_cases hl:ds.length=ds'.length
 ·have key:=SeqAt.RcAt.lists (A:=X.A) (s:=s) (e:=fun j=>dEq (ds.getD j (.int 0)) (ds'.getD j (.int 0))) ta.isList tb.isList (by rw [e1,e2,hl]) (by omega) (yl I (A:=X.A.in1) hd (by show X.A.units+1+n < cLine;exact hu) hxs hys rva rvb)
  rw [e1,je4 hl] at key
  exact key X.prog X.w X.xe _ ⟨.bl (decide (ds=ds')),H,I,rfl,q⟩
 ·have key:=SeqAt.RcAt.lists_lengths (A:=X.A) (s:=s) ta.isList tb.isList (by rw [e1,e2];simpa using hl) (by omega)
  rw [decide_eq_false (fun z=>hl (by rw [z]))] at q
  exact key X.prog X.w X.xe _ ⟨.bl false,H,I,rfl,q⟩
end
def LikeV (K:PySem.W.Frag) (H:Hp):Nat→V→V→Prop
 | 0,x,y=>(∃ i,x=.int i∧y=.int i)∨∃ z,x=.str z∧y=.str z
 | n+1,x,y=>LikeV K H n x y∨
  (∃ a b xs ys,x=.ref a∧y=.ref b∧SqT K H a xs∧SqT K H b ys∧xs.length=ys.length∧∀ (j:Nat) x' y',xs[j]?=some x'→ys[j]?=some y'→LikeV K H n x' y')∨
  ∃ a b xs ys,x=.ref a∧y=.ref b∧SqL K H a xs∧SqL K H b ys∧xs.length=ys.length∧∀ (j:Nat) x' y',xs[j]?=some x'→ys[j]?=some y'→LikeV K H n x' y'
theorem Zs {K:PySem.W.Frag} {H:Hp} (i:Int):∀ n,LikeV K H n (.int i) (.int i)
 | 0=>.inl ⟨i,rfl,rfl⟩
 | n+1=>.inl (Zs i n)
theorem Zr {K:PySem.W.Frag} {H:Hp} (z:Str):∀ n,LikeV K H n (.str z) (.str z)
 | 0=>.inr ⟨z,rfl,rfl⟩
 | n+1=>.inl (Zr z n)
theorem LikeV.up {K:PySem.W.Frag} {H:Hp} {n m:Nat} {x y:V} (h:LikeV K H n x y) (hm:n≤m):LikeV K H m x y:=by
 induction hm with
 | refl=>exact h
 | step _ ih=>exact .inl ih
section
variable {X:Cx} {pins:List (Addr×Obj)} {σ:St} {H:Hp} {s:Shared}
theorem K5 {xs ys:List V} {its its2:List Value} {A:Around} (hl:xs.length=ys.length) (rva:Vals xs its) (rvb:Vals ys its2) (h:∀ (j:Nat) x' y' u' v',xs[j]?=some x'→ys[j]?=some y'→RelV x' u'→RelV y' v'→SeqAt.EqAt A s u' v' true) :
  ∀ j (h1:j < its.toArray.size) (h2:j < its2.toArray.size),SeqAt.EqAt A s its.toArray[j] its2.toArray[j] true:=fun j h1 h2=>by
 have l3:=rva.length
 have h1':j < its.length:=by simpa using h1
 have hx':xs[j]?=some (xs[j]'(by omega)):=List.getElem?_eq_getElem (by omega)
 have hy':ys[j]?=some (ys[j]'(by omega)):=List.getElem?_eq_getElem (by omega)
 obtain ⟨u',hu',ru'⟩:=rva.get hx'
 obtain ⟨v',hv',rv'⟩:=rvb.get hy'
 have eu:its.toArray[j]=u':=by
  have:=(List.getElem?_eq_some_iff.mp hu').2
  simpa using this
 have ev:its2.toArray[j]=v':=by
  have:=(List.getElem?_eq_some_iff.mp hv').2
  simpa using this
 rw [eu,ev]
 exact h j _ _ u' v' hx' hy' ru' rv'
theorem zV (I:Inv X pins σ H s):∀ (n:Nat) (A:Around) (x y:V) (u v:Value),A.units+n < cLine→LikeV X.K H n x y→RelV x u→RelV y v→SeqAt.EqAt A s u v true
 | 0,A,x,y,u,v,hA,h,ru,rv=>by
  rcases h with ⟨i,rfl,rfl⟩ | ⟨z,rfl,rfl⟩
  ·obtain ⟨t,rfl⟩:=ru
   obtain ⟨t',rfl⟩:=rv
   have:=SeqAt.EqAt.int_int (A:=A) (s:=s) i t i t'
   rw [beq_self_eq_true] at this
   exact this
  ·obtain ⟨t,rfl⟩:=ru
   obtain ⟨t',rfl⟩:=rv
   have:=SeqAt.EqAt.str_str (A:=A) (s:=s) z t z t'
   rw [beq_self_eq_true] at this
   exact this
 | n+1,A,x,y,u,v,hA,h,ru,rv=>by
  rcases h with h | ⟨a,b,xs,ys,rfl,rfl,ha,hb,hl,hj⟩ | ⟨a,b,xs,ys,rfl,rfl,ha,hb,hl,hj⟩
  ·exact zV I n A x y u v (by omega) h ru rv
  ·cases ru;cases rv
   by_cases hab:a=b
   ·subst hab;exact SeqAt.EqAt.same _
   ·obtain ⟨its,rva,ta,_⟩:=I.tuple ha
    obtain ⟨its2,rvb,tb,_⟩:=I.tuple hb
    refine SeqAt.EqAt.of_refs hab ?_
    have l3:=rva.length
    have l4:=rvb.length
    have key:=SeqAt.RcAt.tuples (A:=A) (s:=s) (e:=fun _=>true) (show s.heap.IsTuple a its.toArray from ta) (show s.heap.IsTuple b its2.toArray from tb) (by omega) (K5 hl rva rvb fun j x' y' u' v' e1 e2 r1 r2=>zV I n A.in1 x' y' u' v' (by show A.units+1+n < cLine;omega) (hj j x' y' e1 e2) r1 r2)
    have e:((List.range (min its.toArray.size its2.toArray.size)).all (fun _=>true) && its.toArray.size == its2.toArray.size)=true:=by
     have:its.toArray.size=its2.toArray.size:=by simp;omega
     rw [this];simp
    rw [e] at key
    exact key
  ·cases ru;cases rv
   by_cases hab:a=b
   ·subst hab;exact SeqAt.EqAt.same _
   ·obtain ⟨its,rva,ta,_⟩:=I.list ha
    obtain ⟨its2,rvb,tb,_⟩:=I.list hb
    refine SeqAt.EqAt.of_refs hab ?_
    have l3:=rva.length
    have l4:=rvb.length
    have key:=SeqAt.RcAt.lists (A:=A) (s:=s) (e:=fun _=>true) ta.isList tb.isList (by simp;omega) (by omega) (K5 hl rva rvb fun j x' y' u' v' e1 e2 r1 r2=>zV I n A.in1 x' y' u' v' (by show A.units+1+n < cLine;omega) (hj j x' y' e1 e2) r1 r2)
    have e:(List.range its.toArray.size).all (fun _=>true)=true:=by simp
    rw [e] at key
    exact key
end
section
variable {prog:Program} {w:World} {A:Around} {E:Value→Shared→Prop} {s:Shared}
theorem jd0 {t b:Addr} {vs ws:List Value} {Q:Value→Shared→Prop} (ht:IsTup s.heap t vs.toArray) (hb:IsTup s.heap b ws.toArray) (hv:vs=[]) (h:Q (.ref b) s):wpAny (model prog w) A (binaryOp .Add (.ref t) (.ref b)) Q E s:=by
 obtain ⟨⟨cls,dd,data,sl⟩,ho,hc,n,hd⟩:=id ht
 obtain ⟨⟨cls2,dd2,data2,sl2⟩,ho2,hc2,n2,hd2⟩:=id hb
 simp only at hc hd hc2 hd2
 subst hc hd hc2 hd2
 exact concat_meets ⟨_,ho,rfl⟩ ⟨_,ho2,rfl⟩ noFill_tuple_add seq_tuple_add PySem.F.slot_tuple_add PySem.F.entry_tuple_add (PySem.F.args_tuple_add_2 _ _)
   (tuple_addW0 t b vs.toArray ws.toArray n n2 dd dd2 sl sl2 (by simp [hv])) ⟨ho,ho2,h⟩
end
def jfs:R2:=fun x y H Q=>∃ a b xs ys,x=.ref a∧y=.ref b∧H a=some (.tup xs)∧H b=some (.tup ys)∧xs.length+ys.length≤sizeLine∧∀ p H',Same H H'→H' p=some (.tup (xs++ys))→Q (.ref p) H'
theorem jdm {X:Cx}:OpR X (binaryOp .Add) jfs:=by
 intro pins s σ H x y v u Q I rx ry h
 obtain ⟨a,b,xs,ys,rfl,rfl,ha,hb,hz,q⟩:=h
 by_cases hx:xs=[]
 ·cases rx
  cases ry
  obtain ⟨its,r1,p1,_⟩:=I.tuple (SqT.of ha)
  obtain ⟨its2,r2,p2,_⟩:=I.tuple (SqT.of hb)
  subst hx
  exact jd0 p1 p2 (r1.nil_iff.mpr rfl) ⟨.ref b,H,I,rfl,q b H (Same.refl _) hb⟩
 ·refine jeE pins s σ H (.ref a) (.ref b) v u Q I rx ry ⟨a,b,xs,ys,rfl,rfl,SqT.of ha,SqT.of hb,hx,hz,fun hy=>q a H (Same.refl _) (by rw [hy,List.append_nil];exact ha),fun _ p hp=>q p _ (fun c o e=>by rw [jm (js e hp)];exact e) jd⟩
def jfb (t:TS):TS:=fun D σ H=>∃ J:St→Hp→Prop,t { D with nx:=J } σ H∧∀ σ' H',J σ' H'→D.nx σ' H'
theorem jer {X:Cx} {st:Stmt} {t:TS} (h:PS X st t):PS X st (jfb t):=by
 intro pins s σ H D I q
 obtain ⟨J,q,k⟩:=q
 refine thn (h pins s σ H _ I q) fun f s1 q1=>?_
 cases f with
 | next=>
  obtain ⟨σ',H',I',e⟩:=q1
  exact ⟨σ',H',I',k _ _ e⟩
 | cont=>exact q1
 | brk=>exact q1
 | ret v=>exact q1
end L2
namespace LW
open PySem L2
mutual
theorem jbl {H H':Hp} (e:∀ b xs,H b=some (.tup xs)→H' b=some (.tup xs)):∀ {d:D} {v:V},Held H d v→Held H' d v
 | .int i,v,h=>by unfold Held at h ⊢;exact h
 | .str x,v,h=>by unfold Held at h ⊢;exact h
 | .tup ds,v,h=>by
  unfold Held at h ⊢
  obtain ⟨a,xs,e1,e2,e3⟩:=h
  exact ⟨a,xs,e1,e a _ e2,heldL_tk e e3⟩
theorem heldL_tk {H H':Hp} (e:∀ b xs,H b=some (.tup xs)→H' b=some (.tup xs)):∀ {ds:List D} {vs:List V},HeldL H ds vs→HeldL H' ds vs
 | [],vs,h=>by unfold HeldL at h ⊢;exact h
 | d :: ds,vs,h=>by
  unfold HeldL at h ⊢
  obtain ⟨v,r,e1,e2,e3⟩:=h
  exact ⟨v,r,e1,jbl e e2,heldL_tk e e3⟩
end
def TK (G G':Hp):Prop:=∀ b xs,G b=some (.tup xs)→G' b=some (.tup xs)
theorem TK.trans {G G1 G2:Hp} (h:TK G G1) (h':TK G1 G2):TK G G2:=fun b xs e=>h' b xs (h b xs e)
theorem TK.same {G G':Hp} (h:Same G G'):TK G G':=fun b xs e=>h b _ e
theorem TK.upd {G:Hp} {a:Addr} {o u:HO} (h:G a=some o) (hn:∀ xs,o≠.tup xs):TK G (L2.upd G a u):=fun b xs e=>by
 rw [jm (jgT e h (fun z=>hn xs z.symm))]
 exact e
theorem TK.heldL {G G':Hp} (h:TK G G') {d:List D} {v:List V} (x:HeldL G d v):HeldL G' d v:=heldL_tk h x
theorem TK.held {G G':Hp} (h:TK G G') {d:D} {v:V} (x:Held G d v):Held G' d v:=jbl h x
end LW
namespace L2
open PySem PySem.Spec PyProof.Rows PySem.W
abbrev RD:=St→Hp→D→Prop
abbrev RDL:=St→Hp→List D→Prop
def tHD (R:RD):TE:=fun σ H Q=>∃ d,R σ H d∧∀ v H',Same H H'→Held H' d v→Q v H'
def jg5 (R:RDL):TA:=fun σ H Q=>∃ ds,R σ H ds∧∀ vs H',Same H H'→HeldL H' ds vs→Q vs H'
structure PD (X:Cx) (e:Expr) (R:RD):Prop where
 h:PE X e (tHD R)
 m:∀ {σ H H' d},Same H H'→R σ H d→R σ H' d
structure PDs (X:Cx) (es:List Expr) (R:RDL):Prop where
 h:PA X es (jg5 R)
 m:∀ {σ H H' d},Same H H'→R σ H d→R σ H' d
def rK (c:D):RD:=fun _ _ d=>d=c
def rN:RDL:=fun _ _ ds=>ds=[]
def rC (R:RD) (Rs:RDL):RDL:=fun σ H ds=>∃ d r,ds=d :: r∧R σ H d∧Rs σ H r
def rT (R:RDL):RD:=fun σ H d=>∃ ds,d=.tup ds∧ds.length≤1000∧R σ H ds
def rE (t:TE):RD:=fun σ H d=>∀ G,Same H G→∀ Q:VK,(∀ v G',Same G G'→Held G' d v→Q v G')→t σ G Q
theorem PE.weak {X:Cx} {e:Expr} {t t':TE} (h:PE X e t) (w:∀ σ H Q,t' σ H Q→t σ H Q):PE X e t':=fun pins s σ H Q I q=>h pins s σ H Q I (w σ H Q q)
theorem PA.weak {X:Cx} {es:List Expr} {t t':TA} (h:PA X es t) (w:∀ σ H Q,t' σ H Q→t σ H Q):PA X es t':=fun pos pins s σ H Q I q=>h pos pins s σ H Q I (w σ H Q q)
theorem fQ {a b c} (h:FnScope a b c:=by exact ⟨rfl,rfl,rfl,by decide +kernel,rfl,by decide +kernel,by decide +kernel⟩):FnScope a b c:=h
theorem oQ {p q:Prop} (h:p∨q:=by first|exact .inl rfl|exact .inr rfl):p∨q:=h
theorem jhe {i:Nat} {v:V} {σ σ':St} {H:Hp} {Q:St→Hp→Prop} (e:σ.set i (some v)=σ') (h:Q σ' H):j4 i v σ H Q:=by subst e;exact h
theorem gQ {i:Nat} {v:V} {σ σ':St} {H:Hp} {Q:St→Hp→Prop} (h:Q σ' H) (e:σ.set i (some v)=σ':=by simp only [List.set_cons_succ,List.set_cons_zero];rfl):j4 i v σ H Q:=jhe e h
theorem kD {t:TS} {D:Ends} {σ σ':St} {H:Hp} (e:σ=σ') (h:t D σ' H):t D σ H:=by subst e;exact h
theorem je {H:Hp} {p:Addr} (h:H p=none) (o:HO):Same H (upd H p o):=fun b u q=>by rw [jm (js q h)];exact q
theorem zS (H:Hp):Same H H:=fun _ _ e=>e
section
variable {X:Cx}
theorem Z8 {i j pos}:PD X (.Constant (.int i) j pos) (rK (.int i)):=⟨jde.weak fun σ H Q ⟨d,e,q⟩=>by cases e;exact q _ H (zS H) j3,fun _ h=>h⟩
theorem zk {x j pos}:PD X (.Constant (.str x) j pos) (rK (.str x)):=⟨jdb.weak fun σ H Q ⟨d,e,q⟩=>by cases e;exact q _ H (zS H) j8,fun _ h=>h⟩
theorem jgN {e:Expr} {t:TE} (h:PE X e t):PD X e (rE t):=⟨h.weak fun σ H Q ⟨d,r,q⟩=>r H (zS H) Q q,fun s r G sG Q q=>r G (s.trans sG) Q q⟩
theorem qk:PDs X [] rN:=⟨jdk.weak fun σ H Q ⟨d,e,q⟩=>by cases e;exact q _ H (zS H) ji,fun _ h=>h⟩
theorem jQ {e:Expr} {es:List Expr} {R:RD} {Rs:RDL} (h:PD X e R) (hs:PDs X es Rs) (hp:qi e=true:=by rfl):PDs X (e :: es) (rC R Rs):=by
 refine ⟨(jgP h.h hs.h hp).weak fun σ H Q ⟨ds,⟨d,r,e,h1,h2⟩,q⟩=>?_,fun s ⟨d,r,e,h1,h2⟩=>⟨d,r,e,h.m s h1,hs.m s h2⟩⟩
 subst e
 exact ⟨d,h1,fun v H1 s1 hv=>⟨r,hs.m s1 h2,fun vs H2 s2 hvs=>q _ _ (s1.trans s2) (jg (hv.mono s2) hvs)⟩⟩
theorem zh {es:List Expr} {R:RDL} {x1} {pos:Pos} (h:PDs X es R):PD X (.Tuple es x1 pos) (rT R):=by
 refine ⟨(jda h.h).weak fun σ H Q ⟨d,⟨ds,e,hl,hr⟩,q⟩=>?_,fun s ⟨ds,e,hl,hr⟩=>⟨ds,e,hl,h.m s hr⟩⟩
 subst e
 refine ⟨ds,hr,fun vs H1 s1 hvs=>⟨?_,fun p hp=>?_⟩⟩
 ·rw [← hvs.length]
  exact Nat.le_of_lt (jx hl)
 ·exact q _ _ (s1.trans (je hp _)) (jF jd (hvs.mono (je hp _)))
structure QA (X:Cx) (es:List Expr) (t:TA):Prop where
 h:PA X es t
structure QE (X:Cx) (e:Expr) (t:TE):Prop where
 h:PE X e t
end
end L2
namespace PySem
open Sem (wp)
namespace F
end F
end PySem
namespace L2
open PySem PySem.Spec PyProof.Rows PySem.W
theorem Kh {prog:Program} {w:World} {A:Around} {s:Shared} {kx vx target iter:Expr} {ifs:List Expr} {scope:Scope} {pos:Pos} {it:Value} {D:Addr} {env:Env} {R:Result→Shared→Prop} (I:Nat→Shared→Prop)
  (turn:∀ n s,I n s→wpAny (model prog w) A (pyNext it) (fun r s1=>match r with
   | none=>R (.ok .next) s1
   | some v=>wpAny (model prog w) A (letOwnedTupleGo target it v) (fun _ s1'=>wpAny (model prog w) A (assign target env v) (fun _ s2=>
     wpAny (model prog w) A (forIn ifs true fun c r=>if r=true then do let ok ← isTrue c env (eval c env);pure (ForInStep.yield ok) else pure (ForInStep.yield r)) (fun ok s3=>
      if ok=true then wpAny (model prog w) A (eval kx env) (fun kv s4=>wpAny (model prog w) A (eval vx env) (fun vv s5=>
       wpAny (model prog w) A (dictSet D kv vv) (fun _ s6=>∃ m,m < n∧I m s6) (fun _ _=>False) s5) (fun _ _=>False) s4) (fun _ _=>False) s3
      else ∃ m,m < n∧I m s3) (fun _ _=>False) s2) (fun _ _=>False) s1') (fun _ _=>False) s1) (fun _ _=>False) s)
  (n:Nat) (h:I n s):codeAny (model prog w) A (.compLoop (.DictComp kx vx [⟨target,iter,ifs,0⟩] scope pos) 0 it (.ref D) env) R s:=by
 have no:∀ (x:Value) (s':Shared),False→notedBy (model prog w) A env (fun e s'=>R (.error e) s') x s':=fun _ _ z=>z.elim
 refine codeAny_loop rfl I (fun n s hI=>?_) n h
 show wpAny _ A ((compTurn (.DictComp kx vx [⟨target,iter,ifs,0⟩] scope pos) 0 it (.ref D) env).onRaise (fun x=>do noteFrame x env;theTreesLotGoes x)) _ _ s
 refine wpAny_noted ?_
 rw [compTurn_dict]
 refine wpAny_bind (wpAny_standAt (wpAny_bind (wpAny_mono (turn n s hI) (fun r s1 h1=>?_) no)))
 cases r with
 | none=>exact wpAny_pure h1
 | some v=>
  refine wpAny_bind (wpAny_mono h1 (fun _ s1' h1'=>?_) no)
  refine wpAny_bind (wpAny_mono h1' (fun _ s2 h2=>wpAny_bind (wpAny_mono h2 (fun ok s3 h3=>?_) no)) no)
  cases ok with
  | false=>exact wpAny_pure ⟨rfl,h3⟩
  | true=>
   exact wpAny_bind (wpAny_bind (wpAny_mono h3 (fun kv s4 h4=>wpAny_bind (wpAny_holding (wpAny_mono h4 (fun vv s5 h5=>wpAny_bind (wpAny_standAt (wpAny_holding (wpAny_mono h5 (fun _ s6 h6=>wpAny_pure ⟨rfl,h6⟩) no)))) no))) no))
def jbD (J:It) (p:Addr) (g:TG) (tt:TT) (tk tv:TE) (Q:VK) (σ:St) (H:Hp):Prop:=∃ W:Nat→Nat→St→Hp→Prop,(∃ m,W 0 m σ H)∧
 ∀ i m σ' H',W i m σ' H'→(J.stop i H'∧Q (.ref p) H')∨(J.go i H'∧∃ N:St→Hp→Prop,(∀ σ3 H3,N σ3 H3→∃ m',m' < m∧W (i+1) m' σ3 H3)∧∀ x H2,J.yld i H' x H2→g x σ' H2 fun σ3 H3=>tt σ3 H3 fun c H4=>
  if c=true then tk σ3 H4 fun ky H5=>tv σ3 H5 fun y H6=>∃ kvs k,ky=kV k∧H6 p=some (.dK kvs)∧kvs.length < sizeLine∧N σ3 (upd H6 p (.dK (qI kvs k y))) else N σ3 H4)
def ZY (own:List Str) (fr:List Nat) (wi:TI) (g:TG) (tt:TT) (tk tv:TE):TE:=fun σ H Q=>wi σ H fun J H1=>∀ p,H1 p=none→jbD J p g tt tk tv Q (jcu own fr σ) (upd H1 p (.dK []))
end L2
namespace HT
open PySem PySem.Spec PyProof.Rows L2
open PySem.SeqAt
open PySem.AutoSeq1 (wpAny_loadPart')
open PySem.MeetsSeq PySem.MeetsSeq2 PySem.MeetsSeq3
end HT
namespace L2
open PySem PySem.Spec PyProof.Rows
variable {X:Cx}
variable {X:Cx} {pos:Pos}
structure QT (X:Cx) (e:Expr) (t:TT):Prop where
 h:PT X e t
structure QW (X:Cx) (e:Expr) (t:TT):Prop where
 h:PW X e t
structure QG (X:Cx) (e:Expr) (t:TG):Prop where
 h:PG X e t
structure QGs (X:Cx) (e:List Expr) (t:TGs):Prop where
 h:PGs X e t
structure QI (X:Cx) (tg e:Expr) (t:TI):Prop where
 h:PI X tg e t
structure QO (X:Cx) (e:Option Expr) (t:TO):Prop where
 h:PO X e t
structure QC (X:Cx) (op:CmpOp) (a b:Expr) (t:TE):Prop where
 h:PC X op a b t
structure QTs (X:Cx) (e:List Expr) (t:TT):Prop where
 h:PTs X e t
theorem QW.pt {X:Cx} {e:Expr} {t:TT} (h:QW X e t):QT X e t:=⟨h.h.pt⟩
theorem yp {X:Cx} {e:Expr} {t:TE} (h:QE X e t) (he:∀ whole,isTrue e X.env whole=(do let v ← whole;standAt e.pos;holding [v] (truthy v)):=by intro _;rfl):QT X e (tB t):=⟨jfx h.h he⟩
theorem jea {X:Cx} {pos:Pos} {o i:Expr} {to ti:TE} {t:je7} (ho:QE X o to) (hi:QE X i ti) (hs:jgl X t)
  (ha:∀ v,assign (.Subscript o i pos) X.env v=(do
   let ov ← holding [v] (eval o X.env)
   let iv ← holding [v,ov] (eval i X.env)
   standAt pos
   holding [v,ov,iv] (setItem ov iv v)
   release [v,ov,iv] []):=by intro _;rfl):QG X (.Subscript o i pos) (jgZ to ti t):=⟨jfG ho.h hi.h hs ha⟩
theorem zpv {X:Cx} (i:Nat) {x:Str} {pos:Pos} (h1:(Cx.N X)[i]?=some x:=by rfl) (h2:Vis (Env.scope (Cx.env X)) x:=by first | exact Or.inl rfl | exact Or.inr (Or.inl rfl) | exact Or.inr (Or.inr rfl)) (h3:(x == Str.ofString "__debug__")=false:=by decide) (h4:(x == Str.ofString "__classdict__")=false:=by decide):QE X (Expr.Name x pos) (ya i):=
 ⟨@pv _ i _ _ h1 h2 h3 h4⟩
theorem jb {X:Cx} {i:Int} {j:Nat} {pos:Pos}:QE X (Expr.Constant (Const.int i) j pos) (tC (V.int i)):=
 ⟨@jde _ _ _ _⟩
theorem jL {X:Cx} {x:Str} {j:Nat} {pos:Pos}:QE X (Expr.Constant (Const.str x) j pos) (tC (V.str x)):=
 ⟨@jdb _ _ _ _⟩
theorem qu {X:Cx} {b:Bool} {j:Nat} {pos:Pos}:QE X (Expr.Constant (Const.bool b) j pos) (tC (V.bl b)):=
 ⟨@jgM _ _ _ _⟩
theorem jj {X:Cx} {a b:Expr} {ta tb:TE} {pos:Pos} {op:Operator} {r:R2} (h1:OpR X (binaryOp op) r) (h2:QE X a ta) (h3:QE X b tb):QE X (Expr.BinOp a op b pos) (tOp r ta tb):=
 ⟨@jgH _ _ _ _ _ _ _ _ h1 h2.h h3.h⟩
theorem zC {X:Cx} {a:Expr} {ta:TE} {pos:Pos} {op:UnaryOp} {r:V→Hp→VK→Prop} (h1:UnR X (unaryOp op) r) (h2:QE X a ta):QE X (Expr.UnaryOp op a pos) (tUn r ta):=
 ⟨@jgF _ _ _ _ _ _ h1 h2.h⟩
theorem qt {X:Cx} {a b:Expr} {ta tb:TE} {pos:Pos} {op:CmpOp} {r:R2} (h1:OpR X (compareOp op) r) (h2:QE X a ta) (h3:QE X b tb) (h4:behindInMarks op b=false):QE X (Expr.Compare a [op] [b] pos) (tOp r ta tb):=
 ⟨@jez _ _ _ _ _ _ _ _ h1 h2.h h3.h h4⟩
theorem jeb {X:Cx} {a b:Expr} {pos:Pos} {op:CmpOp} {t:TE} (h1:QC X op a b t) (h2:behindInMarks op b=false:=by rfl):QE X (Expr.Compare a [op] [b] pos) t:=
 ⟨@jfK _ _ _ _ _ _ h1.h h2⟩
theorem K1 {X:Cx} {a:Expr} {pos:Pos} {op:BoolOp} {t:TE} (h1:QE X a t):QE X (Expr.BoolOp op [a] pos) t:=
 ⟨@jfI _ _ _ _ _ h1.h⟩
theorem K2 {X:Cx} {a b:Expr} {ta tb:TE} {pos:Pos} {jG:List Expr} (h1:QE X a ta) (h2:QE X (Expr.BoolOp BoolOp.And (b :: jG) pos) tb):QE X (Expr.BoolOp BoolOp.And (a :: b :: jG) pos) (jfd ta tb):=
 ⟨@jfM _ _ _ _ _ _ _ h1.h h2.h⟩
theorem jfl {X:Cx} {a b:Expr} {ta tb:TE} {pos:Pos} {jG:List Expr} (h1:QE X a ta) (h2:QE X (Expr.BoolOp BoolOp.Or (b :: jG) pos) tb):QE X (Expr.BoolOp BoolOp.Or (a :: b :: jG) pos) (jgr ta tb):=
 ⟨@jgG _ _ _ _ _ _ _ h1.h h2.h⟩
theorem qb {X:Cx} {e:Expr} {te:TE} {lo hi:Option Expr} {tl th:TO} {pos p2:Pos} {r:V→Option Int→Option Int→Hp→VK→Prop} (h1:SlR X r) (h2:QE X e te) (h3:QO X lo tl) (h4:QO X hi th):QE X (Expr.Subscript e (Expr.Slice lo hi none p2) pos) (tSl r te tl th):=
 ⟨@jdc _ _ _ _ _ _ _ _ _ _ h1 h2.h h3.h h4.h⟩
theorem jh {X:Cx} {a b:Expr} {ta tb:TE} {pos:Pos} {r:R2} (h1:IxR X r) (h2:QE X a ta) (h3:QE X b tb) (h4:jbC b):QE X (Expr.Subscript a b pos) (tOp r ta tb):=
 ⟨@jgI _ _ _ _ _ _ _ h1 h2.h h3.h h4⟩
theorem jC {X:Cx} {es:List Expr} {t:TA} {pos:Pos} (h1:QA X es t):QE X (Expr.List es pos) (jgu t):=
 ⟨@jfJ _ _ _ _ h1.h⟩
theorem jo {X:Cx} {es:List Expr} {t:TA} {pos:Pos} {x1:Nat} (h1:QA X es t):QE X (Expr.Tuple es x1 pos) (jgp t):=
 ⟨@jda _ _ _ _ _ h1.h⟩
theorem jbG {X:Cx} {pos:Pos}:QE X (Expr.Dict [] [] pos) jcH:=
 ⟨@jdg _ _⟩
theorem kF {X:Cx} {scope:Scope} {elt tg iter:Expr} {ifs:List Expr} {pos:Pos} {wi:TI} {g:TG} {tt:TT} {te:TE} (own:List Str) (fr:List Nat) (h1:Cx.calm X=true) (h2:CompOk X scope fr) (h3:QI (Cx.nox X) tg iter wi) (h4:∀ (s:PySem.Shared) (H:Hp) (ex:List PySem.Addr),QG (blk (Cx.nox X) scope own fr s H ex) tg g∧QTs (blk (Cx.nox X) scope own fr s H ex) ifs tt∧QE (blk (Cx.nox X) scope own fr s H ex) elt te) (h5:∀ (x:Value),foldedSetIterable iter (Cx.env X) x=pure x:=by intro _;rfl):QE (Cx.nox X) (Expr.ListComp elt [{ target:=tg,iter:=iter,ifs:=ifs,is_async:=0 }] scope pos) (Jj own fr wi g tt te):=
 ⟨@jey _ _ _ _ _ _ _ _ _ _ _ own fr h1 h2 h3.h (fun s H ex=>⟨(h4 s H ex).1.h,(h4 s H ex).2.1.h,(h4 s H ex).2.2.h⟩) h5⟩
theorem zO {X:Cx} {a b:Expr} {ta tb:TE} {pos:Pos} {tA:TT} {c:Expr} (h1:QT X c tA) (h2:QE X a ta) (h3:QE X b tb):QE X (Expr.IfExp c a b pos) (tIf tA ta tb):=
 ⟨@jdf _ _ _ _ _ _ _ _ h1.h h2.h h3.h⟩
theorem jw {X:Cx} {k k':Nat} {x:Str} {ps:List Str} {sp:Sp} {e:Expr} {es:List Expr} {t:TA} {p pos:Pos} (h1:Fn (Cx.prog X) (Cx.w X) (Cx.K X) (Cx.mg X) (Cx.base X) k x ps sp) (h2:Room k' (Cx.A X)) (h3:QA X (e :: es) t) (h4:k≤k':=by decide) (h5:Gl X x:=by rfl) (h6:(x == Str.ofString "__debug__")=false:=by decide) (h7:List.all (e :: es) qi=true:=by rfl):QE X (Expr.Call (Expr.Name x p) (e :: es) [] pos) (jaO sp [] E0 t):=
 ⟨@jff _ _ _ _ _ _ _ _ _ _ _ h1 h2 h3.h h4 h5 h6 h7⟩
theorem jM {X:Cx} {x:Str} {p pos:Pos} {e:Expr} {es:List Expr} {t:TA} {id:String} {r:List V→Hp→VK→Prop} (h1:qH X (Value.builtin id) r) (h2:Gl X x) (h3:Cx.mg X x=none) (h4:bootBuiltins x=some (Value.builtin id)) (h5:QA X (e :: es) t) (h6:List.all (e :: es) qi=true:=by rfl) (h7:x≠Str.ofString "__name__":=by decide) (h8:(x == Str.ofString "__debug__")=false:=by decide):QE X (Expr.Call (Expr.Name x p) (e :: es) [] pos) (tCB r t):=
 ⟨@jgK _ _ _ _ _ _ _ _ _ h1 h2 h3 h4 h5.h h6 h7 h8⟩
theorem ze {X:Cx} {x:Str} {p pos:Pos} {e:Expr} {es:List Expr} {t:TA} {T:String} {r:List V→Hp→VK→Prop} (h1:qH X (Value.type T) r) (h2:Gl X x) (h3:Cx.mg X x=none) (h4:bootBuiltins x=some (Value.type T)) (h5:QA X (e :: es) t) (h6:List.all (e :: es) qi=true:=by rfl) (h7:x≠Str.ofString "__name__":=by decide) (h8:(x == Str.ofString "__debug__")=false:=by decide):QE X (Expr.Call (Expr.Name x p) (e :: es) [] pos) (tCB r t):=
 ⟨@jgJ _ _ _ _ _ _ _ _ _ h1 h2 h3 h4 h5.h h6 h7 h8⟩
theorem jbH {X:Cx} {o e f:Expr} {apos cpos:Pos} {td ty tx:TE} (h1:Around.units (Cx.A X)+1 < cLine) (h2:QE X o td) (h3:QE X e ty) (h4:QE X f tx) (h5:M2 X o (Str.ofString "get") apos e f cpos):QE X (Expr.Call (Expr.Attribute o (Str.ofString "get") apos) [e,f] [] cpos) (jcI td ty tx):=
 ⟨@jdh _ _ _ _ _ _ _ _ _ h1 h2.h h3.h h4.h h5⟩
theorem kN {X:Cx} {o e:Expr} {es:List Expr} {to:TE} {t:TA} {name:Str} {apos cpos:Pos} {T id:String} {r:V→List V→Hp→VK→Prop} (h1:PlainAttrs T) (h2:Slot T name id) (h3:typeOf (Value.builtin id)=pure (Value.type "method_descriptor")) (h4:MtR X id r) (h5:QE X o to) (h6:QA X (e :: es) t) (h7:attributeBase o name (Cx.env X) (eval o (Cx.env X))=eval o (Cx.env X):=by rfl) (h8:(((List.all (backTo cpos (starEach (e :: es) (Cx.env X))) fun x=>!Prod.fst x) && List.all (backToKw cpos (keywordEach [] (Cx.env X))) fun x=>Option.isSome (Prod.fst x)) && decide ((List.length (e :: es)+List.length ([]:List PySem.Keyword)+if List.isEmpty ([]:List PySem.Keyword)=true then 0 else 1) < 30))=true:=by rfl) (h9:(Pos.endLine apos == Pos.line cpos)=true:=by rfl) (h10:starEach (e :: es) (Cx.env X)=(false,eval e (Cx.env X)) :: starEach es (Cx.env X):=by rfl) (h11:(List.any (backTo cpos (starEach es (Cx.env X))) fun x=>Prod.fst x)=false:=by rfl):QE X (Expr.Call (Expr.Attribute o name apos) (e :: es) [] cpos) (tBM (Cx.K X) T r to t):=
 ⟨@jgL _ _ _ _ _ _ _ _ _ _ _ _ h1 h2 h3 h4 h5.h h6.h h7 h8 h9 h10 h11⟩
theorem jec {X:Cx} {o:Expr} {to:TE} {name:Str} {apos cpos:Pos} {T id:String} {r:V→List V→Hp→VK→Prop} (h1:PlainAttrs T) (h2:Slot T name id) (h3:typeOf (Value.builtin id)=pure (Value.type "method_descriptor")) (h4:MtR X id r) (h5:QE X o to) (h6:attributeBase o name (Cx.env X) (eval o (Cx.env X))=eval o (Cx.env X):=by rfl) (h7:(Pos.endLine apos == Pos.line cpos)=true:=by rfl):QE X (Expr.Call (Expr.Attribute o name apos) [] [] cpos) (jgx (Cx.K X) T r to):=
 ⟨@jfL _ _ _ _ _ _ _ _ _ h1 h2 h3 h4 h5.h h6 h7⟩
theorem KZ {X:Cx} {a:Expr} {pos:Pos} {tA:TT} (h1:QT X a tA):QT X (Expr.UnaryOp UnaryOp.Not a pos) (jgs tA):=
 ⟨@jfy _ _ _ _ h1.h⟩
theorem jq {X:Cx} {a b:Expr} {ta tb:TE} {pos:Pos} {op:CmpOp} {r:R2} (h1:OpR X (compareOp op) r) (h2:QE X a ta) (h3:QE X b tb) (h4:behindInMarks op b=false):QT X (Expr.Compare a [op] [b] pos) (YT (tOp r ta tb)):=
 ⟨@jeo _ _ _ _ _ _ _ _ h1 h2.h h3.h h4⟩
theorem jd8 {X:Cx} {a b:Expr} {pos:Pos} {op:CmpOp} {t:TE} (h1:QC X op a b t) (h2:behindInMarks op b=false:=by rfl):QT X (Expr.Compare a [op] [b] pos) (tB t):=
 ⟨@jfz _ _ _ _ _ _ h1.h h2⟩
theorem yo {X:Cx} {a b:Expr} {pos:Pos} {tA tB':TT} {jG:List Expr} (h1:QT X a tA) (h2:QW X (Expr.BoolOp BoolOp.And (b :: jG) pos) tB'):QW X (Expr.BoolOp BoolOp.And (a :: b :: jG) pos) (jgy tA tB'):=
 ⟨@jfv _ _ _ _ _ _ _ h1.h h2.h⟩
theorem yn {X:Cx} {a:Expr} {pos:Pos} {tA:TT} (h1:QT X a tA):QW X (Expr.BoolOp BoolOp.And [a] pos) tA:=
 ⟨@jel _ _ _ _ h1.h⟩
theorem yV {X:Cx} {a b:Expr} {pos:Pos} {tA tB':TT} {jG:List Expr} (h1:QT X a tA) (h2:QW X (Expr.BoolOp BoolOp.Or (b :: jG) pos) tB'):QW X (Expr.BoolOp BoolOp.Or (a :: b :: jG) pos) (tOr tA tB'):=
 ⟨@jgD _ _ _ _ _ _ _ h1.h h2.h⟩
theorem zM {X:Cx} {a:Expr} {pos:Pos} {tA:TT} (h1:QT X a tA):QW X (Expr.BoolOp BoolOp.Or [a] pos) tA:=
 ⟨@jft _ _ _ _ h1.h⟩
theorem qr {X:Cx}:QO X none jaL:=
 ⟨@jeu _⟩
theorem qq {X:Cx} {e:Expr} {te:TE} (h1:QE X e te):QO X (some e) (jfa te):=
 ⟨@jet _ _ _ h1.h⟩
theorem jaG {X:Cx} {o i:Expr} {td ty:TE} (h1:Around.units (Cx.A X)+1 < cLine) (h2:QE X i ty) (h3:QE X o td):QC X CmpOp.In i o (jgw ty td):=
 ⟨@jfN _ _ _ _ _ h1 h2.h h3.h⟩
theorem yf {X:Cx} {tg a:Expr} {ta:TA} {p pos:Pos} (h1:Gl X (Str.ofString "range")) (h2:Cx.mg X (Str.ofString "range")=none) (h3:QA X [a] ta) (h4:starEach [a] (Cx.env X)=[(false,eval a (Cx.env X))]:=by rfl):QI X tg (Expr.Call (Expr.Name (Str.ofString "range") p) [a] [] pos) (jfh ta):=
 ⟨@jbZ _ _ _ _ _ _ h1 h2 h3.h h4⟩
theorem ZO {X:Cx} {tg a b:Expr} {ta:TA} {p pos:Pos} (h1:Gl X (Str.ofString "range")) (h2:Cx.mg X (Str.ofString "range")=none) (h3:QA X [a,b] ta) (h4:starEach [a,b] (Cx.env X)=[(false,eval a (Cx.env X)),(false,eval b (Cx.env X))]:=by rfl) (h5:starEach [b] (Cx.env X)=[(false,eval b (Cx.env X))]:=by rfl):QI X tg (Expr.Call (Expr.Name (Str.ofString "range") p) [a,b] [] pos) (jfg ta):=
 ⟨@jbY _ _ _ _ _ _ _ h1 h2 h3.h h4 h5⟩
theorem jK {X:Cx} {tg l:Expr} {tl:TE} (h1:QE X l tl):QI X tg l (jdA (Cx.K X) tl):=
 ⟨@jev _ _ _ _ h1.h⟩
theorem jd9 {X:Cx} {tg l:Expr} {tl:TE} (h1:QE X l tl):QI X tg l (jgW (Cx.K X) tl):=
 ⟨@jfE _ _ _ _ h1.h⟩
theorem jp {X:Cx} {pos:Pos} {i:Nat} {x:Str} {e:Expr} {te:TE} {pos':Pos} (h1:List.Nodup (Cx.N X)) (h2:(Cx.N X)[i]?=some x) (h3:L2.Loc (Env.scope (Cx.env X)) x) (h4:QE X e te) (h5:swapsWith e (some (Expr.Name x pos')) (Pos.line pos) (Cx.env X)=pure false:=by rfl) (h6:Cx.fn X x=true∨List.lookup x (Scope.names (Env.scope (Cx.env X)))=some NameKind.local:=by first | exact .inl rfl | exact .inr rfl | assumption):QS X (Stmt.Assign [Expr.Name x pos'] e pos) (K7 te (j4 i)):=
 ⟨@jfA _ _ _ _ _ _ _ h1 h2 h3 h4.h h5 h6⟩
theorem kg {X:Cx} {scope:Scope} {elt tg iter:Expr} {ifs:List Expr} {pos:Pos} {wi:TI} {g:TG} {tt:TT} {te:TE} {i:Nat} {y:Str} {py spos:Pos} (h1:List.Nodup (Cx.N X)) (h2:(Cx.N X)[i]?=some y) (h3:L2.Loc (Env.scope (Cx.env X)) y) (own:List Str) (fr:List Nat) (h4:Cx.calm X=true) (h5:CompOk X scope fr) (h6:QI (Cx.nox X) tg iter wi) (h7:∀ (s:PySem.Shared) (H:Hp) (ex:List PySem.Addr),QG (blk (Cx.nox X) scope own fr s H ex) tg g∧QTs (blk (Cx.nox X) scope own fr s H ex) ifs tt∧QE (blk (Cx.nox X) scope own fr s H ex) elt te) (h8:∀ (x:Value),foldedSetIterable iter (Cx.env X) x=pure x:=by intro _;rfl) (h9:swapsWith (Expr.ListComp elt [{ target:=tg,iter:=iter,ifs:=ifs,is_async:=0 }] scope pos) (some (Expr.Name y py)) (Pos.line spos) (Cx.env X)=pure true:=by rfl) (h10:Cx.fn X y=true∨List.lookup y (Scope.names (Env.scope (Cx.env X)))=some NameKind.local:=by first | exact .inl rfl | exact .inr rfl | assumption):QS (Cx.nox X) (Stmt.Assign [Expr.Name y py] (Expr.ListComp elt [{ target:=tg,iter:=iter,ifs:=ifs,is_async:=0 }] scope pos) spos) (K7 (Jj own fr wi g tt te) (j4 i)):=
 ⟨@Z5 _ _ _ _ _ _ _ _ _ _ _ _ _ _ _ h1 h2 h3 own fr h4 h5 h6.h (fun s H ex=>⟨(h7 s H ex).1.h,(h7 s H ex).2.1.h,(h7 s H ex).2.2.h⟩) h8 h9 h10⟩
theorem yr {X:Cx} {pos:Pos} {tg e:Expr} {te:TE} {g:TG} (h1:QE X e te) (h2:QG X tg g) (h3:swapsWithSole [tg] e (Pos.line pos) (Cx.env X)=pure false:=by rfl) (h4:swappedStores [tg] e (Cx.env X)=pure none:=by rfl) (h5:List.map (fun x=>Prod.snd x) (assignEach [tg] (Cx.env X))=[assign tg (Cx.env X)]:=by rfl):QS X (Stmt.Assign [tg] e pos) (K7 te g):=
 ⟨@jfD _ _ _ _ _ _ h1.h h2.h h3 h4 h5⟩
theorem ju {X:Cx} {e:Expr} {te:TE} {pos:Pos} (h1:QE X e te):QS X (Stmt.Return (some e) pos) (jgq te):=
 ⟨@jfB _ _ _ _ h1.h⟩
theorem jN {X:Cx} {t u:TS} {pos:Pos} {c:Expr} {a b:List Stmt} {tc:TT} (h1:QT X c tc) (h2:QSs X a t) (h3:QSs X b u):QS X (Stmt.If c a b pos) (jbS tc t u):=
 ⟨@jgE _ _ _ _ _ _ _ _ h1.h h2.h h3.h⟩
theorem yq {X:Cx} {tg iter:Expr} {body:List Stmt} {wi:TI} {g:TG} {tb:TS} {pos:Pos} (h1:PassesOwn (model (Cx.prog X) (Cx.w X)) (Cx.A X) (Cx.env X) (Cx.xe X)) (h2:Cx.calm X=true) (h3:QI X tg iter wi) (h4:QG X tg g) (h5:QSs X body tb) (h6:∀ (x:Value),foldedSetIterable iter (Cx.env X) x=pure x:=by intro _;rfl):QS X (Stmt.For tg iter body [] pos) (jgv wi g tb):=
 ⟨@jfC _ _ _ _ _ _ _ _ h1 h2 h3.h h4.h h5.h h6⟩
theorem jbE {X:Cx} {pos:Pos} {c:Expr} {body:List Stmt} {tc:TT} {tb:TS} (h1:PassesOwn (model (Cx.prog X) (Cx.w X)) (Cx.A X) (Cx.env X) (Cx.xe X)) (h2:QT X c tc) (h3:QSs X body tb):QS X (Stmt.While c body [] pos) (jcG tc tb):=
 ⟨@jc6 _ _ _ _ _ _ h1 h2.h h3.h⟩
theorem jZ {X:Cx} {e:Expr} {te:TE} {pos:Pos} (h1:QE X e te) (h2:swapsWith e none (Pos.line pos) (Cx.env X)=pure false:=by rfl):QS X (Stmt.Expr e pos) (jfc te):=
 ⟨@jes _ _ _ _ h1.h h2⟩
theorem jt {X:Cx} {pos:Pos} {i:Nat} {x:Str} (h1:List.Nodup (Cx.N X)) (h2:(Cx.N X)[i]?=some x) (h3:L2.Loc (Env.scope (Cx.env X)) x) (h4:Cx.fn X x=true∨List.lookup x (Scope.names (Env.scope (Cx.env X)))=some NameKind.local:=by first | exact .inl rfl | exact .inr rfl | assumption):QG X (Expr.Name x pos) (j4 i):=
 ⟨@jex _ _ _ _ h1 h2 h3 h4⟩
theorem yt {X:Cx} {pos:Pos} {es:List Expr} {k:Nat} {t:TGs} {n:Nat} (h1:Cx.calm X=true) (h2:QGs X es t) (h3:List.length (assignEach es (Cx.env X))=n:=by rfl) (h4:List.findIdx? (fun x=>Prod.fst x) (assignEach es (Cx.env X))=none:=by rfl):QG X (Expr.Tuple es k pos) (jgY (Cx.K X) n t):=
 ⟨@jfF _ _ _ _ _ _ h1 h2.h h3 h4⟩
theorem zB {X:Cx}:QGs X [] jg0:=
 ⟨@jew _⟩
theorem jU {X:Cx} {e:Expr} {es:List Expr} {t:TG} {u:TGs} (h1:QG X e t) (h2:QGs X es u) (h3:List.map (fun x=>Prod.snd x) (assignEach (e :: es) (Cx.env X))=assign e (Cx.env X) :: List.map (fun x=>Prod.snd x) (assignEach es (Cx.env X)):=by rfl):QGs X (e :: es) (jfj t u):=
 ⟨@jc9 _ _ _ _ _ h1.h h2.h h3⟩
theorem jD {X:Cx}:QSs X [] jaM:=
 ⟨@jeq _⟩
theorem jl {X:Cx} {st:Stmt} {t:TS} (h1:QS X st t):QSs X [st] t:=
 ⟨@jep _ _ _ h1.h⟩
theorem jf {X:Cx} {st:Stmt} {jG:List Stmt} {t u:TS} (h1:QS X st t) (h2:QSs X jG u):QSs X (st :: jG) (jv t u):=
 ⟨@jc5 _ _ _ _ _ h1.h h2.h⟩
theorem jV {X:Cx}:QTs X [] yx:=
 ⟨@jen _⟩
theorem zA {X:Cx} {c:Expr} {t:TT} (h1:QT X c t):QTs X [c] t:=
 ⟨@jem _ _ _ h1.h⟩
theorem jc {X:Cx}:QA X [] jgt:=
 ⟨@jdk _⟩
theorem ja {X:Cx} {e:Expr} {es:List Expr} {te:TE} {t:TA} (h1:QE X e te) (h2:QA X es t) (h3:qi e=true:=by rfl):QA X (e :: es) (jcJ te t):=
 ⟨@jgP _ _ _ _ _ h1.h h2.h h3⟩
theorem JF {X:Cx} {st:Stmt} {t:TS} (h:QS X st t):QS X st (jfb t):=⟨jer h.h⟩
theorem Fun.okZ {P:Program} {w:World} {K:W.Frag} {mg:Str→Option Value} {base:Heap} {x qual:Str} {st:Stmt} {f:Addr} {fd:FuncData} {N ps:List Str} {k:Nat} {sp:Sp} (F:Fun K x qual st f fd) (S:FnScope N ps (jk st)) (len:∀ vs H Q E,sp vs H Q E→vs.length=ps.length)
  (hbody:∀ (cdv:Value) (A:Around) (outer:List Env) (s:Shared) (H:Hp) (vs:List V) (Q:VK) (E:XK),Room k (A.deeper (envOfC qual (jk st) s.heap.objs.size f cdv))→sp vs H Q E→
   ∃ t,QSs (kZ CX0 P w K mg base N qual (jk st) f cdv A outer s H E).nox (qR st) t∧t { nx:=fun _ H'=>Q .non H',rt:=Q } (yy N vs) H):FnOk P w K mg base CX0 (k+1) f fd ps sp:=
 F.ok S len fun cdv A outer s H vs Q E hr h=>let ⟨t,a,b⟩:=hbody cdv A outer s H vs Q E hr h;⟨t,a.h,b⟩
theorem K3 {X:Cx} {e:Expr} {t:TE} (h:QE X e t):PD X e (rE t):=jgN h.h
theorem zpd {X:Cx} {e:Expr} {R:RD} (h:PD X e R):QE X e (tHD R):=⟨h.h⟩
theorem jdD {t1 t2 u:TS} {D:Ends} {σ:St} {H:Hp} (h:let r2:=u;let r1:=jv t2 r2;jv t1 r1 D σ H):(jv t1 (jv t2 u)) D σ H:=h
theorem jbi {t1 t2 t3 u:TS} {D:Ends} {σ:St} {H:Hp} (h:let r3:=u;let r2:=jv t3 r3;let r1:=jv t2 r2;jv t1 r1 D σ H):(jv t1 (jv t2 (jv t3 u))) D σ H:=h
theorem jdC {t1 t2 t3 t4 u:TS} {D:Ends} {σ:St} {H:Hp} (h:let r4:=u;let r3:=jv t4 r4;let r2:=jv t3 r3;let r1:=jv t2 r2;jv t1 r1 D σ H):(jv t1 (jv t2 (jv t3 (jv t4 u)))) D σ H:=h
theorem jgX {t1 t2 t3 t4 t5 u:TS} {D:Ends} {σ:St} {H:Hp} (h:let r5:=u;let r4:=jv t5 r5;let r3:=jv t4 r4;let r2:=jv t3 r3;let r1:=jv t2 r2;jv t1 r1 D σ H):(jv t1 (jv t2 (jv t3 (jv t4 (jv t5 u))))) D σ H:=h
theorem jgb {t1 t2 t3 t4 t5 t6 t7 t8 t9 t10 t11 u:TS} {D:Ends} {σ:St} {H:Hp} (h:let r11:=u;let r10:=jv t11 r11;let r9:=jv t10 r10;let r8:=jv t9 r9;let r7:=jv t8 r8;let r6:=jv t7 r7;let r5:=jv t6 r6;let r4:=jv t5 r5;let r3:=jv t4 r4;let r2:=jv t3 r3;let r1:=jv t2 r2;jv t1 r1 D σ H):(jv t1 (jv t2 (jv t3 (jv t4 (jv t5 (jv t6 (jv t7 (jv t8 (jv t9 (jv t10 (jv t11 u))))))))))) D σ H:=h
theorem jga {t1 t2 t3 t4 t5 t6 t7 t8 t9 t10 t11 t12 u:TS} {D:Ends} {σ:St} {H:Hp} (h:let r12:=u;let r11:=jv t12 r12;let r10:=jv t11 r11;let r9:=jv t10 r10;let r8:=jv t9 r9;let r7:=jv t8 r8;let r6:=jv t7 r7;let r5:=jv t6 r6;let r4:=jv t5 r5;let r3:=jv t4 r4;let r2:=jv t3 r3;let r1:=jv t2 r2;jv t1 r1 D σ H):(jv t1 (jv t2 (jv t3 (jv t4 (jv t5 (jv t6 (jv t7 (jv t8 (jv t9 (jv t10 (jv t11 (jv t12 u)))))))))))) D σ H:=h
theorem jf9 {t1 t2 t3 t4 t5 t6 t7 t8 t9 t10 t11 t12 t13 u:TS} {D:Ends} {σ:St} {H:Hp} (h:let r13:=u;let r12:=jv t13 r13;let r11:=jv t12 r12;let r10:=jv t11 r11;let r9:=jv t10 r10;let r8:=jv t9 r9;let r7:=jv t8 r8;let r6:=jv t7 r7;let r5:=jv t6 r6;let r4:=jv t5 r5;let r3:=jv t4 r4;let r2:=jv t3 r3;let r1:=jv t2 r2;jv t1 r1 D σ H):(jv t1 (jv t2 (jv t3 (jv t4 (jv t5 (jv t6 (jv t7 (jv t8 (jv t9 (jv t10 (jv t11 (jv t12 (jv t13 u))))))))))))) D σ H:=h
def ltS (a b:Str):Bool:=decide (a.cps.toList < b.cps.toList)
mutual
def dLt:D→D→Bool
 | .int a,.int b=>decide (a < b)
 | .int _,.str _=>true
 | .int _,.tup _=>true
 | .str _,.int _=>false
 | .str a,.str b=>ltS a b
 | .str _,.tup _=>true
 | .tup _,.int _=>false
 | .tup _,.str _=>false
 | .tup a,.tup b=>dLtL a b
def dLtL:List D→List D→Bool
 | [],[]=>false
 | [],_ :: _=>true
 | _ :: _,[]=>false
 | x :: xs,y :: ys=>if dEq x y=true then dLtL xs ys else dLt x y
end
mutual
def Cmp:D→D→Prop
 | .int _,.int _=>True
 | .str _,.str _=>True
 | .tup a,.tup b=>CmpL a b
 | .int _,.str _=>False
 | .int _,.tup _=>False
 | .str _,.int _=>False
 | .str _,.tup _=>False
 | .tup _,.int _=>False
 | .tup _,.str _=>False
def CmpL:List D→List D→Prop
 | [],_=>True
 | _ :: _,[]=>True
 | x :: xs,y :: ys=>(dEq x y=true→CmpL xs ys)∧(dEq x y=false→Cmp x y)
end
theorem zb (x y:D) (xs ys:List D):dLtL (x :: xs) (y :: ys)=if dEq x y=true then dLtL xs ys else dLt x y:=by rw [dLtL]
theorem jeO (a:Str):ltS a a=false:=decide_eq_false (List.lt_irrefl _)
theorem jcd {a b c:Str} (h:ltS a b=true) (h':ltS b c=true):ltS a c=true:=decide_eq_true (List.lt_trans (of_decide_eq_true h) (of_decide_eq_true h'))
theorem jcL {a b:Str} (h:a.cps.toList=b.cps.toList):a=b:=by
 cases a;cases b
 congr 1
 exact Array.toList_inj.mp h
theorem jeN {a b:Str} (h:ltS a b=false) (h':ltS b a=false):a=b:=jcL (List.le_antisymm (List.not_lt.mp (of_decide_eq_false h')) (List.not_lt.mp (of_decide_eq_false h)))
mutual
theorem jbs:∀ a:D,dLt a a=false
 | .int a=>by unfold dLt;exact decide_eq_false (Int.lt_irrefl a)
 | .str a=>by unfold dLt;exact jeO a
 | .tup a=>by unfold dLt;exact dLtL_irr a
theorem dLtL_irr:∀ a:List D,dLtL a a=false
 | []=>by unfold dLtL;rfl
 | x :: xs=>by rw [zb,if_pos (jP.mpr rfl)];exact dLtL_irr xs
end
mutual
theorem Yv:∀ a b:D,dLt a b=false→dLt b a=false→a=b
 | .int a,.int b,h,h'=>by
  unfold dLt at h h'
  have:=of_decide_eq_false h
  have:=of_decide_eq_false h'
  rw [show a=b by omega]
 | .str a,.str b,h,h'=>by unfold dLt at h h';rw [jeN h h']
 | .tup a,.tup b,h,h'=>by unfold dLt at h h';rw [dLtL_tot a b h h']
 | .int a,.str b,h,h'=>by unfold dLt at h;cases h
 | .int a,.tup b,h,h'=>by unfold dLt at h;cases h
 | .str a,.int b,h,h'=>by unfold dLt at h';cases h'
 | .str a,.tup b,h,h'=>by unfold dLt at h;cases h
 | .tup a,.int b,h,h'=>by unfold dLt at h';cases h'
 | .tup a,.str b,h,h'=>by unfold dLt at h';cases h'
theorem dLtL_tot:∀ a b:List D,dLtL a b=false→dLtL b a=false→a=b
 | [],[],_,_=>rfl
 | [],y :: ys,h,_=>by unfold dLtL at h;cases h
 | x :: xs,[],_,h=>by unfold dLtL at h;cases h
 | x :: xs,y :: ys,h,h'=>by
  rw [zb] at h h'
  by_cases e:x=y
  ·subst e
   rw [if_pos (jP.mpr rfl)] at h h'
   rw [dLtL_tot xs ys h h']
  ·rw [if_neg (fun z=>e (jP.mp z))] at h
   rw [if_neg (fun z=>e (jP.mp z).symm)] at h'
   exact absurd (Yv x y h h') e
end
mutual
theorem Je:∀ a b c:D,dLt a b=true→dLt b c=true→dLt a c=true
 | .int a,.int b,.int c,h,h'=>by
  unfold dLt at h h' ⊢
  exact decide_eq_true (Int.lt_trans (of_decide_eq_true h) (of_decide_eq_true h'))
 | .str a,.str b,.str c,h,h'=>by unfold dLt at h h' ⊢;exact jcd h h'
 | .tup a,.tup b,.tup c,h,h'=>by unfold dLt at h h' ⊢;exact dLtL_trans a b c h h'
 | .int a,.int b,.str c,_,_=>by unfold dLt;rfl
 | .int a,.int b,.tup c,_,_=>by unfold dLt;rfl
 | .int a,.str b,.str c,_,_=>by unfold dLt;rfl
 | .int a,.str b,.tup c,_,_=>by unfold dLt;rfl
 | .int a,.tup b,.tup c,_,_=>by unfold dLt;rfl
 | .str a,.str b,.tup c,_,_=>by unfold dLt;rfl
 | .str a,.tup b,.tup c,_,_=>by unfold dLt;rfl
 | .str a,.int b,_,h,_=>by unfold dLt at h;cases h
 | .tup a,.int b,_,h,_=>by unfold dLt at h;cases h
 | .tup a,.str b,_,h,_=>by unfold dLt at h;cases h
 | _,.str b,.int c,_,h=>by unfold dLt at h;cases h
 | _,.tup b,.int c,_,h=>by unfold dLt at h;cases h
 | _,.tup b,.str c,_,h=>by unfold dLt at h;cases h
theorem dLtL_trans:∀ a b c:List D,dLtL a b=true→dLtL b c=true→dLtL a c=true
 | [],[],_,h,_=>by unfold dLtL at h;cases h
 | [],_ :: _,[],_,h=>by unfold dLtL at h;cases h
 | [],_ :: _,_ :: _,_,_=>by unfold dLtL;rfl
 | _ :: _,[],_,h,_=>by unfold dLtL at h;cases h
 | _ :: _,_ :: _,[],_,h=>by unfold dLtL at h;cases h
 | x :: xs,y :: ys,z :: zs,h,h'=>by
  rw [zb] at h h' ⊢
  by_cases e:x=y
  ·subst e
   rw [if_pos (jP.mpr rfl)] at h
   by_cases e':x=z
   ·subst e'
    rw [if_pos (jP.mpr rfl)] at h' ⊢
    exact dLtL_trans xs ys zs h h'
   ·rw [if_neg (fun q=>e' (jP.mp q))] at h' ⊢
    exact h'
  ·rw [if_neg (fun q=>e (jP.mp q))] at h
   by_cases e':y=z
   ·subst e'
    rw [if_neg (fun q=>e (jP.mp q))]
    exact h
   ·rw [if_neg (fun q=>e' (jP.mp q))] at h'
    have h3:=Je x y z h h'
    by_cases e2:x=z
    ·subst e2
     have:=jbs x
     rw [h3] at this
     cases this
    ·rw [if_neg (fun q=>e2 (jP.mp q))]
     exact h3
end
theorem jeZ (a b c:D) (h:dLt a c=true):dLt a b=true∨dLt b c=true:=by
 cases h1:dLt a b with
 | true=>exact .inl rfl
 | false=>
  cases h2:dLt b a with
  | true=>exact .inr (Je b a c h2 h)
  | false=>
   rw [Yv a b h1 h2] at h
   exact .inr h
open PySem PySem.Spec PyProof.Rows PySem.W
mutual
def TrAt (h:Heap):D→Value→Prop
 | .int i,v=>∃ t,v=.int i t
 | .str x,v=>∃ t,v=.str x t
 | .tup ds,v=>∃ a its,v=.ref a∧h.IsTuple a its∧TrAtL h ds its.toList
def TrAtL (h:Heap):List D→List Value→Prop
 | [],vs=>vs=[]
 | d :: ds,vs=>∃ v r,vs=v :: r∧TrAt h d v∧TrAtL h ds r
end
theorem TrAtL.length {h:Heap}:∀ {ds:List D} {vs:List Value},TrAtL h ds vs→ds.length=vs.length
 | [],vs,x=>by unfold TrAtL at x;rw [x];rfl
 | d :: ds,vs,x=>by
  unfold TrAtL at x
  obtain ⟨v,r,rfl,_,h2⟩:=x
  rw [List.length_cons,List.length_cons,TrAtL.length h2]
theorem TrAtL.get {h:Heap}:∀ {ds:List D} {vs:List Value} {i:Nat} {d:D},TrAtL h ds vs→ds[i]?=some d→∃ v,vs[i]?=some v∧TrAt h d v
 | [],_,_,_,_,e=>by simp at e
 | d :: ds,vs,0,_,x,e=>by
  unfold TrAtL at x
  obtain ⟨v,r,rfl,h1,_⟩:=x
  simp at e
  subst e
  exact ⟨v,by simp,h1⟩
 | d :: ds,vs,i+1,_,x,e=>by
  unfold TrAtL at x
  obtain ⟨v,r,rfl,_,h2⟩:=x
  obtain ⟨v',e1,e2⟩:=TrAtL.get (i:=i) h2 (by simpa using e)
  exact ⟨v',by simpa using e1,e2⟩
theorem Zy {h:Heap} {a:Addr} {xs ys:Array Value} (h1:h.IsTuple a xs) (h2:h.IsTuple a ys):xs=ys:=by
 obtain ⟨o,e1,e2,n,e3⟩:=h1
 obtain ⟨o',f1,f2,n',f3⟩:=h2
 rw [e1] at f1
 cases f1
 rw [e3] at f3
 injection f3
mutual
theorem ZW {h:Heap}:∀ {d d':D} {v:Value},TrAt h d v→TrAt h d' v→d=d'
 | .int i,.int j,v,x,y=>by unfold TrAt at x y;obtain ⟨t,rfl⟩:=x;obtain ⟨t',e⟩:=y;injection e with e;rw [e]
 | .str i,.str j,v,x,y=>by unfold TrAt at x y;obtain ⟨t,rfl⟩:=x;obtain ⟨t',e⟩:=y;injection e with e;rw [e]
 | .tup a,.tup b,v,x,y=>by
  unfold TrAt at x y
  obtain ⟨p,xs,rfl,e,hx⟩:=x
  obtain ⟨q,ys,e',f,hy⟩:=y
  injection e' with e'
  subst e'
  rw [Zy f e] at hy
  rw [trL_inj hx hy]
 | .int i,.str j,v,x,y=>by unfold TrAt at x y;obtain ⟨t,rfl⟩:=x;obtain ⟨t',e⟩:=y;cases e
 | .int i,.tup j,v,x,y=>by unfold TrAt at x y;obtain ⟨t,rfl⟩:=x;obtain ⟨_,_,e,_⟩:=y;cases e
 | .str i,.int j,v,x,y=>by unfold TrAt at x y;obtain ⟨t,rfl⟩:=x;obtain ⟨t',e⟩:=y;cases e
 | .str i,.tup j,v,x,y=>by unfold TrAt at x y;obtain ⟨t,rfl⟩:=x;obtain ⟨_,_,e,_⟩:=y;cases e
 | .tup i,.int j,v,x,y=>by unfold TrAt at x y;obtain ⟨t,rfl⟩:=y;obtain ⟨_,_,e,_⟩:=x;cases e
 | .tup i,.str j,v,x,y=>by unfold TrAt at x y;obtain ⟨t,rfl⟩:=y;obtain ⟨_,_,e,_⟩:=x;cases e
theorem trL_inj {h:Heap}:∀ {d d':List D} {v:List Value},TrAtL h d v→TrAtL h d' v→d=d'
 | [],[],_,_,_=>rfl
 | a :: as,b :: bs,v,x,y=>by
  unfold TrAtL at x y
  obtain ⟨u,r,rfl,h1,h2⟩:=x
  obtain ⟨u',r',e,h1',h2'⟩:=y
  injection e with e1 e2
  subst e1 e2
  rw [ZW h1 h1',trL_inj h2 h2']
 | [],b :: bs,v,x,y=>by unfold TrAtL at x y;subst x;obtain ⟨_,_,e,_⟩:=y;cases e
 | a :: as,[],v,x,y=>by unfold TrAtL at x y;subst y;obtain ⟨_,_,e,_⟩:=x;cases e
end
mutual
theorem TrAt.kept {h h':Heap} (k:∀ a xs,h.IsTuple a xs→h'.IsTuple a xs):∀ {d:D} {v:Value},TrAt h d v→TrAt h' d v
 | .int i,v,x=>by unfold TrAt at x ⊢;exact x
 | .str i,v,x=>by unfold TrAt at x ⊢;exact x
 | .tup ds,v,x=>by
  unfold TrAt at x ⊢
  obtain ⟨a,its,rfl,e,hx⟩:=x
  exact ⟨a,its,rfl,k a its e,TrAtL.kept k hx⟩
theorem TrAtL.kept {h h':Heap} (k:∀ a xs,h.IsTuple a xs→h'.IsTuple a xs):∀ {ds:List D} {vs:List Value},TrAtL h ds vs→TrAtL h' ds vs
 | [],vs,x=>by unfold TrAtL at x ⊢;exact x
 | d :: ds,vs,x=>by
  unfold TrAtL at x ⊢
  obtain ⟨v,r,e,h1,h2⟩:=x
  exact ⟨v,r,e,TrAt.kept k h1,TrAtL.kept k h2⟩
end
section
variable {s:Shared}
theorem Yu:∀ (n:Nat) (A:Around) (d d':D) (u v:Value),d.depth≤n→A.units+n < cLine→TrAt s.heap d u→TrAt s.heap d' v→SeqAt.EqAt A s u v (dEq d d'):=by
 intro n
 induction n with
 | zero=>
  intro A d d' u v hd hA hx hy
  have hA':A.units < cLine:=by omega
  cases d with
  | int i=>
   unfold TrAt at hx
   obtain ⟨t,rfl⟩:=hx
   cases d' with
   | int j=>unfold TrAt at hy;obtain ⟨t',rfl⟩:=hy;unfold dEq;exact SeqAt.EqAt.int_int i t j t'
   | str j=>unfold TrAt at hy;obtain ⟨t',rfl⟩:=hy;unfold dEq;exact SeqAt.EqAt.int_str i t j t'
   | tup ds=>unfold TrAt at hy;obtain ⟨b,ys,rfl,hb,_⟩:=hy;unfold dEq;exact SeqAt.EqAt.int_tuple i t hb hA'
  | str i=>
   unfold TrAt at hx
   obtain ⟨t,rfl⟩:=hx
   cases d' with
   | int j=>unfold TrAt at hy;obtain ⟨t',rfl⟩:=hy;unfold dEq;exact SeqAt.EqAt.str_int i t j t'
   | str j=>unfold TrAt at hy;obtain ⟨t',rfl⟩:=hy;unfold dEq;exact SeqAt.EqAt.str_str i t j t'
   | tup ds=>unfold TrAt at hy;obtain ⟨b,ys,rfl,hb,_⟩:=hy;unfold dEq;exact SeqAt.EqAt.str_tuple i t hb hA'
  | tup ds=>unfold D.depth at hd;omega
 | succ n ih=>
  intro A d d' u v hd hA hx hy
  have hA':A.units < cLine:=by omega
  cases d with
  | int i=>exact ih A (.int i) d' u v (by unfold D.depth;omega) (by omega) hx hy
  | str z=>exact ih A (.str z) d' u v (by unfold D.depth;omega) (by omega) hx hy
  | tup ds=>
   have hx0:=hx
   unfold TrAt at hx
   obtain ⟨a,its,rfl,ta,hxs⟩:=hx
   cases d' with
   | int j=>unfold TrAt at hy;obtain ⟨t',rfl⟩:=hy;unfold dEq;exact SeqAt.EqAt.tuple_int j t' ta hA'
   | str j=>unfold TrAt at hy;obtain ⟨t',rfl⟩:=hy;unfold dEq;exact SeqAt.EqAt.tuple_str j t' ta hA'
   | tup ds'=>
    have hy0:=hy
    unfold TrAt at hy
    obtain ⟨b,its2,rfl,tb,hys⟩:=hy
    by_cases hab:a=b
    ·subst hab
     rw [jP.mpr (ZW hx0 hy0)]
     exact SeqAt.EqAt.same _
    ·refine SeqAt.EqAt.of_refs hab ?_
     have l1:ds.length=its.size:=by have:=hxs.length;simpa using this
     have l2:ds'.length=its2.size:=by have:=hys.length;simpa using this
     have key:=SeqAt.RcAt.tuples (A:=A) (s:=s) (e:=fun j=>dEq (ds.getD j (.int 0)) (ds'.getD j (.int 0))) ta tb (by omega) (fun j h1 h2=>by
      have hj:j < ds.length:=by omega
      have hj':j < ds'.length:=by omega
      have ej:ds[j]?=some ds[j]:=List.getElem?_eq_getElem hj
      obtain ⟨x',hx',gx⟩:=hxs.get ej
      obtain ⟨y',hy',gy⟩:=hys.get (List.getElem?_eq_getElem hj')
      have eu:its[j]=x':=by
       have:=(List.getElem?_eq_some_iff.mp hx').2
       simpa using this
      have ev:its2[j]=y':=by
       have:=(List.getElem?_eq_some_iff.mp hy').2
       simpa using this
      rw [eu,ev]
      unfold D.depth at hd
      have g1:ds.getD j (.int 0)=ds[j]:=by simp [hj]
      have g2:ds'.getD j (.int 0)=ds'[j]:=by simp [hj']
      rw [g1,g2]
      exact ih A.in1 ds[j] ds'[j] x' y' (by have:=D.depthL_get ej;omega) (by show A.units+1+n < cLine;omega) gx gy)
     have e:((List.range (min its.size its2.size)).all (fun j=>dEq (ds.getD j (.int 0)) (ds'.getD j (.int 0))) && its.size == its2.size)=dEqL ds ds':=by
      rw [← l1,← l2]
      exact zH ds ds'
     rw [e] at key
     unfold dEq
     exact key
def jcv (A:Around) (s:Shared) (u v:Value) (r:Bool):Prop:=∀ (prog:Program) (w:World) (E:Value→Shared→Prop) (Q:Value→Shared→Prop),Q (.bool r) s→wpAny (model prog w) A (richCompare .Lt u v) Q E s
theorem jc1 (A:Around) (s:Shared) (a:Str) (t:Tok) (c:Str) (u:Tok):jcv A s (.str a t) (.str c u) (ltS a c):=fun prog w E Q h=>
 (PyProof.Rows.lt_str h:wpAny (model prog w) A (compareOp .Lt (.str a t) (.str c u)) Q E s)
theorem jc2 (A:Around) (s:Shared) (a:Int) (t:Tok) (c:Int) (u:Tok):jcv A s (.int a t) (.int c u) (decide (a < c)):=fun prog w E Q h=>
 (PyProof.Rows.lt_int h:wpAny (model prog w) A (compareOp .Lt (.int a t) (.int c u)) Q E s)
inductive LexAt (A:Around) (s:Shared):List D→List D→List Value→List Value→Prop
 | nilL {ys:List D} {vs:List Value}:ys.length=vs.length→LexAt A s [] ys [] vs
 | nilR {xs:List D} {vs:List Value}:xs.length=vs.length→LexAt A s xs [] vs []
 | cons {x y:D} {xs ys:List D} {u v:Value} {us vs:List Value}:xs.length=us.length→ys.length=vs.length→SeqAt.EqAt A s u v (dEq x y)→(dEq x y=true→LexAt A s xs ys us vs)→(dEq x y=false→jcv A s u v (dLt x y))→LexAt A s (x :: xs) (y :: ys) (u :: us) (v :: vs)
end
section
open PySem.SeqAt
open PySem.AutoSeq1 (wpAny_loadPart')
open PySem.MeetsSeq PySem.MeetsSeq2 PySem.MeetsSeq3
theorem YQ (l b:Addr) (items items2:Array Value) (n n2:Nat) (dd dd2:Option Addr) (sl sl2:Array (Option Value)) (ds es:List D) (h1:ds.length=items.size) (h2:es.length=items2.size) :
  Meets (Builtin.«tuple.__lt__» ⟨[.ref l,.ref b],[]⟩)
   (fun A R s=>s.heap.get? l=some { cls:=.type "tuple",dict:=dd,data:=.seq items n,slots:=sl }∧s.heap.get? b=some { cls:=.type "tuple",dict:=dd2,data:=.seq items2 n2,slots:=sl2 }∧LexAt A.in1 s ds es items.toList items2.toList∧
    R (.ok (.ret (.bool (dLtL ds es)))) s):=
 .of_wp fun prog w A R s h=>by
  obtain ⟨hp,g,d,tk,os⟩:=s;obtain ⟨hl,hb,hL,h⟩:=h
  have f2:=AutoSeq1.sub_tuple_tuple
  wp_walk using wpAny_loadPart' hl,wpAny_loadPart' hb,wpAny_forIn_list _ (fun jG b s'=>b.1=none∧s'=⟨hp,g,d,tk,os⟩∧∃ (vs ws:List Value) (ds' es':List D),jG=vs.zip ws∧
   LexAt A.in1 ⟨hp,g,d,tk,os⟩ ds' es' vs ws∧ds'.length+items2.size=es'.length+items.size∧R (.ok (.ret (.bool (dLtL ds' es')))) ⟨hp,g,d,tk,os⟩) _
  case turn=>
   rintro ⟨y,x⟩ jG b s' ⟨hb',rfl,vs,ws,ds',es',hz,hL',hlen,hR⟩
   cases hL' with
   | nilL e=>rw [List.zip_nil_left] at hz;cases hz
   | nilR e=>rw [List.zip_nil_right] at hz;cases hz
   | @cons x0 y0 _ _ _ _ _ _ e1 e2 he hy hn=>
    rw [List.zip_cons_cons] at hz
    injection hz with hyx hrest
    injection hyx with hy' hx'
    subst hy' hx'
    rw [zb] at hR
    simp only [List.length_cons] at hlen
    refine wpAny_bind (he prog w _ _ ?_)
    cases hE:dEq x0 y0 with
    | true=>
     rw [if_pos hE] at hR
     wp_walk
     exact ⟨rfl,rfl,_,_,_,_,hrest,hy hE,by omega,hR⟩
    | false=>
     rw [if_neg (by rw [hE];exact Bool.false_ne_true)] at hR
     have hri:=hn hE prog w
     wp_walk using hri
     exact ⟨_,rfl,by simpa using hR⟩
  case fin=>
   rintro ⟨b1,b2⟩ s' ⟨hb',rfl,vs,ws,ds',es',hz,hL',hlen,hR⟩
   simp only at hb'
   subst hb'
   have hv:dLtL ds' es'=decide (items.size < items2.size):=by
    cases hL' with
    | nilL e=>
     cases es' with
     | nil=>
      simp only [List.length_nil] at hlen
      unfold dLtL
      exact (decide_eq_false (by omega)).symm
     | cons c u=>
      simp only [List.length_nil,List.length_cons] at hlen
      unfold dLtL
      exact (decide_eq_true (by omega)).symm
    | nilR e=>
     cases ds' with
     | nil=>
      simp only [List.length_nil] at hlen
      unfold dLtL
      exact (decide_eq_false (by omega)).symm
     | cons c u=>
      simp only [List.length_nil,List.length_cons] at hlen
      unfold dLtL
      exact (decide_eq_false (by omega)).symm
    | cons _ _ _ _ _=>
     rw [List.zip_cons_cons] at hz
     cases hz
   rw [hv] at hR
   wp_walk
   exact ⟨_,rfl,by simpa [Builtin.Tuple.tupleCompareSizes] using hR⟩
  case h=>
   exact ⟨rfl,rfl,items.toList,items2.toList,ds,es,rfl,hL,by omega,h⟩
end
end L2
namespace Tm
open PySem PyProof.Rows
def qf:Bool→Keyed→Array Keyed→Nat→Nat→Nat→StateT SortSt Sem (Option Nat):=sortPriv% PySem.Builtin.gallop
def kG:Nat→StateT SortSt Sem Unit:=sortPriv% PySem.Builtin.setMinGallop
def qT (left:Bool) (key:Keyed) (arr:Array Keyed) (base:Nat) (i:Nat):StateT SortSt Sem (Option Bool):=do
 let x ← elem' arr (base+i)
 if left then lt' x key else return (← lt' key x).map (!·)
abbrev GT:Type:=Option (Option Nat)×Nat×Nat
def KM (left:Bool) (key:Keyed) (arr:Array Keyed) (base n lo hi:Nat):StateT SortSt Sem (Option Nat):=do
 let r ← forIn [0:n] ((none,lo,hi):GT) fun _ c=>
  if c.2.1 ≥ c.2.2 then pure (.done (none,c.2.1,c.2.2)) else do
   match ← qT left key arr base (c.2.1+(c.2.2 - c.2.1) / 2) with
   | some yes=>if yes=true then pure (.yield (none,c.2.1+(c.2.2 - c.2.1) / 2+1,c.2.2)) else pure (.yield (none,c.2.1,c.2.1+(c.2.2 - c.2.1) / 2))
   | _=>pure (.done (some none,c.2.1,c.2.2))
 match r.1 with
 | some r=>pure r
 | none=>pure (some r.2.2)
def gup (left:Bool) (key:Keyed) (arr:Array Keyed) (base n hint:Nat):StateT SortSt Sem (Option Nat):=do
 let r ← forIn [0:n] ((none,0,1):GT) fun _ c=>
  if c.2.2 ≥ n - hint then pure (.done (none,c.2.1,c.2.2)) else do
   match ← qT left key arr base (hint+c.2.2) with
   | some yes=>if (!yes)=true then pure (.done (none,c.2.1,c.2.2)) else pure (.yield (none,c.2.2,2 * c.2.2+1))
   | _=>pure (.done (some none,c.2.1,c.2.2))
 match r.1 with
 | some r=>pure r
 | none=>KM left key arr base n (hint+r.2.1+1) (hint+min r.2.2 (n - hint))
def jdH (left:Bool) (key:Keyed) (arr:Array Keyed) (base n hint:Nat):StateT SortSt Sem (Option Nat):=do
 let r ← forIn [0:n] ((none,0,1):GT) fun _ c=>
  if c.2.2 ≥ hint+1 then pure (.done (none,c.2.1,c.2.2)) else do
   match ← qT left key arr base (hint - c.2.2) with
   | some yes=>if yes=true then pure (.done (none,c.2.1,c.2.2)) else pure (.yield (none,c.2.2,2 * c.2.2+1))
   | _=>pure (.done (some none,c.2.1,c.2.2))
 match r.1 with
 | some r=>pure r
 | none=>KM left key arr base n (hint+1 - min r.2.2 (hint+1)) (hint - r.2.1)
theorem jam (left:Bool) (key:Keyed) (arr:Array Keyed) (base n hint:Nat):qf left key arr base n hint=(qT left key arr base hint >>= fun o=>match o with
  | some right=>if right=true then gup left key arr base n hint else jdH left key arr base n hint
  | _=>pure none):=by
 have e0:qf left key arr base n hint=(qT left key arr base hint >>= (_:Option Bool→StateT SortSt Sem (Option Nat))):=rfl
 rw [e0]
 congr 1
 funext o
 cases o with
 | none=>rfl
 | some right=>
  dsimp only
  congr 1
  ·unfold gup
   congr 1
   funext c
   obtain ⟨c1,c2,c3⟩:=c
   cases c1 with
   | some r=>rfl
   | none=>
    dsimp only
    unfold KM
    congr 1
    funext d
    obtain ⟨d1,d2,d3⟩:=d
    cases d1 <;> rfl
  ·unfold jdH
   congr 1
   funext c
   obtain ⟨c1,c2,c3⟩:=c
   cases c1 with
   | some r=>rfl
   | none=>
    dsimp only
    unfold KM
    congr 1
    funext d
    obtain ⟨d1,d2,d3⟩:=d
    cases d1 <;> rfl
section
variable {prog:Program} {w:World} {A:Around} {E:Value→Shared→Prop} {s:Shared} {κ:KeyKind} {knd:SortKind}
def kq (κ:KeyKind) (p:Keyed):κ.α:=(κ.keyOf p.1).getD κ.dflt
def kd (κ:KeyKind) (p:Keyed):Prop:=∃ a,κ.keyOf p.1=some a
def LtAt (prog:Program) (w:World) (A:Around) (E:Value→Shared→Prop) (s:Shared) (knd:SortKind) (κ:KeyKind):Prop:=∀ (st:SortSt) (x y:Keyed) (Q:Option Bool→SortSt→Prop),kindOf st=knd→kd κ x→kd κ y→Q (some (κ.blt (kq κ x) (kq κ y))) st→wpS (model prog w) A E s (lt' x y) Q st
theorem K4 {st:SortSt} {x y:Keyed} {Q:Option Bool→SortSt→Prop} (hO:LtAt prog w A E s knd κ) (hk:kindOf st=knd) (hx:kd κ x) (hy:kd κ y) (h:Q (some (κ.blt (kq κ x) (kq κ y))) st):wpS (model prog w) A E s (lt' x y) Q st:=hO st x y Q hk hx hy h
def bey (κ:KeyKind) (left:Bool) (key x:Keyed):Bool:=if left then κ.blt (kq κ x) (kq κ key) else !(κ.blt (kq κ key) (kq κ x))
theorem ZS {st:SortSt} {left:Bool} {key:Keyed} {arr:Array Keyed} {base i:Nat} {Q:Option Bool→SortSt→Prop} (hO:LtAt prog w A E s knd κ) (hk:kindOf st=knd) (hx:kd κ key) (hi:base+i < arr.size) (hy:kd κ arr[base+i])
  (h:Q (some (bey κ left key arr[base+i])) st):wpS (model prog w) A E s (qT left key arr base i) Q st:=by
 unfold qT
 rw [elem'_eq,getElem?_pos arr (base+i) hi]
 refine wpS_bind (wpS_pure ?_)
 cases left with
 | true=>
  simp only [if_true]
  exact K4 hO hk hy hx h
 | false=>
  simp only [Bool.false_eq_true,if_false]
  refine wpS_bind (K4 hO hk hx hy ?_)
  exact wpS_pure h
def Turn (b:Nat→Bool) (n k:Nat):Prop:=k≤n∧(∀ i,i < k→b i=true)∧∀ i,k≤i→i < n→b i=false
theorem ZQ {st:SortSt} {left:Bool} {key:Keyed} {arr:Array Keyed} {base n hint:Nat} {Q:Option Nat→SortSt→Prop} (hO:LtAt prog w A E s knd κ) (hk:kindOf st=knd) (hx:kd κ key) (hn:base+n≤arr.size) (hh:hint < n) (hy:∀ i (h:i < arr.size),kd κ arr[i])
  (b:Nat→Bool) (hb:∀ i (h:base+i < arr.size),i < n→b i=bey κ left key arr[base+i]) (mono:∀ i j,i≤j→j < n→b j=true→b i=true) (h:∀ k,Turn b n k→Q (some k) st):wpS (model prog w) A E s (qf left key arr base n hint) Q st:=by
 have ask:∀ {Q:Option Bool→SortSt→Prop} (i:Nat),i < n→Q (some (b i)) st→wpS (model prog w) A E s (qT left key arr base i) Q st:=fun {Q} i hi q=>
  ZS hO hk hx (by omega) (hy _ (by omega)) (by rw [← hb i (by omega) hi];exact q)
 have fin3:∀ (lo hi:Nat),lo≤hi→hi≤n→(∀ i,i < lo→b i=true)→(∀ i,hi≤i→i < n→b i=false)→
   wpS (model prog w) A E s (KM left key arr base n lo hi) Q st:=by
  intro lo hi h1 h2 h3 h4
  unfold KM
  refine wpS_bind (wpS_mono (wpS_forRange (I:=fun x c st'=>st'=st∧∃ l r,c=(none,l,r)∧l≤r∧r≤n∧r - l≤n - x∧(∀ i,i < l→b i=true)∧(∀ i,r≤i→i < n→b i=false))
   (Q:=fun c st'=>st'=st∧∃ r,c=(none,r,r)∧Turn b n r) ?step ?fin ⟨rfl,lo,hi,rfl,h1,h2,by omega,h3,h4⟩) ?post)
  case fin=>
   rintro c st' ⟨rfl,l,r,rfl,g1,g2,g3,g4,g5⟩
   have:l=r:=by omega
   subst this
   exact ⟨rfl,l,rfl,g2,g4,g5⟩
  case step=>
   rintro x c st' _ hxn ⟨rfl,l,r,rfl,g1,g2,g3,g4,g5⟩
   dsimp only
   by_cases hge:l ≥ r
   ·rw [if_pos hge]
    have:l=r:=by omega
    subst this
    exact wpS_pure ⟨rfl,l,rfl,g2,g4,g5⟩
   ·rw [if_neg hge]
    refine wpS_bind (ask (l+(r - l) / 2) (by omega) ?_)
    dsimp only
    cases hbo:b (l+(r - l) / 2) with
    | true=>
     simp only [if_true]
     exact wpS_pure ⟨rfl,_,_,rfl,by omega,g2,by omega,fun i hi=>mono i _ (by omega) (by omega) hbo,g5⟩
    | false=>
     simp only [Bool.false_eq_true,if_false]
     refine wpS_pure ⟨rfl,_,_,rfl,by omega,by omega,by omega,g4,fun i hi hin=>?_⟩
     cases e:b i with
     | false=>rfl
     | true=>
      have:=mono (l+(r - l) / 2) i hi hin e
      rw [hbo] at this
      cases this
  case post=>
   rintro c st' ⟨rfl,r,rfl,g⟩
   exact wpS_pure (h r g)
 rw [jam]
 refine wpS_bind (ask hint hh ?_)
 dsimp only
 cases hbh:b hint with
 | true=>
  simp only [if_true]
  unfold gup
  refine wpS_bind (wpS_mono (wpS_forRange (I:=fun x c st'=>st'=st∧∃ l o,c=(none,l,o)∧l < o∧x+1≤o∧hint+l < n∧b (hint+l)=true)
   (Q:=fun c st'=>st'=st∧∃ l o,c=(none,l,o)∧l < o∧hint+l < n∧b (hint+l)=true∧(n≤hint+o∨b (hint+o)=false)) ?step ?fin ⟨rfl,0,1,rfl,by omega,by omega,by omega,hbh⟩) ?post)
  case fin=>
   rintro c st' ⟨rfl,l,o,rfl,h1,h2,h3,h4⟩
   exact ⟨rfl,l,o,rfl,h1,h3,h4,.inl (by omega)⟩
  case step=>
   rintro x c st' _ hxn ⟨rfl,l,o,rfl,h1,h2,h3,h4⟩
   dsimp only
   by_cases hge:o ≥ n - hint
   ·rw [if_pos hge]
    exact wpS_pure ⟨rfl,l,o,rfl,h1,h3,h4,.inl (by omega)⟩
   ·rw [if_neg hge]
    refine wpS_bind (ask (hint+o) (by omega) ?_)
    dsimp only
    cases hbo:b (hint+o) with
    | true=>
     simp only [Bool.not_true,Bool.false_eq_true,if_false]
     exact wpS_pure ⟨rfl,o,2 * o+1,rfl,by omega,by omega,by omega,hbo⟩
    | false=>
     simp only [Bool.not_false,if_true]
     exact wpS_pure ⟨rfl,l,o,rfl,h1,h3,h4,.inr hbo⟩
  case post=>
   rintro c st' ⟨rfl,l,o,rfl,h1,h3,h4,h5⟩
   dsimp only
   refine fin3 (hint+l+1) (hint+min o (n - hint)) (by omega) (by omega) (fun i hi=>mono i (hint+l) (by omega) (by omega) h4) (fun i hi hin=>?_)
   rcases h5 with h5 | h5
   ·omega
   ·cases e:b i with
    | false=>rfl
    | true=>
     have:=mono (hint+o) i (by omega) hin e
     rw [h5] at this
     cases this
 | false=>
  simp only [Bool.false_eq_true,if_false]
  unfold jdH
  refine wpS_bind (wpS_mono (wpS_forRange (I:=fun x c st'=>st'=st∧∃ l o,c=(none,l,o)∧l < o∧x+1≤o∧l≤hint∧b (hint - l)=false)
   (Q:=fun c st'=>st'=st∧∃ l o,c=(none,l,o)∧l < o∧l≤hint∧b (hint - l)=false∧(hint < o∨b (hint - o)=true)) ?step ?fin ⟨rfl,0,1,rfl,by omega,by omega,by omega,hbh⟩) ?post)
  case fin=>
   rintro c st' ⟨rfl,l,o,rfl,h1,h2,h3,h4⟩
   exact ⟨rfl,l,o,rfl,h1,h3,h4,.inl (by omega)⟩
  case step=>
   rintro x c st' _ hxn ⟨rfl,l,o,rfl,h1,h2,h3,h4⟩
   dsimp only
   by_cases hge:o ≥ hint+1
   ·rw [if_pos hge]
    exact wpS_pure ⟨rfl,l,o,rfl,h1,h3,h4,.inl (by omega)⟩
   ·rw [if_neg hge]
    refine wpS_bind (ask (hint - o) (by omega) ?_)
    dsimp only
    cases hbo:b (hint - o) with
    | true=>
     simp only [if_true]
     exact wpS_pure ⟨rfl,l,o,rfl,h1,h3,h4,.inr hbo⟩
    | false=>
     simp only [Bool.false_eq_true,if_false]
     exact wpS_pure ⟨rfl,o,2 * o+1,rfl,by omega,by omega,by omega,hbo⟩
  case post=>
   rintro c st' ⟨rfl,l,o,rfl,h1,h3,h4,h5⟩
   dsimp only
   refine fin3 (hint+1 - min o (hint+1)) (hint - l) (by omega) (by omega) (fun i hi=>?_) (fun i hi hin=>?_)
   ·rcases h5 with h5 | h5
    ·omega
    ·exact mono i (hint - o) (by omega) (by omega) h5
   ·cases e:b i with
    | false=>rfl
    | true=>
     have:=mono (hint - l) i (by omega) hin e
     rw [h4] at this
     cases this
end
def yH:Array Keyed→Array Keyed→StateT SortSt Sem (Array Keyed):=sortPriv% PySem.Builtin.mergeLo
def yI:Array Keyed→Array Keyed→StateT SortSt Sem (Array Keyed):=sortPriv% PySem.Builtin.mergeHi
abbrev kJ (st:SortSt) (g:Nat):SortSt:=SortSt.mk' (kindOf st) (arrOf st) (pendingOf st) g (failedOf st)
theorem kw (g:Nat):kG g=modify fun s=>kJ s g:=rfl
abbrev SL (κ:KeyKind) (l:List Keyed):Prop:=l.Pairwise fun p q=>κ.kle (kq κ p) (kq κ q)
abbrev Le (κ:KeyKind) (p q:Keyed):Prop:=κ.kle (kq κ p) (kq κ q)
section
variable {κ:KeyKind} {knd:SortKind} {A B L:List Keyed} {ia ib:Nat}
structure LoI (κ:KeyKind) (A B L:List Keyed) (ia ib:Nat):Prop where
 perm:L.Perm (A.take ia++B.take ib)
 srt:SL κ L
 ba:∀ x∈L,∀ y∈A.drop ia,Le κ x y
 bb:∀ x∈L,∀ y∈B.drop ib,Le κ x y
theorem zr {l:List Keyed} {i:Nat} (h:i < l.length):l.drop i=l[i] :: l.drop (i+1):=List.drop_eq_getElem_cons h
theorem LoI.pushA (I:LoI κ A B L ia ib) (sa:SL κ A) (hi:ia < A.length) (h:∀ y∈B.drop ib,Le κ A[ia] y):LoI κ A B (L++[A[ia]]) (ia+1) ib:=by
 have hm:A[ia]∈A.drop ia:=by rw [zr hi];exact List.mem_cons_self
 refine ⟨?_,?_,fun x hx y hy=>?_,fun x hx y hy=>?_⟩
 ·rw [List.take_succ,List.getElem?_eq_getElem hi]
  refine (I.perm.append_right _).trans ?_
  show (A.take ia++B.take ib++[A[ia]]).Perm (A.take ia++[A[ia]]++B.take ib)
  rw [List.append_assoc,List.append_assoc]
  exact List.perm_append_comm.append_left _
 ·exact List.pairwise_append.mpr ⟨I.srt,List.pairwise_singleton _ _,fun x hx y hy=>by
   cases List.mem_singleton.mp hy
   exact I.ba x hx _ hm⟩
 ·rcases List.mem_append.mp hx with hx | hx
  ·exact I.ba x hx y (by rw [zr hi];exact List.mem_cons_of_mem _ hy)
  ·cases List.mem_singleton.mp hx
   have:=sa.drop (i:=ia)
   rw [zr hi] at this
   exact (List.pairwise_cons.mp this).1 y hy
 ·rcases List.mem_append.mp hx with hx | hx
  ·exact I.bb x hx y hy
  ·cases List.mem_singleton.mp hx
   exact h y hy
theorem LoI.swap (I:LoI κ A B L ia ib):LoI κ B A L ib ia:=⟨I.perm.trans List.perm_append_comm,I.srt,I.bb,I.ba⟩
theorem LoI.pushB (I:LoI κ A B L ia ib) (sb:SL κ B) (hi:ib < B.length) (h:∀ y∈A.drop ia,Le κ B[ib] y):LoI κ A B (L++[B[ib]]) ia (ib+1):=(I.swap.pushA sb hi h).swap
theorem LoI.runA (I:LoI κ A B L ia ib) (sa:SL κ A):∀ k,ia+k≤A.length→(∀ i (h:i < A.length),ia≤i→i < ia+k→∀ y∈B.drop ib,Le κ A[i] y)→LoI κ A B (L++(A.drop ia).take k) (ia+k) ib
 | 0,_,_=>by
  rw [List.take_zero,List.append_nil]
  exact I
 | k+1,hk,h=>by
  have ih:=LoI.runA I sa k (by omega) fun i hi h1 h2=>h i hi h1 (by omega)
  have hi:ia+k < A.length:=by omega
  have:=ih.pushA sa hi (h _ hi (by omega) (by omega))
  rw [List.append_assoc] at this
  rw [List.take_succ,List.getElem?_drop,List.getElem?_eq_getElem hi]
  exact this
theorem LoI.runB (I:LoI κ A B L ia ib) (sb:SL κ B) (k:Nat) (hk:ib+k≤B.length) (h:∀ i (h:i < B.length),ib≤i→i < ib+k→∀ y∈A.drop ia,Le κ B[i] y):LoI κ A B (L++(B.drop ib).take k) ia (ib+k):=(I.swap.runA sb k hk h).swap
def ku (κ:KeyKind) (A B M:List Keyed):Prop:=M.Perm (A++B)∧SL κ M
theorem LoI.done (I:LoI κ A B L ia ib) (sa:SL κ A) (sb:SL κ B) (h:∀ x∈A.drop ia,∀ y∈B.drop ib,Le κ x y):ku κ A B (L++A.drop ia++B.drop ib):=by
 refine ⟨?_,?_⟩
 ·have e1:=List.take_append_drop ia A
  have e2:=List.take_append_drop ib B
  have h1:(L++A.drop ia++B.drop ib).Perm ((A.take ia++B.take ib)++(A.drop ia++B.drop ib)):=by
   rw [List.append_assoc]
   exact I.perm.append_right _
  refine h1.trans ?_
  have h2:((A.take ia++B.take ib)++(A.drop ia++B.drop ib)).Perm ((A.take ia++A.drop ia)++(B.take ib++B.drop ib)):=by
   rw [List.append_assoc,List.append_assoc]
   refine List.Perm.append_left _ ?_
   rw [← List.append_assoc,← List.append_assoc]
   exact List.perm_append_comm.append_right _
  rw [e1,e2] at h2
  exact h2
 ·refine List.pairwise_append.mpr ⟨List.pairwise_append.mpr ⟨I.srt,sa.drop,I.ba⟩,sb.drop,fun x hx y hy=>?_⟩
  rcases List.mem_append.mp hx with hx | hx
  ·exact I.bb x hx y hy
  ·exact h x hx y hy
theorem LoI.last (I:LoI κ A B L ia ib) (sa:SL κ A) (sb:SL κ B) (h:∀ x∈B.drop ib,∀ y∈A.drop ia,Le κ x y):ku κ A B (L++B.drop ib++A.drop ia):=by
 obtain ⟨h1,h2⟩:=I.swap.done sb sa h
 exact ⟨h1.trans List.perm_append_comm,h2⟩
end
theorem qh {a:Array Keyed} {i j:Nat}:(a.extract i j).toList=(a.toList.drop i).take (j - i):=by
 simp
theorem JD {a:Array Keyed} {i:Nat}:(a.extract i a.size).toList=a.toList.drop i:=by
 rw [qh,List.take_of_length_le (by rw [List.length_drop];simp)]
abbrev LoT:Type:=Option (Array Keyed)×Array Keyed×Nat×Nat×Nat×Nat×Nat
abbrev qE (a b out:Array Keyed) (ia ib:Nat):Array Keyed:=out++a.extract ia a.size++b.extract ib b.size
abbrev yi (a b out:Array Keyed) (ia ib:Nat):Array Keyed:=out++b.extract ib b.size++a.extract ia a.size
def jbb (a b out:Array Keyed) (ia ib mg ac bc:Nat):StateT SortSt Sem (ForInStep LoT):=do
 let x ← elem' a ia
 if ia+1+1 == a.size then return .done (some (yi a b (out.push x) (ia+1) ib),out.push x,ia+1,ib,mg,ac,bc)
 else if (decide (ac < 7) && decide (bc < 7))=true then return .done (none,out.push x,ia+1,ib,mg,ac,bc)
 else return .yield (none,out.push x,ia+1,ib,mg,ac,bc)
def jah (a b out:Array Keyed) (ia ib mg ac k:Nat):StateT SortSt Sem (ForInStep LoT):=
 if k > 0 then
  if ib+k == b.size then return .done (some (qE a b (out++b.extract ib (ib+k)) ia (ib+k)),out++b.extract ib (ib+k),ia,ib+k,mg,ac,k)
  else jbb a b (out++b.extract ib (ib+k)) ia (ib+k) mg ac k
 else jbb a b out ia ib mg ac k
def Yk (a b out:Array Keyed) (ia ib mg ac bc:Nat):StateT SortSt Sem (ForInStep LoT):=do
 let y ← elem' b ib
 if ib+1 == b.size then return .done (some (qE a b (out.push y) ia (ib+1)),out.push y,ia,ib+1,mg,ac,bc)
 else do
  let x ← elem' a ia
  let r ← qf true x b (ib+1) (b.size - (ib+1)) 0
  match r with
  | some k=>jah a b (out.push y) ia (ib+1) mg ac k
  | _=>return .done (some (qE a b (out.push y) ia (ib+1)),out.push y,ia,ib+1,mg,ac,bc)
def jba (a b out:Array Keyed) (ia ib mg ac bc:Nat):StateT SortSt Sem (ForInStep LoT):=do
 kG mg
 let y ← elem' b ib
 let r ← qf false y a ia (a.size - ia) 0
 match r with
 | some k=>
  if k > 0 then
   if ia+k+1 == a.size then return .done (some (yi a b (out++a.extract ia (ia+k)) (ia+k) ib),out++a.extract ia (ia+k),ia+k,ib,mg,k,bc)
   else if ia+k == a.size then return .done (some (qE a b (out++a.extract ia (ia+k)) (ia+k) ib),out++a.extract ia (ia+k),ia+k,ib,mg,k,bc)
   else Yk a b (out++a.extract ia (ia+k)) (ia+k) ib mg k bc
  else Yk a b out ia ib mg k bc
 | _=>return .done (some (qE a b out ia ib),out,ia,ib,mg,ac,bc)
abbrev jaC:Type:=Option (Array Keyed)×Array Keyed×Nat×Nat×Nat×Nat
def jdt (a b:Array Keyed) (mg:Nat) (c:jaC):StateT SortSt Sem (ForInStep jaC):=do
 let y ← elem' b c.2.2.2.1
 let x ← elem' a c.2.2.1
 let r ← lt' y x
 match r with
 | some bWins=>
  if bWins=true then do
   let y ← elem' b c.2.2.2.1
   if c.2.2.2.1+1 == b.size then return .done (some (qE a b (c.2.1.push y) c.2.2.1 (c.2.2.2.1+1)),c.2.1.push y,c.2.2.1,c.2.2.2.1+1,0,c.2.2.2.2.2+1)
   else if c.2.2.2.2.2+1 ≥ mg then return .done (none,c.2.1.push y,c.2.2.1,c.2.2.2.1+1,0,c.2.2.2.2.2+1)
   else return .yield (none,c.2.1.push y,c.2.2.1,c.2.2.2.1+1,0,c.2.2.2.2.2+1)
  else do
   let x ← elem' a c.2.2.1
   if c.2.2.1+1+1 == a.size then return .done (some (yi a b (c.2.1.push x) (c.2.2.1+1) c.2.2.2.1),c.2.1.push x,c.2.2.1+1,c.2.2.2.1,c.2.2.2.2.1+1,0)
   else if c.2.2.2.2.1+1 ≥ mg then return .done (none,c.2.1.push x,c.2.2.1+1,c.2.2.2.1,c.2.2.2.2.1+1,0)
   else return .yield (none,c.2.1.push x,c.2.2.1+1,c.2.2.2.1,c.2.2.2.2.1+1,0)
 | _=>return .done (some (qE a b c.2.1 c.2.2.1 c.2.2.2.1),c.2.1,c.2.2.1,c.2.2.2.1,c.2.2.2.2.1,c.2.2.2.2.2)
abbrev jaD:Type:=Option (Array Keyed)×Array Keyed×Nat×Nat×Nat
def Yj (a b:Array Keyed) (c:jaD):StateT SortSt Sem (ForInStep jaD):=do
 let d ← forIn [0:a.size+b.size] ((none,c.2.1,c.2.2.1,c.2.2.2.1,0,0):jaC) fun _ d=>jdt a b c.2.2.2.2 d
 match d.1 with
 | some r=>return .done (some r,d.2.1,d.2.2.1,d.2.2.2.1,c.2.2.2.2)
 | none=>do
  rule "list.sort.gallop"
  let e ← forIn [0:a.size+b.size] ((none,d.2.1,d.2.2.1,d.2.2.2.1,c.2.2.2.2+1,d.2.2.2.2.1,d.2.2.2.2.2):LoT) fun _ e=>
   if e.2.2.2.2.1 > 1 then jba a b e.2.1 e.2.2.1 e.2.2.2.1 (e.2.2.2.2.1 - 1) e.2.2.2.2.2.1 e.2.2.2.2.2.2
   else jba a b e.2.1 e.2.2.1 e.2.2.2.1 e.2.2.2.2.1 e.2.2.2.2.2.1 e.2.2.2.2.2.2
  match e.1 with
  | some r=>return .done (some r,e.2.1,e.2.2.1,e.2.2.2.1,e.2.2.2.2.1)
  | none=>do
   kG (e.2.2.2.2.1+1)
   return .yield (none,e.2.1,e.2.2.1,e.2.2.2.1,e.2.2.2.2.1+1)
set_option maxHeartbeats 4000000 in
theorem Zm (a b:Array Keyed):yH a b=(do
 rule "list.sort.merge-lo"
 let y ← elem' b 0
 if 1 == b.size then return qE a b #[y] 0 1
 else if 0+1 == a.size then return yi a b #[y] 0 1
 else do
  let s ← get
  let c ← forIn [0:a.size+b.size] ((none,#[y],0,1,gallopOf s):jaD) fun _ c=>Yj a b c
  match c.1 with
  | some r=>pure r
  | none=>unsupported "internal:list.sort.merge-bound"):=by
 have e0:yH a b=((_:StateT SortSt Sem Unit) >>= (_:Unit→StateT SortSt Sem (Array Keyed))):=rfl
 rw [e0]
 congr 1;funext u
 dsimp only
 congr 1;funext y
 congr 1
 congr 1
 congr 1;funext s
 congr 1
 rotate_left
 ·funext c
  obtain ⟨c1,c2,c3,c4,c5⟩:=c
  cases c1 <;> rfl
 congr 1
 funext x c
 unfold Yj
 congr 1
 funext d
 obtain ⟨d1,d2,d3,d4,d5,d6⟩:=d
 cases d1 with
 | some r=>rfl
 | none=>
  dsimp only
  congr 1;funext _
  congr 1
  funext e
  obtain ⟨e1,e2,e3,e4,e5,e6,e7⟩:=e
  cases e1 <;> rfl
section
variable {prog:Program} {w:World} {A:Around} {E:Value→Shared→Prop} {s:Shared} {κ:KeyKind} {knd:SortKind} {a b:Array Keyed}
theorem za {l:Array Keyed} {i:Nat} {y:Keyed} (h:y∈l.toList.drop i):∃ j,∃ h:j < l.size,i≤j∧y=l[j]:=by
 obtain ⟨n,hn,rfl⟩:=List.mem_iff_getElem.mp h
 rw [List.length_drop] at hn
 refine ⟨i+n,by simp at hn;omega,by omega,?_⟩
 rw [List.getElem_drop,Array.getElem_toList]
theorem zx {l:Array Keyed} (h:SL κ l.toList) {i j:Nat} (hi:i < l.size) (hj:j < l.size) (hij:i≤j):Le κ l[i] l[j]:=by
 rcases Nat.lt_or_ge i j with k | k
 ·have:=List.pairwise_iff_getElem.mp h i j (by simpa using hi) (by simpa using hj) k
  rw [Array.getElem_toList,Array.getElem_toList] at this
  exact this
 ·have:i=j:=by omega
  subst this
  exact KeyOrd.kle_refl _
structure MC (κ:KeyKind) (a b:Array Keyed):Prop where
 ka:∀ i (h:i < a.size),kd κ a[i]
 kb:∀ i (h:i < b.size),kd κ b[i]
 sa:SL κ a.toList
 sb:SL κ b.toList
 last:∀ j (h:j < b.size) (h':a.size - 1 < a.size),Le κ b[j] a[a.size - 1]
structure Alive (κ:KeyKind) (a b:Array Keyed) (N:Nat) (out:Array Keyed) (ia ib:Nat):Prop where
 inv:LoI κ a.toList b.toList out.toList ia ib
 la:ia+1 < a.size
 lb:ib < b.size
 many:N≤ia+ib
def PL (κ:KeyKind) (a b:Array Keyed) (st:SortSt) (N:Nat) (r:ForInStep LoT) (st':SortSt):Prop:=(∃ g,st'=kJ st g)∧match r with
 | .done c=>(match c.1 with | some m=>ku κ a.toList b.toList m.toList | none=>Alive κ a b N c.2.1 c.2.2.1 c.2.2.2.1)
 | .yield c=>c.1=none∧Alive κ a b N c.2.1 c.2.2.1 c.2.2.2.1
theorem jcp {out:Array Keyed} {ia ib:Nat}:(qE a b out ia ib).toList=out.toList++a.toList.drop ia++b.toList.drop ib:=by
 unfold qE
 rw [Array.toList_append,Array.toList_append,JD,JD]
theorem jcf {out:Array Keyed} {ia ib:Nat}:(yi a b out ia ib).toList=out.toList++b.toList.drop ib++a.toList.drop ia:=by
 unfold yi
 rw [Array.toList_append,Array.toList_append,JD,JD]
theorem MC.fin {out:Array Keyed} {ia ib:Nat} (C:MC κ a b) (I:LoI κ a.toList b.toList out.toList ia ib) (h:ia=a.size∨ib=b.size):ku κ a.toList b.toList (qE a b out ia ib).toList:=by
 rw [jcp]
 refine I.done C.sa C.sb fun x hx y hy=>?_
 rcases h with rfl | rfl
 ·rw [List.drop_eq_nil_of_le (by simp)] at hx;cases hx
 ·rw [List.drop_eq_nil_of_le (by simp)] at hy;cases hy
theorem MC.fin2 {out:Array Keyed} {ia ib:Nat} (C:MC κ a b) (I:LoI κ a.toList b.toList out.toList ia ib) (h:ia+1=a.size):ku κ a.toList b.toList (yi a b out ia ib).toList:=by
 rw [jcf]
 refine I.last C.sa C.sb fun x hx y hy=>?_
 obtain ⟨j,hj,_,rfl⟩:=za hx
 obtain ⟨i,hi,h1,rfl⟩:=za hy
 have:i=a.size - 1:=by omega
 subst this
 exact C.last j hj hi
theorem qN {out:Array Keyed} {x:Keyed}:(out.push x).toList=out.toList++[x]:=by simp
theorem MC.pushA {out:Array Keyed} {ia ib:Nat} (C:MC κ a b) (I:LoI κ a.toList b.toList out.toList ia ib) (hi:ia < a.size) (h:∀ j (hj:j < b.size),ib≤j→Le κ a[ia] b[j]):LoI κ a.toList b.toList (out.push a[ia]).toList (ia+1) ib:=by
 have:=I.pushA C.sa (by simpa using hi) fun y hy=>by
  obtain ⟨j,hj,h1,rfl⟩:=za hy
  rw [Array.getElem_toList]
  exact h j hj h1
 rw [Array.getElem_toList] at this
 rw [qN]
 exact this
theorem MC.pushB {out:Array Keyed} {ia ib:Nat} (C:MC κ a b) (I:LoI κ a.toList b.toList out.toList ia ib) (hi:ib < b.size) (h:∀ j (hj:j < a.size),ia≤j→Le κ b[ib] a[j]):LoI κ a.toList b.toList (out.push b[ib]).toList ia (ib+1):=by
 have:=I.pushB C.sb (by simpa using hi) fun y hy=>by
  obtain ⟨j,hj,h1,rfl⟩:=za hy
  rw [Array.getElem_toList]
  exact h j hj h1
 rw [Array.getElem_toList] at this
 rw [qN]
 exact this
theorem MC.runA {out:Array Keyed} {ia ib k:Nat} (C:MC κ a b) (I:LoI κ a.toList b.toList out.toList ia ib) (hk:ia+k≤a.size) (h:∀ i (hi:i < a.size),ia≤i→i < ia+k→∀ j (hj:j < b.size),ib≤j→Le κ a[i] b[j]):LoI κ a.toList b.toList (out++a.extract ia (ia+k)).toList (ia+k) ib:=by
 have:=I.runA C.sa k (by simpa using hk) fun i hi h1 h2 y hy=>by
  obtain ⟨j,hj,h3,rfl⟩:=za hy
  rw [Array.getElem_toList]
  exact h i (by simpa using hi) h1 h2 j hj h3
 rw [Array.toList_append,qh,Nat.add_sub_cancel_left]
 exact this
theorem MC.runB {out:Array Keyed} {ia ib k:Nat} (C:MC κ a b) (I:LoI κ a.toList b.toList out.toList ia ib) (hk:ib+k≤b.size) (h:∀ i (hi:i < b.size),ib≤i→i < ib+k→∀ j (hj:j < a.size),ia≤j→Le κ b[i] a[j]):LoI κ a.toList b.toList (out++b.extract ib (ib+k)).toList ia (ib+k):=by
 have:=I.runB C.sb k (by simpa using hk) fun i hi h1 h2 y hy=>by
  obtain ⟨j,hj,h3,rfl⟩:=za hy
  rw [Array.getElem_toList]
  exact h i (by simpa using hi) h1 h2 j hj h3
 rw [Array.toList_append,qh,Nat.add_sub_cancel_left]
 exact this
variable {st:SortSt} {N:Nat}
theorem jI {l:Array Keyed} {i:Nat} {Q:Keyed→SortSt→Prop} (hi:i < l.size) (h:Q l[i] st):wpS (model prog w) A E s (elem' l i) Q st:=by
 rw [elem'_eq,getElem?_pos l i hi]
 exact wpS_pure h
theorem zP {left:Bool} {key:Keyed} {arr:Array Keyed} {base n hint:Nat} {Q:Option Nat→SortSt→Prop} (hO:LtAt prog w A E s knd κ) (hk:kindOf st=knd) (hx:kd κ key) (hn:base+n≤arr.size) (hh:hint < n) (hy:∀ i (h:i < arr.size),kd κ arr[i])
  (hs:∀ i j (hi:i < arr.size) (hj:j < arr.size),base≤i→i≤j→j < base+n→Le κ arr[i] arr[j])
  (h:∀ k,k≤n→(∀ i (hi:i < arr.size),base≤i→i < base+k→bey κ left key arr[i]=true)→(∀ i (hi:i < arr.size),base+k≤i→i < base+n→bey κ left key arr[i]=false)→Q (some k) st):wpS (model prog w) A E s (qf left key arr base n hint) Q st:=by
 refine ZQ (κ:=κ) hO hk hx hn hh hy (fun i=>if h:base+i < arr.size then bey κ left key arr[base+i] else false) (fun i hi _=>by rw [dif_pos hi]) (fun i j hij hj hb'=>?_) fun k hk=>?_
 ·rw [dif_pos (by omega)] at hb' ⊢
  have l1:=hs (base+i) (base+j) (by omega) (by omega) (by omega) (by omega) (by omega)
  cases left with
  | true=>exact KeyOrd.klt_of_kle_of_klt l1 (show κ.klt _ _ from hb')
  | false=>
   have hb2:κ.blt (kq κ key) (kq κ arr[base+j])=false:=by simpa [bey] using hb'
   have:κ.blt (kq κ key) (kq κ arr[base+i])=false:=KeyOrd.kle_trans l1 (show κ.kle _ _ from hb2)
   simpa [bey] using this
 ·obtain ⟨k1,k2,k3⟩:=hk
  refine h k k1 (fun i hi g1 g2=>?_) fun i hi g1 g2=>?_
  ·have:=k2 (i - base) (by omega)
   dsimp only at this
   have e:base+(i - base)=i:=by omega
   simp only [e] at this
   rw [dif_pos hi] at this
   exact this
  ·have:=k3 (i - base) (by omega) (by omega)
   dsimp only at this
   have e:base+(i - base)=i:=by omega
   simp only [e] at this
   rw [dif_pos hi] at this
   exact this
theorem jaw {key x:Keyed} (h:bey κ true key x=true):Le κ x key:=KeyOrd.kle_of_klt (show κ.klt _ _ from h)
theorem jax {key x:Keyed} (h:bey κ true key x=false):Le κ key x:=h
theorem jay {key x:Keyed} (h:bey κ false key x=true):Le κ x key:=by
 have:κ.blt (kq κ key) (kq κ x)=false:=by simpa [bey] using h
 exact this
theorem jaz {key x:Keyed} (h:bey κ false key x=false):κ.klt (kq κ key) (kq κ x):=by
 have:κ.blt (kq κ key) (kq κ x)=true:=by simpa [bey] using h
 exact this
theorem YI (C:MC κ a b) {out:Array Keyed} {ia ib mg ac bc g:Nat} (I:LoI κ a.toList b.toList out.toList ia ib) (ha:ia+1 < a.size) (hb:ib < b.size) (hN:N≤ia+1+ib) (h:∀ j (hj:j < b.size),ib≤j→Le κ a[ia] b[j]) :
  wpS (model prog w) A E s (jbb a b out ia ib mg ac bc) (PL κ a b st N) (kJ st g):=by
 unfold jbb
 refine wpS_bind (jI (by omega) ?_)
 have I2:=C.pushA I (by omega) h
 by_cases h1:ia+1+1=a.size
 ·rw [if_pos (by simpa using h1)]
  exact wpS_pure ⟨⟨g,rfl⟩,C.fin2 I2 h1⟩
 ·rw [if_neg (by simpa using h1)]
  split
  ·exact wpS_pure ⟨⟨g,rfl⟩,I2,(by show ia+1+1 < a.size;omega),hb,hN⟩
  ·exact wpS_pure ⟨⟨g,rfl⟩,rfl,I2,(by show ia+1+1 < a.size;omega),hb,hN⟩
theorem jbK (C:MC κ a b) {out:Array Keyed} {ia ib mg ac k g:Nat} (I:LoI κ a.toList b.toList out.toList ia ib) (ha:ia+1 < a.size) (hb:ib < b.size) (hN:N≤ia+1+ib) (hk:ib+k≤b.size)
  (hlt:∀ i (hi:i < b.size),ib≤i→i < ib+k→Le κ b[i] a[ia]) (hge:∀ j (hj:j < b.size),ib+k≤j→Le κ a[ia] b[j]) :
  wpS (model prog w) A E s (jah a b out ia ib mg ac k) (PL κ a b st N) (kJ st g):=by
 unfold jah
 by_cases h0:k > 0
 ·rw [if_pos h0]
  have I2:=C.runB I hk fun i hi h1 h2 j hj h3=>KeyOrd.kle_trans (hlt i hi h1 h2) (zx C.sa (by omega) hj h3)
  by_cases h1:ib+k=b.size
  ·rw [if_pos (by simpa using h1)]
   exact wpS_pure ⟨⟨g,rfl⟩,C.fin I2 (.inr h1)⟩
  ·rw [if_neg (by simpa using h1)]
   exact YI C I2 ha (by omega) (by omega) hge
 ·rw [if_neg h0]
  have:k=0:=by omega
  subst this
  exact YI C I ha hb hN hge
theorem Kk (hO:LtAt prog w A E s knd κ) (hkd:kindOf st=knd) (C:MC κ a b) {out:Array Keyed} {ia ib mg ac bc g:Nat} (I:LoI κ a.toList b.toList out.toList ia ib) (ha:ia+1 < a.size) (hb:ib < b.size) (hN:N≤ia+ib) (h:∀ j (hj:j < a.size),ia≤j→Le κ b[ib] a[j]) :
  wpS (model prog w) A E s (Yk a b out ia ib mg ac bc) (PL κ a b st N) (kJ st g):=by
 unfold Yk
 refine wpS_bind (jI hb ?_)
 have I2:=C.pushB I hb h
 by_cases h1:ib+1=b.size
 ·rw [if_pos (by simpa using h1)]
  exact wpS_pure ⟨⟨g,rfl⟩,C.fin I2 (.inr h1)⟩
 ·rw [if_neg (by simpa using h1)]
  have ha':ia < a.size:=by omega
  refine wpS_bind (jI ha' ?_)
  refine wpS_bind (zP (κ:=κ) hO hkd (C.ka _ ha') (by omega) (by omega) C.kb (fun i j hi hj _ hij _=>zx C.sb hi hj hij) fun k k1 k2 k3=>?_)
  exact jbK C I2 ha (by omega) (by omega) (by omega) (fun i hi g1 g2=>jaw (k2 i hi g1 g2)) fun j hj g1=>jax (k3 j hj g1 (by omega))
theorem jcx (hO:LtAt prog w A E s knd κ) (hkd:kindOf st=knd) (C:MC κ a b) {out:Array Keyed} {ia ib mg ac bc g:Nat} (L:Alive κ a b N out ia ib):wpS (model prog w) A E s (jba a b out ia ib mg ac bc) (PL κ a b st N) (kJ st g):=by
 obtain ⟨I,ha,hb,hN⟩:=L
 unfold jba
 rw [kw]
 refine wpS_bind (wpS_modify ?_)
 refine wpS_bind (jI hb ?_)
 refine wpS_bind (zP (κ:=κ) hO hkd (C.kb _ hb) (by omega) (by omega) C.ka (fun i j hi hj _ hij _=>zx C.sa hi hj hij) fun k k1 k2 k3=>?_)
 ·have le:∀ i (hi:i < a.size),ia≤i→i < ia+k→Le κ a[i] b[ib]:=fun i hi g1 g2=>jay (k2 i hi g1 g2)
  have gt:∀ i (hi:i < a.size),ia+k≤i→Le κ b[ib] a[i]:=fun i hi g1=>KeyOrd.kle_of_klt (jaz (k3 i hi g1 (by omega)))
  dsimp only
  by_cases h0:k > 0
  ·rw [if_pos h0]
   have I2:=C.runA I (k:=k) (by omega) fun i hi g1 g2 j hj g3=>KeyOrd.kle_trans (le i hi g1 g2) (zx C.sb hb hj g3)
   by_cases h1:ia+k+1=a.size
   ·rw [if_pos (by simpa using h1)]
    exact wpS_pure ⟨⟨mg,rfl⟩,C.fin2 I2 h1⟩
   ·rw [if_neg (by simpa using h1)]
    by_cases h2:ia+k=a.size
    ·rw [if_pos (by simpa using h2)]
     exact wpS_pure ⟨⟨mg,rfl⟩,C.fin I2 (.inl h2)⟩
    ·rw [if_neg (by simpa using h2)]
     exact Kk (st:=st) (g:=mg) hO hkd C I2 (by omega) hb (by omega) gt
  ·rw [if_neg h0]
   have:k=0:=by omega
   subst this
   exact Kk (st:=st) (g:=mg) hO hkd C I ha hb hN gt
theorem Alive.le {M:Nat} {out:Array Keyed} {ia ib:Nat} (h:Alive κ a b N out ia ib) (hm:M≤N):Alive κ a b M out ia ib:=⟨h.inv,h.la,h.lb,Nat.le_trans hm h.many⟩
def PL1 (κ:KeyKind) (a b:Array Keyed) (st:SortSt) (N:Nat) (r:ForInStep jaC) (st':SortSt):Prop:=st'=st∧match r with
 | .done c=>(match c.1 with | some m=>ku κ a.toList b.toList m.toList | none=>Alive κ a b N c.2.1 c.2.2.1 c.2.2.2.1)
 | .yield c=>c.1=none∧Alive κ a b N c.2.1 c.2.2.1 c.2.2.2.1
theorem jcw (hO:LtAt prog w A E s knd κ) (hkd:kindOf st=knd) (C:MC κ a b) {mg:Nat} {c:jaC} (L:Alive κ a b N c.2.1 c.2.2.1 c.2.2.2.1):wpS (model prog w) A E s (jdt a b mg c) (PL1 κ a b st (N+1)) st:=by
 obtain ⟨r,out,ia,ib,ac,bc⟩:=c
 obtain ⟨I,ha,hb,hN⟩:=L
 dsimp only at I ha hb hN
 unfold jdt
 dsimp only
 have ha':ia < a.size:=by omega
 refine wpS_bind (jI hb ?_)
 refine wpS_bind (jI ha' ?_)
 refine wpS_bind (K4 hO hkd (C.kb _ hb) (C.ka _ ha') ?_)
 dsimp only
 cases hw:κ.blt (kq κ b[ib]) (kq κ a[ia]) with
 | true=>
  simp only [if_true]
  refine wpS_bind (jI hb ?_)
  have I2:=C.pushB I hb fun j hj h1=>KeyOrd.kle_trans (KeyOrd.kle_of_klt (show κ.klt _ _ from hw)) (zx C.sa ha' hj h1)
  by_cases h1:ib+1=b.size
  ·rw [if_pos (by simpa using h1)]
   exact wpS_pure ⟨rfl,C.fin I2 (.inr h1)⟩
  ·rw [if_neg (by simpa using h1)]
   split
   ·exact wpS_pure ⟨rfl,I2,ha,(by show ib+1 < b.size;omega),(by show N+1≤ia+(ib+1);omega)⟩
   ·exact wpS_pure ⟨rfl,rfl,I2,ha,(by show ib+1 < b.size;omega),(by show N+1≤ia+(ib+1);omega)⟩
 | false=>
  simp only [Bool.false_eq_true,if_false]
  refine wpS_bind (jI ha' ?_)
  have I2:=C.pushA I ha' fun j hj h1=>KeyOrd.kle_trans (show κ.kle _ _ from hw) (zx C.sb hb hj h1)
  by_cases h1:ia+1+1=a.size
  ·rw [if_pos (by simpa using h1)]
   exact wpS_pure ⟨rfl,C.fin2 I2 h1⟩
  ·rw [if_neg (by simpa using h1)]
   split
   ·exact wpS_pure ⟨rfl,I2,(by show ia+1+1 < a.size;omega),hb,(by show N+1≤ia+1+ib;omega)⟩
   ·exact wpS_pure ⟨rfl,rfl,I2,(by show ia+1+1 < a.size;omega),hb,(by show N+1≤ia+1+ib;omega)⟩
def PL0 (κ:KeyKind) (a b:Array Keyed) (st:SortSt) (N:Nat) (r:ForInStep jaD) (st':SortSt):Prop:=(∃ g,st'=kJ st g)∧match r with
 | .done c=>∃ m,c.1=some m∧ku κ a.toList b.toList m.toList
 | .yield c=>c.1=none∧Alive κ a b N c.2.1 c.2.2.1 c.2.2.2.1
theorem jbJ (hO:LtAt prog w A E s knd κ) (hkd:kindOf st=knd) (C:MC κ a b) {c:jaD} {g:Nat} (L:Alive κ a b N c.2.1 c.2.2.1 c.2.2.2.1):wpS (model prog w) A E s (Yj a b c) (PL0 κ a b st (N+1)) (kJ st g):=by
 obtain ⟨r,out,ia,ib,mg⟩:=c
 dsimp only at L
 unfold Yj
 dsimp only
 have htot:0 < a.size+b.size:=by have:=L.lb;omega
 refine wpS_bind (wpS_mono (wpS_forRange (I:=fun (x:Nat) (d:jaC) (st':SortSt)=>st'=kJ st g∧d.1=none∧Alive κ a b (N+min x 1) d.2.1 d.2.2.1 d.2.2.2.1)
  (Q:=fun (d:jaC) (st':SortSt)=>st'=kJ st g∧match d.1 with | some m=>ku κ a.toList b.toList m.toList | none=>Alive κ a b (N+1) d.2.1 d.2.2.1 d.2.2.2.1) ?step ?fin ⟨rfl,rfl,L⟩) ?post)
 case fin=>
  rintro d st' ⟨rfl,hd,L'⟩
  refine ⟨rfl,?_⟩
  rw [hd]
  exact L'.le (by omega)
 case step=>
  rintro x d st' _ hx ⟨rfl,hd,L'⟩
  refine wpS_mono (jcw (st:=kJ st g) hO hkd C L') fun r st2 hr=>?_
  obtain ⟨rfl,hr⟩:=hr
  cases r with
  | done e=>
   refine ⟨rfl,?_⟩
   dsimp only at hr ⊢
   cases he:e.1 with
   | some m=>rw [he] at hr;exact hr
   | none=>rw [he] at hr;exact Alive.le hr (by omega)
  | yield e=>exact ⟨rfl,hr.1,hr.2.le (by omega)⟩
 case post=>
  rintro ⟨d1,d2,d3,d4,d5,d6⟩ st' ⟨rfl,hd⟩
  cases d1 with
  | some m=>exact wpS_pure ⟨⟨g,rfl⟩,m,rfl,hd⟩
  | none=>
   dsimp only at hd ⊢
   refine wpS_bind (wpS_lift (wpAny_rule ⟨rfl,?_⟩))
   refine wpS_bind (wpS_mono (wpS_forRange (I:=fun (x:Nat) (e:LoT) (st':SortSt)=>(∃ g',st'=kJ st g')∧e.1=none∧Alive κ a b (N+1) e.2.1 e.2.2.1 e.2.2.2.1)
    (Q:=fun (e:LoT) (st':SortSt)=>(∃ g',st'=kJ st g')∧match e.1 with | some m=>ku κ a.toList b.toList m.toList | none=>Alive κ a b (N+1) e.2.1 e.2.2.1 e.2.2.2.1) ?step2 ?fin2 ⟨⟨g,rfl⟩,rfl,hd⟩) ?post2)
   case fin2=>
    rintro e st' ⟨hg,he,L'⟩
    refine ⟨hg,?_⟩
    rw [he]
    exact L'
   case step2=>
    rintro x e st' _ hx ⟨⟨g',rfl⟩,he,L'⟩
    split
    all_goals
     refine wpS_mono (jcx (st:=st) hO hkd C L') fun r st2 hr=>?_
     obtain ⟨hg,hr⟩:=hr
     cases r with
     | done e=>exact ⟨hg,hr⟩
     | yield e=>exact ⟨hg,hr⟩
   case post2=>
    rintro ⟨e1,e2,e3,e4,e5,e6,e7⟩ st' ⟨⟨g',rfl⟩,he⟩
    cases e1 with
    | some m=>exact wpS_pure ⟨⟨g',rfl⟩,m,rfl,he⟩
    | none=>
     dsimp only at he ⊢
     rw [kw]
     exact wpS_bind (wpS_modify (wpS_pure ⟨⟨_,rfl⟩,rfl,he⟩))
theorem YK {Q:Array Keyed→SortSt→Prop} (hO:LtAt prog w A E s knd κ) (hkd:kindOf st=knd) (C:MC κ a b) (ha:0 < a.size) (hb:0 < b.size) (h1:∀ i (h:i < a.size),Le κ b[0] a[i])
  (h:∀ m g,ku κ a.toList b.toList m.toList→Q m (kJ st g)):wpS (model prog w) A E s (yH a b) Q st:=by
 rw [Zm]
 refine wpS_bind (wpS_lift (wpAny_rule ⟨rfl,?_⟩))
 refine wpS_bind (jI hb ?_)
 have I:LoI κ a.toList b.toList (#[b[0]]:Array Keyed).toList 0 1:=by
  have I0:LoI κ a.toList b.toList (#[]:Array Keyed).toList 0 0:=⟨List.Perm.refl _,List.Pairwise.nil,fun x hx=>(by cases hx),fun x hx=>(by cases hx)⟩
  exact C.pushB I0 hb fun j hj _=>h1 j hj
 by_cases hb1:1=b.size
 ·rw [if_pos (by simpa using hb1)]
  exact wpS_pure (h _ (gallopOf st) (C.fin I (.inr hb1)))
 ·rw [if_neg (by simpa using hb1)]
  by_cases ha1:0+1=a.size
  ·rw [if_pos (by simpa using ha1)]
   exact wpS_pure (h _ (gallopOf st) (C.fin2 I ha1))
  ·rw [if_neg (by simpa using ha1)]
   refine wpS_bind (wpS_get ?_)
   refine wpS_bind (wpS_mono (wpS_forRange (I:=fun (x:Nat) (c:jaD) (st':SortSt)=>(∃ g,st'=kJ st g)∧c.1=none∧Alive κ a b x c.2.1 c.2.2.1 c.2.2.2.1)
    (Q:=fun (c:jaD) (st':SortSt)=>(∃ g,st'=kJ st g)∧∃ m,c.1=some m∧ku κ a.toList b.toList m.toList) ?step ?fin ⟨⟨gallopOf st,rfl⟩,rfl,I,(by show 0+1 < a.size;omega),(by show 1 < b.size;omega),Nat.zero_le _⟩) ?post)
   case fin=>
    rintro c st' ⟨hg,hc,L⟩
    have:=L.many
    have:=L.la
    have:=L.lb
    omega
   case step=>
    rintro x c st' _ hx ⟨⟨g,rfl⟩,hc,L⟩
    refine wpS_mono (jbJ (st:=st) hO hkd C L) fun r st2 hr=>?_
    obtain ⟨hg,hr⟩:=hr
    cases r with
    | done e=>exact ⟨hg,hr⟩
    | yield e=>exact ⟨hg,hr⟩
   case post=>
    rintro ⟨c1,c2⟩ st' ⟨⟨g,rfl⟩,m,hm,hg⟩
    dsimp only at hm
    subst hm
    exact wpS_pure (h m g hg)
end
section
variable {κ:KeyKind} {knd:SortKind} {A B L:List Keyed} {na nb:Nat}
structure HiI (κ:KeyKind) (A B L:List Keyed) (na nb:Nat):Prop where
 perm:L.Perm (A.drop na++B.drop nb)
 srt:L.Pairwise fun p q=>Le κ q p
 ba:∀ x∈L,∀ y∈A.take na,Le κ y x
 bb:∀ x∈L,∀ y∈B.take nb,Le κ y x
theorem HiI.swap (I:HiI κ A B L na nb):HiI κ B A L nb na:=⟨I.perm.trans List.perm_append_comm,I.srt,I.bb,I.ba⟩
theorem HiI.pushA (I:HiI κ A B L (na+1) nb) (sa:SL κ A) (hi:na < A.length) (h:∀ y∈B.take nb,Le κ y A[na]):HiI κ A B (L++[A[na]]) na nb:=by
 have et:A.take (na+1)=A.take na++[A[na]]:=by rw [List.take_succ,List.getElem?_eq_getElem hi];rfl
 refine ⟨?_,?_,fun x hx y hy=>?_,fun x hx y hy=>?_⟩
 ·rw [zr hi]
  refine (I.perm.append_right _).trans ?_
  exact List.perm_append_comm
 ·exact List.pairwise_append.mpr ⟨I.srt,List.pairwise_singleton _ _,fun x hx y hy=>by
   cases List.mem_singleton.mp hy
   exact I.ba x hx _ (by rw [et];exact List.mem_append_right _ (List.mem_singleton.mpr rfl))⟩
 ·rcases List.mem_append.mp hx with hx | hx
  ·exact I.ba x hx y (by rw [et];exact List.mem_append_left _ hy)
  ·cases List.mem_singleton.mp hx
   have:=sa.take (i:=na+1)
   rw [et] at this
   exact (List.pairwise_append.mp this).2.2 y hy _ (by simp)
 ·rcases List.mem_append.mp hx with hx | hx
  ·exact I.bb x hx y hy
  ·cases List.mem_singleton.mp hx
   exact h y hy
theorem HiI.runA (sa:SL κ A) {at_:Nat}:∀ k {L:List Keyed},HiI κ A B L (at_+k) nb→at_+k≤A.length→(∀ i (h:i < A.length),at_≤i→i < at_+k→∀ y∈B.take nb,Le κ y A[i])→HiI κ A B (L++((A.drop at_).take k).reverse) at_ nb
 | 0,L,I,_,_=>by
  rw [List.take_zero,List.reverse_nil,List.append_nil]
  exact I
 | k+1,L,I,hk,h=>by
  have hi:at_+k < A.length:=by omega
  have I2:HiI κ A B (L++[A[at_+k]]) (at_+k) nb:=HiI.pushA I sa hi (h _ hi (by omega) (by omega))
  have ih:=HiI.runA sa k I2 (by omega) fun i hi h1 h2=>h i hi h1 (by omega)
  rw [List.append_assoc] at ih
  rw [List.take_succ,List.getElem?_drop,List.getElem?_eq_getElem hi,List.reverse_append]
  exact ih
theorem HiI.done (I:HiI κ A B L na nb) (sa:SL κ A) (sb:SL κ B) (h:∀ x∈A.take na,∀ y∈B.take nb,Le κ x y):ku κ A B (A.take na++B.take nb++L.reverse):=by
 refine ⟨?_,?_⟩
 ·have e1:=List.take_append_drop na A
  have e2:=List.take_append_drop nb B
  have h1:(A.take na++B.take nb++L.reverse).Perm ((A.take na++B.take nb)++(A.drop na++B.drop nb)):=((List.reverse_perm L).trans I.perm).append_left _
  refine h1.trans ?_
  have h2:((A.take na++B.take nb)++(A.drop na++B.drop nb)).Perm ((A.take na++A.drop na)++(B.take nb++B.drop nb)):=by
   rw [List.append_assoc,List.append_assoc]
   refine List.Perm.append_left _ ?_
   rw [← List.append_assoc,← List.append_assoc]
   exact List.perm_append_comm.append_right _
  rw [e1,e2] at h2
  exact h2
 ·refine List.pairwise_append.mpr ⟨List.pairwise_append.mpr ⟨sa.take,sb.take,h⟩,List.pairwise_reverse.mpr I.srt,fun x hx y hy=>?_⟩
  have hy':=List.mem_reverse.mp hy
  rcases List.mem_append.mp hx with hx | hx
  ·exact I.ba y hy' x hx
  ·exact I.bb y hy' x hx
theorem HiI.first (I:HiI κ A B L na nb) (sa:SL κ A) (sb:SL κ B) (h:∀ x∈B.take nb,∀ y∈A.take na,Le κ x y):ku κ A B (B.take nb++A.take na++L.reverse):=by
 obtain ⟨h1,h2⟩:=I.swap.done sb sa h
 exact ⟨h1.trans List.perm_append_comm,h2⟩
end
abbrev qF (a b out:Array Keyed) (na nb:Nat):Array Keyed:=a.extract 0 na++b.extract 0 nb++out.reverse
abbrev zq (a b out:Array Keyed) (na nb:Nat):Array Keyed:=b.extract 0 nb++a.extract 0 na++out.reverse
abbrev HiT:Type:=Option (Array Keyed)×Nat×Nat×Array Keyed×Nat×Nat×Nat
abbrev jaE:Type:=Option (Array Keyed)×Nat×Nat×Array Keyed×Nat×Nat
abbrev jaF:Type:=Option (Array Keyed)×Nat×Nat×Array Keyed×Nat
def jbk (a b:Array Keyed) (na nb:Nat) (out:Array Keyed) (mg ac bc:Nat):StateT SortSt Sem (ForInStep HiT):=do
 let x ← elem' a (na - 1)
 if na - 1 == 0 then return .done (some (qF a b (out.push x) (na - 1) nb),na - 1,nb,out.push x,mg,ac,bc)
 else if (decide (ac < 7) && decide (bc < 7))=true then return .done (none,na - 1,nb,out.push x,mg,ac,bc)
 else return .yield (none,na - 1,nb,out.push x,mg,ac,bc)
def jal (a b:Array Keyed) (na nb:Nat) (out:Array Keyed) (mg ac at_:Nat):StateT SortSt Sem (ForInStep HiT):=
 if nb - at_ > 0 then
  if at_ == 1 then return .done (some (zq a b (out++(b.extract at_ nb).reverse) na at_),na,at_,out++(b.extract at_ nb).reverse,mg,ac,nb - at_)
  else if at_ == 0 then return .done (some (qF a b (out++(b.extract at_ nb).reverse) na at_),na,at_,out++(b.extract at_ nb).reverse,mg,ac,nb - at_)
  else jbk a b na at_ (out++(b.extract at_ nb).reverse) mg ac (nb - at_)
 else jbk a b na nb out mg ac (nb - at_)
def Ys (a b:Array Keyed) (na nb:Nat) (out:Array Keyed) (mg ac bc:Nat):StateT SortSt Sem (ForInStep HiT):=do
 let y ← elem' b (nb - 1)
 if nb - 1 == 1 then return .done (some (zq a b (out.push y) na (nb - 1)),na,nb - 1,out.push y,mg,ac,bc)
 else do
  let x ← elem' a (na - 1)
  let r ← qf true x b 0 (nb - 1) (nb - 1 - 1)
  match r with
  | some at_=>jal a b na (nb - 1) (out.push y) mg ac at_
  | _=>return .done (some (qF a b (out.push y) na (nb - 1)),na,nb - 1,out.push y,mg,ac,bc)
def jbj (a b:Array Keyed) (na nb:Nat) (out:Array Keyed) (mg ac bc:Nat):StateT SortSt Sem (ForInStep HiT):=do
 kG mg
 let y ← elem' b (nb - 1)
 let r ← qf false y a 0 na (na - 1)
 match r with
 | some at_=>
  if na - at_ > 0 then
   if at_ == 0 then return .done (some (qF a b (out++(a.extract at_ na).reverse) at_ nb),at_,nb,out++(a.extract at_ na).reverse,mg,na - at_,bc)
   else Ys a b at_ nb (out++(a.extract at_ na).reverse) mg (na - at_) bc
  else Ys a b na nb out mg (na - at_) bc
 | _=>return .done (some (qF a b out na nb),na,nb,out,mg,ac,bc)
def jdF (a b:Array Keyed) (mg:Nat) (c:jaE):StateT SortSt Sem (ForInStep jaE):=do
 let y ← elem' b (c.2.2.1 - 1)
 let x ← elem' a (c.2.1 - 1)
 let r ← lt' y x
 match r with
 | some aWins=>
  if aWins=true then do
   let x ← elem' a (c.2.1 - 1)
   if c.2.1 - 1 == 0 then return .done (some (qF a b (c.2.2.2.1.push x) (c.2.1 - 1) c.2.2.1),c.2.1 - 1,c.2.2.1,c.2.2.2.1.push x,c.2.2.2.2.1+1,0)
   else if c.2.2.2.2.1+1 ≥ mg then return .done (none,c.2.1 - 1,c.2.2.1,c.2.2.2.1.push x,c.2.2.2.2.1+1,0)
   else return .yield (none,c.2.1 - 1,c.2.2.1,c.2.2.2.1.push x,c.2.2.2.2.1+1,0)
  else do
   let y ← elem' b (c.2.2.1 - 1)
   if c.2.2.1 - 1 == 1 then return .done (some (zq a b (c.2.2.2.1.push y) c.2.1 (c.2.2.1 - 1)),c.2.1,c.2.2.1 - 1,c.2.2.2.1.push y,0,c.2.2.2.2.2+1)
   else if c.2.2.2.2.2+1 ≥ mg then return .done (none,c.2.1,c.2.2.1 - 1,c.2.2.2.1.push y,0,c.2.2.2.2.2+1)
   else return .yield (none,c.2.1,c.2.2.1 - 1,c.2.2.2.1.push y,0,c.2.2.2.2.2+1)
 | _=>return .done (some (qF a b c.2.2.2.1 c.2.1 c.2.2.1),c.2.1,c.2.2.1,c.2.2.2.1,c.2.2.2.2.1,c.2.2.2.2.2)
def Yr (a b:Array Keyed) (c:jaF):StateT SortSt Sem (ForInStep jaF):=do
 let d ← forIn [0:a.size+b.size] ((none,c.2.1,c.2.2.1,c.2.2.2.1,0,0):jaE) fun _ d=>jdF a b c.2.2.2.2 d
 match d.1 with
 | some r=>return .done (some r,d.2.1,d.2.2.1,d.2.2.2.1,c.2.2.2.2)
 | none=>do
  rule "list.sort.gallop"
  let e ← forIn [0:a.size+b.size] ((none,d.2.1,d.2.2.1,d.2.2.2.1,c.2.2.2.2+1,d.2.2.2.2.1,d.2.2.2.2.2):HiT) fun _ e=>
   if e.2.2.2.2.1 > 1 then jbj a b e.2.1 e.2.2.1 e.2.2.2.1 (e.2.2.2.2.1 - 1) e.2.2.2.2.2.1 e.2.2.2.2.2.2
   else jbj a b e.2.1 e.2.2.1 e.2.2.2.1 e.2.2.2.2.1 e.2.2.2.2.2.1 e.2.2.2.2.2.2
  match e.1 with
  | some r=>return .done (some r,e.2.1,e.2.2.1,e.2.2.2.1,e.2.2.2.2.1)
  | none=>do
   kG (e.2.2.2.2.1+1)
   return .yield (none,e.2.1,e.2.2.1,e.2.2.2.1,e.2.2.2.2.1+1)
set_option maxHeartbeats 4000000 in
theorem Zn (a b:Array Keyed):yI a b=(do
 rule "list.sort.merge-hi"
 let y ← elem' a (a.size - 1)
 if a.size - 1 == 0 then return qF a b #[y] (a.size - 1) b.size
 else if b.size == 1 then return zq a b #[y] (a.size - 1) b.size
 else do
  let s ← get
  let c ← forIn [0:a.size+b.size] ((none,a.size - 1,b.size,#[y],gallopOf s):jaF) fun _ c=>Yr a b c
  match c.1 with
  | some r=>pure r
  | none=>unsupported "internal:list.sort.merge-bound"):=by
 have e0:yI a b=((_:StateT SortSt Sem Unit) >>= (_:Unit→StateT SortSt Sem (Array Keyed))):=rfl
 rw [e0]
 congr 1;funext u
 dsimp only
 congr 1;funext y
 congr 1
 congr 1
 congr 1;funext s
 congr 1
 rotate_left
 ·funext c
  obtain ⟨c1,c2,c3,c4,c5⟩:=c
  cases c1 <;> rfl
 congr 1
 funext x c
 unfold Yr
 congr 1
 funext d
 obtain ⟨d1,d2,d3,d4,d5,d6⟩:=d
 cases d1 with
 | some r=>rfl
 | none=>
  dsimp only
  congr 1;funext _
  congr 1
  funext e
  obtain ⟨e1,e2,e3,e4,e5,e6,e7⟩:=e
  cases e1 <;> rfl
section
variable {prog:Program} {w:World} {A:Around} {E:Value→Shared→Prop} {s:Shared} {κ:KeyKind} {knd:SortKind} {a b:Array Keyed}
theorem q8 {l:Array Keyed} {n:Nat} {y:Keyed} (h:y∈l.toList.take n):∃ j,∃ h:j < l.size,j < n∧y=l[j]:=by
 obtain ⟨i,hi,rfl⟩:=List.mem_iff_getElem.mp h
 rw [List.length_take] at hi
 refine ⟨i,by simp at hi;omega,by omega,?_⟩
 rw [List.getElem_take,Array.getElem_toList]
theorem yP {l:Array Keyed} {n:Nat}:(l.extract 0 n).toList=l.toList.take n:=by
 rw [qh,List.drop_zero,Nat.sub_zero]
theorem ZI {out:Array Keyed} {na nb:Nat}:(qF a b out na nb).toList=a.toList.take na++b.toList.take nb++out.toList.reverse:=by
 unfold qF
 rw [Array.toList_append,Array.toList_append,yP,yP,Array.toList_reverse]
theorem Yt {out:Array Keyed} {na nb:Nat}:(zq a b out na nb).toList=b.toList.take nb++a.toList.take na++out.toList.reverse:=by
 unfold zq
 rw [Array.toList_append,Array.toList_append,yP,yP,Array.toList_reverse]
structure MD (κ:KeyKind) (a b:Array Keyed):Prop where
 ka:∀ i (h:i < a.size),kd κ a[i]
 kb:∀ i (h:i < b.size),kd κ b[i]
 sa:SL κ a.toList
 sb:SL κ b.toList
 first:∀ i (h:i < a.size) (h':0 < b.size),Le κ b[0] a[i]
structure AliveH (κ:KeyKind) (a b:Array Keyed) (N:Nat) (out:Array Keyed) (na nb:Nat):Prop where
 inv:HiI κ a.toList b.toList out.toList na nb
 la:0 < na
 la2:na≤a.size
 lb:1 < nb
 lb2:nb≤b.size
 many:N+na+nb≤a.size+b.size
theorem MD.fin {out:Array Keyed} {na nb:Nat} (C:MD κ a b) (I:HiI κ a.toList b.toList out.toList na nb) (h:na=0∨nb=0):ku κ a.toList b.toList (qF a b out na nb).toList:=by
 rw [ZI]
 refine I.done C.sa C.sb fun x hx y hy=>?_
 rcases h with rfl | rfl
 ·cases hx
 ·cases hy
theorem MD.fin2 {out:Array Keyed} {na nb:Nat} (C:MD κ a b) (I:HiI κ a.toList b.toList out.toList na nb) (h:nb=1):ku κ a.toList b.toList (zq a b out na nb).toList:=by
 rw [Yt]
 refine I.first C.sa C.sb fun x hx y hy=>?_
 obtain ⟨j,hj,g1,rfl⟩:=q8 hx
 obtain ⟨i,hi,g2,rfl⟩:=q8 hy
 have:j=0:=by omega
 subst this
 exact C.first i hi hj
theorem MD.pushA {out:Array Keyed} {na nb:Nat} (C:MD κ a b) (I:HiI κ a.toList b.toList out.toList na nb) (h0:0 < na) (hi:na - 1 < a.size) (h:∀ j (hj:j < b.size),j < nb→Le κ b[j] a[na - 1]):HiI κ a.toList b.toList (out.push a[na - 1]).toList (na - 1) nb:=by
 obtain ⟨n,rfl⟩:∃ n,na=n+1:=⟨na - 1,by omega⟩
 have:=I.pushA C.sa (by simpa using hi) fun y hy=>by
  obtain ⟨j,hj,h1,rfl⟩:=q8 hy
  rw [Array.getElem_toList]
  exact h j hj h1
 rw [Array.getElem_toList] at this
 rw [qN]
 exact this
theorem MD.pushB {out:Array Keyed} {na nb:Nat} (C:MD κ a b) (I:HiI κ a.toList b.toList out.toList na nb) (h0:0 < nb) (hi:nb - 1 < b.size) (h:∀ j (hj:j < a.size),j < na→Le κ a[j] b[nb - 1]):HiI κ a.toList b.toList (out.push b[nb - 1]).toList na (nb - 1):=by
 obtain ⟨n,rfl⟩:∃ n,nb=n+1:=⟨nb - 1,by omega⟩
 have:=I.swap.pushA C.sb (by simpa using hi) fun y hy=>by
  obtain ⟨j,hj,h1,rfl⟩:=q8 hy
  rw [Array.getElem_toList]
  exact h j hj h1
 rw [Array.getElem_toList] at this
 rw [qN]
 exact this.swap
theorem MD.runA {out:Array Keyed} {na nb at_:Nat} (C:MD κ a b) (I:HiI κ a.toList b.toList out.toList na nb) (hk:at_≤na) (hn:na≤a.size) (h:∀ i (hi:i < a.size),at_≤i→i < na→∀ j (hj:j < b.size),j < nb→Le κ b[j] a[i]):HiI κ a.toList b.toList (out++(a.extract at_ na).reverse).toList at_ nb:=by
 obtain ⟨k,rfl⟩:∃ k,na=at_+k:=⟨na - at_,by omega⟩
 have:=HiI.runA C.sa k I (by simpa using hn) fun i hi h1 h2 y hy=>by
  obtain ⟨j,hj,h3,rfl⟩:=q8 hy
  rw [Array.getElem_toList]
  exact h i (by simpa using hi) h1 h2 j hj h3
 rw [Array.toList_append,Array.toList_reverse,qh,Nat.add_sub_cancel_left]
 exact this
theorem MD.runB {out:Array Keyed} {na nb at_:Nat} (C:MD κ a b) (I:HiI κ a.toList b.toList out.toList na nb) (hk:at_≤nb) (hn:nb≤b.size) (h:∀ i (hi:i < b.size),at_≤i→i < nb→∀ j (hj:j < a.size),j < na→Le κ a[j] b[i]):HiI κ a.toList b.toList (out++(b.extract at_ nb).reverse).toList na at_:=by
 obtain ⟨k,rfl⟩:∃ k,nb=at_+k:=⟨nb - at_,by omega⟩
 have:=HiI.runA C.sb k I.swap (by simpa using hn) fun i hi h1 h2 y hy=>by
  obtain ⟨j,hj,h3,rfl⟩:=q8 hy
  rw [Array.getElem_toList]
  exact h i (by simpa using hi) h1 h2 j hj h3
 rw [Array.toList_append,Array.toList_reverse,qh,Nat.add_sub_cancel_left]
 exact this.swap
variable {st:SortSt} {N:Nat}
def PH (κ:KeyKind) (a b:Array Keyed) (st:SortSt) (N:Nat) (r:ForInStep HiT) (st':SortSt):Prop:=(∃ g,st'=kJ st g)∧match r with
 | .done c=>(match c.1 with | some m=>ku κ a.toList b.toList m.toList | none=>AliveH κ a b N c.2.2.2.1 c.2.1 c.2.2.1)
 | .yield c=>c.1=none∧AliveH κ a b N c.2.2.2.1 c.2.1 c.2.2.1
theorem YJ (C:MD κ a b) {out:Array Keyed} {na nb mg ac bc g:Nat} (I:HiI κ a.toList b.toList out.toList na nb) (ha:0 < na) (ha2:na≤a.size) (hb:1 < nb) (hb2:nb≤b.size) (hN:N+na+nb≤a.size+b.size+1) (h:∀ j (hj:j < b.size),j < nb→Le κ b[j] (a[na - 1]'(by omega))) :
  wpS (model prog w) A E s (jbk a b na nb out mg ac bc) (PH κ a b st N) (kJ st g):=by
 unfold jbk
 refine wpS_bind (jI (by omega) ?_)
 have I2:=C.pushA I ha (by omega) h
 by_cases h1:na - 1=0
 ·rw [if_pos (by simpa using h1)]
  exact wpS_pure ⟨⟨g,rfl⟩,C.fin I2 (.inl h1)⟩
 ·rw [if_neg (by simpa using h1)]
  have L:AliveH κ a b N (out.push (a[na - 1]'(by omega))) (na - 1) nb:=⟨I2,by omega,by omega,hb,hb2,by omega⟩
  split
  ·exact wpS_pure ⟨⟨g,rfl⟩,L⟩
  ·exact wpS_pure ⟨⟨g,rfl⟩,rfl,L⟩
theorem jbM (C:MD κ a b) {out:Array Keyed} {na nb mg ac at_ g:Nat} (I:HiI κ a.toList b.toList out.toList na nb) (ha:0 < na) (ha2:na≤a.size) (hb:1 < nb) (hb2:nb≤b.size) (hN:N+na+nb≤a.size+b.size+1) (hk:at_≤nb)
  (hlt:∀ i (hi:i < b.size),i < at_→Le κ b[i] (a[na - 1]'(by omega))) (hge:∀ j (hj:j < b.size),at_≤j→j < nb→Le κ (a[na - 1]'(by omega)) b[j]) :
  wpS (model prog w) A E s (jal a b na nb out mg ac at_) (PH κ a b st N) (kJ st g):=by
 unfold jal
 by_cases h0:nb - at_ > 0
 ·rw [if_pos h0]
  have I2:=C.runB I (at_:=at_) (by omega) hb2 fun i hi h1 h2 j hj h3=>KeyOrd.kle_trans (zx C.sa hj (by omega) (by omega)) (hge i hi h1 h2)
  by_cases h1:at_=1
  ·rw [if_pos (by simpa using h1)]
   exact wpS_pure ⟨⟨g,rfl⟩,C.fin2 I2 h1⟩
  ·rw [if_neg (by simpa using h1)]
   by_cases h2:at_=0
   ·rw [if_pos (by simpa using h2)]
    exact wpS_pure ⟨⟨g,rfl⟩,C.fin I2 (.inr h2)⟩
   ·rw [if_neg (by simpa using h2)]
    exact YJ C I2 ha ha2 (by omega) (by omega) (by omega) fun j hj h3=>hlt j hj h3
 ·rw [if_neg h0]
  exact YJ C I ha ha2 hb hb2 hN fun j hj h3=>hlt j hj (by omega)
theorem Kl (hO:LtAt prog w A E s knd κ) (hkd:kindOf st=knd) (C:MD κ a b) {out:Array Keyed} {na nb mg ac bc g:Nat} (I:HiI κ a.toList b.toList out.toList na nb) (ha:0 < na) (ha2:na≤a.size) (hb:1 < nb) (hb2:nb≤b.size) (hN:N+na+nb≤a.size+b.size)
  (h:∀ j (hj:j < a.size),j < na→Le κ a[j] (b[nb - 1]'(by omega))):wpS (model prog w) A E s (Ys a b na nb out mg ac bc) (PH κ a b st N) (kJ st g):=by
 unfold Ys
 refine wpS_bind (jI (by omega) ?_)
 have I2:=C.pushB I (by omega) (by omega) h
 by_cases h1:nb - 1=1
 ·rw [if_pos (by simpa using h1)]
  exact wpS_pure ⟨⟨g,rfl⟩,C.fin2 I2 h1⟩
 ·rw [if_neg (by simpa using h1)]
  refine wpS_bind (jI (by omega) ?_)
  refine wpS_bind (zP (κ:=κ) hO hkd (C.ka _ (by omega)) (by omega) (by omega) C.kb (fun i j hi hj _ hij _=>zx C.sb hi hj hij) fun k k1 k2 k3=>?_)
  exact jbM C I2 ha ha2 (by omega) (by omega) (by omega) k1 (fun i hi g2=>jaw (k2 i hi (Nat.zero_le _) (by omega))) fun j hj g1 g2=>jax (k3 j hj (by omega) (by omega))
theorem jcz (hO:LtAt prog w A E s knd κ) (hkd:kindOf st=knd) (C:MD κ a b) {out:Array Keyed} {na nb mg ac bc g:Nat} (L:AliveH κ a b N out na nb):wpS (model prog w) A E s (jbj a b na nb out mg ac bc) (PH κ a b st N) (kJ st g):=by
 obtain ⟨I,ha,ha2,hb,hb2,hN⟩:=L
 unfold jbj
 rw [kw]
 refine wpS_bind (wpS_modify ?_)
 refine wpS_bind (jI (by omega) ?_)
 refine wpS_bind (zP (κ:=κ) hO hkd (C.kb _ (by omega)) (by omega) (by omega) C.ka (fun i j hi hj _ hij _=>zx C.sa hi hj hij) fun k k1 k2 k3=>?_)
 have le:∀ i (hi:i < a.size),i < k→Le κ a[i] (b[nb - 1]'(by omega)):=fun i hi g2=>jay (k2 i hi (Nat.zero_le _) (by omega))
 have gt:∀ i (hi:i < a.size),k≤i→i < na→Le κ (b[nb - 1]'(by omega)) a[i]:=fun i hi g1 g2=>KeyOrd.kle_of_klt (jaz (k3 i hi (by omega) (by omega)))
 dsimp only
 by_cases h0:na - k > 0
 ·rw [if_pos h0]
  have I2:=C.runA I (at_:=k) (by omega) ha2 fun i hi g1 g2 j hj g3=>KeyOrd.kle_trans (zx C.sb hj (by omega) (by omega)) (gt i hi g1 g2)
  by_cases h1:k=0
  ·rw [if_pos (by simpa using h1)]
   exact wpS_pure ⟨⟨mg,rfl⟩,C.fin I2 (.inl h1)⟩
  ·rw [if_neg (by simpa using h1)]
   exact Kl (st:=st) (g:=mg) hO hkd C I2 (by omega) (by omega) hb hb2 (by omega) fun j hj g1=>le j hj g1
 ·rw [if_neg h0]
  exact Kl (st:=st) (g:=mg) hO hkd C I ha ha2 hb hb2 hN fun j hj g1=>le j hj (by omega)
theorem AliveH.le {M:Nat} {out:Array Keyed} {na nb:Nat} (h:AliveH κ a b N out na nb) (hm:M≤N):AliveH κ a b M out na nb:=⟨h.inv,h.la,h.la2,h.lb,h.lb2,by have:=h.many;omega⟩
def PH1 (κ:KeyKind) (a b:Array Keyed) (st:SortSt) (N:Nat) (r:ForInStep jaE) (st':SortSt):Prop:=st'=st∧match r with
 | .done c=>(match c.1 with | some m=>ku κ a.toList b.toList m.toList | none=>AliveH κ a b N c.2.2.2.1 c.2.1 c.2.2.1)
 | .yield c=>c.1=none∧AliveH κ a b N c.2.2.2.1 c.2.1 c.2.2.1
theorem jcy (hO:LtAt prog w A E s knd κ) (hkd:kindOf st=knd) (C:MD κ a b) {mg:Nat} {c:jaE} (L:AliveH κ a b N c.2.2.2.1 c.2.1 c.2.2.1):wpS (model prog w) A E s (jdF a b mg c) (PH1 κ a b st (N+1)) st:=by
 obtain ⟨r,na,nb,out,ac,bc⟩:=c
 obtain ⟨I,ha,ha2,hb,hb2,hN⟩:=L
 dsimp only at I ha ha2 hb hb2 hN
 unfold jdF
 dsimp only
 have ha':na - 1 < a.size:=by omega
 have hb':nb - 1 < b.size:=by omega
 refine wpS_bind (jI hb' ?_)
 refine wpS_bind (jI ha' ?_)
 refine wpS_bind (K4 hO hkd (C.kb _ hb') (C.ka _ ha') ?_)
 dsimp only
 cases hw:κ.blt (kq κ b[nb - 1]) (kq κ a[na - 1]) with
 | true=>
  simp only [if_true]
  refine wpS_bind (jI ha' ?_)
  have I2:=C.pushA I ha ha' fun j hj h1=>KeyOrd.kle_trans (zx C.sb hj hb' (by omega)) (KeyOrd.kle_of_klt (show κ.klt _ _ from hw))
  by_cases h1:na - 1=0
  ·rw [if_pos (by simpa using h1)]
   exact wpS_pure ⟨rfl,C.fin I2 (.inl h1)⟩
  ·rw [if_neg (by simpa using h1)]
   have L2:AliveH κ a b (N+1) (out.push a[na - 1]) (na - 1) nb:=⟨I2,by omega,by omega,hb,hb2,by omega⟩
   split
   ·exact wpS_pure ⟨rfl,L2⟩
   ·exact wpS_pure ⟨rfl,rfl,L2⟩
 | false=>
  simp only [Bool.false_eq_true,if_false]
  refine wpS_bind (jI hb' ?_)
  have I2:=C.pushB I (by omega) hb' fun j hj h1=>KeyOrd.kle_trans (zx C.sa hj ha' (by omega)) (show κ.kle _ _ from hw)
  by_cases h1:nb - 1=1
  ·rw [if_pos (by simpa using h1)]
   exact wpS_pure ⟨rfl,C.fin2 I2 h1⟩
  ·rw [if_neg (by simpa using h1)]
   have L2:AliveH κ a b (N+1) (out.push b[nb - 1]) na (nb - 1):=⟨I2,ha,ha2,by omega,by omega,by omega⟩
   split
   ·exact wpS_pure ⟨rfl,L2⟩
   ·exact wpS_pure ⟨rfl,rfl,L2⟩
def PH0 (κ:KeyKind) (a b:Array Keyed) (st:SortSt) (N:Nat) (r:ForInStep jaF) (st':SortSt):Prop:=(∃ g,st'=kJ st g)∧match r with
 | .done c=>∃ m,c.1=some m∧ku κ a.toList b.toList m.toList
 | .yield c=>c.1=none∧AliveH κ a b N c.2.2.2.1 c.2.1 c.2.2.1
theorem jbL (hO:LtAt prog w A E s knd κ) (hkd:kindOf st=knd) (C:MD κ a b) {c:jaF} {g:Nat} (L:AliveH κ a b N c.2.2.2.1 c.2.1 c.2.2.1):wpS (model prog w) A E s (Yr a b c) (PH0 κ a b st (N+1)) (kJ st g):=by
 obtain ⟨r,na,nb,out,mg⟩:=c
 dsimp only at L
 unfold Yr
 dsimp only
 have htot:0 < a.size+b.size:=by have:=L.lb;have:=L.lb2;omega
 refine wpS_bind (wpS_mono (wpS_forRange (I:=fun (x:Nat) (d:jaE) (st':SortSt)=>st'=kJ st g∧d.1=none∧AliveH κ a b (N+min x 1) d.2.2.2.1 d.2.1 d.2.2.1)
  (Q:=fun (d:jaE) (st':SortSt)=>st'=kJ st g∧match d.1 with | some m=>ku κ a.toList b.toList m.toList | none=>AliveH κ a b (N+1) d.2.2.2.1 d.2.1 d.2.2.1) ?step ?fin ⟨rfl,rfl,L⟩) ?post)
 case fin=>
  rintro d st' ⟨rfl,hd,L'⟩
  refine ⟨rfl,?_⟩
  rw [hd]
  exact L'.le (by omega)
 case step=>
  rintro x d st' _ hx ⟨rfl,hd,L'⟩
  refine wpS_mono (jcy (st:=kJ st g) hO hkd C L') fun r st2 hr=>?_
  obtain ⟨rfl,hr⟩:=hr
  cases r with
  | done e=>
   refine ⟨rfl,?_⟩
   dsimp only at hr ⊢
   cases he:e.1 with
   | some m=>rw [he] at hr;exact hr
   | none=>rw [he] at hr;exact AliveH.le hr (by omega)
  | yield e=>exact ⟨rfl,hr.1,hr.2.le (by omega)⟩
 case post=>
  rintro ⟨d1,d2,d3,d4,d5,d6⟩ st' ⟨rfl,hd⟩
  cases d1 with
  | some m=>exact wpS_pure ⟨⟨g,rfl⟩,m,rfl,hd⟩
  | none=>
   dsimp only at hd ⊢
   refine wpS_bind (wpS_lift (wpAny_rule ⟨rfl,?_⟩))
   refine wpS_bind (wpS_mono (wpS_forRange (I:=fun (x:Nat) (e:HiT) (st':SortSt)=>(∃ g',st'=kJ st g')∧e.1=none∧AliveH κ a b (N+1) e.2.2.2.1 e.2.1 e.2.2.1)
    (Q:=fun (e:HiT) (st':SortSt)=>(∃ g',st'=kJ st g')∧match e.1 with | some m=>ku κ a.toList b.toList m.toList | none=>AliveH κ a b (N+1) e.2.2.2.1 e.2.1 e.2.2.1) ?step2 ?fin2 ⟨⟨g,rfl⟩,rfl,hd⟩) ?post2)
   case fin2=>
    rintro e st' ⟨hg,he,L'⟩
    refine ⟨hg,?_⟩
    rw [he]
    exact L'
   case step2=>
    rintro x e st' _ hx ⟨⟨g',rfl⟩,he,L'⟩
    split
    all_goals
     refine wpS_mono (jcz (st:=st) hO hkd C L') fun r st2 hr=>?_
     obtain ⟨hg,hr⟩:=hr
     cases r with
     | done e=>exact ⟨hg,hr⟩
     | yield e=>exact ⟨hg,hr⟩
   case post2=>
    rintro ⟨e1,e2,e3,e4,e5,e6,e7⟩ st' ⟨⟨g',rfl⟩,he⟩
    cases e1 with
    | some m=>exact wpS_pure ⟨⟨g',rfl⟩,m,rfl,he⟩
    | none=>
     dsimp only at he ⊢
     rw [kw]
     exact wpS_bind (wpS_modify (wpS_pure ⟨⟨_,rfl⟩,rfl,he⟩))
theorem YL {Q:Array Keyed→SortSt→Prop} (hO:LtAt prog w A E s knd κ) (hkd:kindOf st=knd) (C:MD κ a b) (ha:0 < a.size) (hb:0 < b.size) (h1:∀ j (h:j < b.size),Le κ b[j] (a[a.size - 1]'(by omega)))
  (h:∀ m g,ku κ a.toList b.toList m.toList→Q m (kJ st g)):wpS (model prog w) A E s (yI a b) Q st:=by
 rw [Zn]
 refine wpS_bind (wpS_lift (wpAny_rule ⟨rfl,?_⟩))
 refine wpS_bind (jI (by omega) ?_)
 have I:HiI κ a.toList b.toList (#[a[a.size - 1]'(by omega)]:Array Keyed).toList (a.size - 1) b.size:=by
  have I0:HiI κ a.toList b.toList (#[]:Array Keyed).toList a.size b.size:=⟨by rw [List.drop_eq_nil_of_le (by simp),List.drop_eq_nil_of_le (by simp)];exact List.Perm.refl _,List.Pairwise.nil,fun x hx=>(by cases hx),fun x hx=>(by cases hx)⟩
  exact C.pushA I0 ha (by omega) fun j hj _=>h1 j hj
 by_cases hb1:a.size - 1=0
 ·rw [if_pos (by simpa using hb1)]
  exact wpS_pure (h _ (gallopOf st) (C.fin I (.inl hb1)))
 ·rw [if_neg (by simpa using hb1)]
  by_cases ha1:b.size=1
  ·rw [if_pos (by simpa using ha1)]
   exact wpS_pure (h _ (gallopOf st) (C.fin2 I ha1))
  ·rw [if_neg (by simpa using ha1)]
   refine wpS_bind (wpS_get ?_)
   refine wpS_bind (wpS_mono (wpS_forRange (I:=fun (x:Nat) (c:jaF) (st':SortSt)=>(∃ g,st'=kJ st g)∧c.1=none∧AliveH κ a b x c.2.2.2.1 c.2.1 c.2.2.1)
    (Q:=fun (c:jaF) (st':SortSt)=>(∃ g,st'=kJ st g)∧∃ m,c.1=some m∧ku κ a.toList b.toList m.toList) ?step ?fin ⟨⟨gallopOf st,rfl⟩,rfl,I,(by show 0 < a.size - 1;omega),(by show a.size - 1≤a.size;omega),(by show 1 < b.size;omega),Nat.le_refl _,(by show 0+(a.size - 1)+b.size≤_;omega)⟩) ?post)
   case fin=>
    rintro c st' ⟨hg,hc,L⟩
    have:=L.many
    have:=L.la
    have:=L.lb
    omega
   case step=>
    rintro x c st' _ hx ⟨⟨g,rfl⟩,hc,L⟩
    refine wpS_mono (jbL (st:=st) hO hkd C L) fun r st2 hr=>?_
    obtain ⟨hg,hr⟩:=hr
    cases r with
    | done e=>exact ⟨hg,hr⟩
    | yield e=>exact ⟨hg,hr⟩
   case post=>
    rintro ⟨c1,c2⟩ st' ⟨⟨g,rfl⟩,m,hm,hg⟩
    dsimp only at hm
    subst hm
    exact wpS_pure (h m g hg)
end
def ke (sa:Nat) (M:List Keyed) (arr:Array Keyed):Array Keyed:=M.zipIdx.foldl (fun a (p,j)=>a.setIfInBounds (sa+j) p) arr
def jgU (arr:Array Keyed) (sa na sb nb:Nat):StateT SortSt Sem Bool:=do
 let m ← if na≤nb then yH (arr.extract sa sb) (arr.extract sb (sb+nb)) else yI (arr.extract sa sb) (arr.extract sb (sb+nb))
 modify fun s=>setArr s (ke sa m.toList (arrOf s))
 return (failedOf (← get)).isNone
def jfZ (arr:Array Keyed) (sa na sb nb:Nat):StateT SortSt Sem Bool:=
 if (na == 0)=true then pure true else do
  let x ← elem' arr (sa+na - 1)
  match ← qf true x arr sb nb (nb - 1) with
  | some m=>if (m == 0)=true then pure true else jgU arr sa na sb m
  | _=>pure false
def jgV (arr:Array Keyed) (sa na sb nb:Nat):StateT SortSt Sem Bool:=do
 let y ← elem' arr sb
 match ← qf false y arr sa na 0 with
 | some k=>jfZ arr (sa+k) (na - k) sb nb
 | _=>pure false
theorem YH (sa:Nat):∀ (M:List Keyed) (n:Nat) (arr:Array Keyed),sa+n+M.length≤arr.size→
  ((M.zipIdx n).foldl (fun a (p,j)=>a.setIfInBounds (sa+j) p) arr).toList=arr.toList.take (sa+n)++M++arr.toList.drop (sa+n+M.length)
 | [],n,arr,h=>by simp
 | x :: M,n,arr,h=>by
  rw [List.length_cons] at h
  rw [List.zipIdx_cons,List.foldl_cons]
  have ih:=YH sa M (n+1) (arr.setIfInBounds (sa+n) x) (by rw [Array.size_setIfInBounds];omega)
  have hl:sa+n < arr.toList.length:=by rw [Array.length_toList];omega
  have e:(arr.setIfInBounds (sa+n) x).toList=(arr.toList.take (sa+n)++[x])++arr.toList.drop (sa+n+1):=by
   rw [Array.toList_setIfInBounds,List.set_eq_take_append_cons_drop,if_pos hl,List.append_assoc]
   rfl
  have l1:(arr.toList.take (sa+n)++[x]).length=sa+n+1:=by
   rw [List.length_append,List.length_take]
   show min _ _+1=_
   omega
  rw [ih,e]
  have e1:sa+(n+1)=sa+n+1:=rfl
  rw [e1,List.take_left' l1,List.drop_append,l1]
  have e2:List.drop (sa+n+1+M.length) (arr.toList.take (sa+n)++[x])=[]:=List.drop_eq_nil_of_le (by omega)
  have e3:sa+n+1+M.length - (sa+n+1)=M.length:=by omega
  rw [e2,e3,List.drop_drop,List.length_cons]
  have e4:sa+n+1+M.length=sa+n+(M.length+1):=by omega
  rw [e4]
  simp
theorem JG {sa:Nat} {M:List Keyed} {arr:Array Keyed} (h:sa+M.length≤arr.size):(ke sa M arr).toList=arr.toList.take sa++M++arr.toList.drop (sa+M.length):=YH sa M 0 arr h
theorem yu {sa:Nat} {M:List Keyed} {arr:Array Keyed} (h:sa+M.length≤arr.size) (k:Nat):(ke sa M arr)[k]?=if sa≤k∧k < sa+M.length then M[k - sa]? else arr[k]?:=by
 rw [← Array.getElem?_toList,JG h]
 have hl:(arr.toList.take sa).length=sa:=by rw [List.length_take,Array.length_toList];omega
 by_cases h1:k < sa
 ·rw [if_neg (by omega),List.append_assoc,List.getElem?_append_left (by omega),List.getElem?_take,if_pos h1,Array.getElem?_toList]
 ·by_cases h2:k < sa+M.length
  ·rw [if_pos ⟨by omega,h2⟩,List.append_assoc,List.getElem?_append_right (by omega),hl,List.getElem?_append_left (by omega)]
  ·rw [if_neg (by omega),List.append_assoc,List.getElem?_append_right (by omega),hl,List.getElem?_append_right (by omega),List.getElem?_drop,Array.getElem?_toList]
   congr 1
   omega
theorem ZP {sa:Nat} {M:List Keyed} {arr:Array Keyed} (h:sa+M.length≤arr.size) (hp:M.Perm ((arr.toList.drop sa).take M.length)):(ke sa M arr).Perm arr:=by
 rw [Array.perm_iff_toList_perm,JG h]
 have e:arr.toList=arr.toList.take sa++(arr.toList.drop sa).take M.length++arr.toList.drop (sa+M.length):=by
  rw [List.append_assoc,← List.drop_drop,List.take_append_drop,List.take_append_drop]
 refine List.Perm.trans ?_ (List.Perm.of_eq e.symm)
 exact (hp.append_left _).append_right _
section
variable {prog:Program} {w:World} {A:Around} {E:Value→Shared→Prop} {s:Shared} {κ:KeyKind} {knd:SortKind} {st:SortSt} {arr:Array Keyed}
def Seg (κ:KeyKind) (arr:Array Keyed) (lo hi:Nat):Prop:=∀ i j,lo≤i→i≤j→j < hi→κ.kle (KK κ arr i) (KK κ arr j)
theorem yT {i:Nat} (h:i < arr.size):KK κ arr i=kq κ arr[i]:=by
 unfold KK kq
 rw [getElem?_pos arr i h]
theorem jcX {lo hi:Nat} (h:Seg κ arr lo hi) (hh:hi≤arr.size):SL κ (arr.extract lo hi).toList:=by
 refine List.pairwise_iff_getElem.mpr ?_
 intro i j hi' hj' hij
 have e1:(arr.extract lo hi).toList.length=hi - lo:=by simp;omega
 rw [Array.getElem_toList,Array.getElem_toList,Array.getElem_extract,Array.getElem_extract]
 have:=h (lo+i) (lo+j) (by omega) (by omega) (by omega)
 rw [yT (by omega),yT (by omega)] at this
 exact this
theorem jee {Q:PUnit→SortSt→Prop} {st st2:SortSt} (h:Q ⟨⟩ st2):wpS (model prog w) A E s (set st2:StateT SortSt Sem PUnit) Q st:=by
 unfold wpS;rw [StateT.run_set];exact wpAny_pure ⟨rfl,h⟩
abbrev jbT (st:SortSt) (arr:Array Keyed) (pend:Array (Nat×Nat×Nat)) (g:Nat):SortSt:=SortSt.mk' (kindOf st) arr pend g (failedOf st)
theorem YM {Q:Bool→SortSt→Prop} {i sa na pw nb pw':Nat} (hO:LtAt prog w A E s knd κ) (hk:kindOf st=knd) (hf:failedOf st=none) (hy:∀ i (h:i < (arrOf st).size),kd κ (arrOf st)[i]) (hp1:(pendingOf st)[i]?=some (sa,na,pw)) (hp2:(pendingOf st)[i+1]?=some (sa+na,nb,pw'))
  (h0:0 < na) (h1:0 < nb) (hz:sa+na+nb≤(arrOf st).size) (S1:Seg κ (arrOf st) sa (sa+na)) (S2:Seg κ (arrOf st) (sa+na) (sa+na+nb))
  (h:∀ arr' g,arr'.Perm (arrOf st)→Seg κ arr' sa (sa+na+nb)→(∀ k,k < sa∨sa+na+nb≤k→arr'[k]?=(arrOf st)[k]?)→Q true (jbT st arr' (((pendingOf st).setIfInBounds i (sa,na+nb,pw)).eraseIdxIfInBounds (i+1)) g)) :
  wpS (model prog w) A E s (mergeAt' i) Q st:=by
 have e0:mergeAt' i=((get:StateT SortSt Sem SortSt) >>= (_:SortSt→StateT SortSt Sem Bool)):=rfl
 rw [e0]
 refine wpS_bind (wpS_get ?_)
 rw [hp1,hp2]
 show wpS _ _ _ _ (set (setPending st (((pendingOf st).setIfInBounds i (sa,na+nb,pw)).eraseIdxIfInBounds (i+1))) >>= fun _=>jgV (arrOf st) sa na (sa+na) nb) Q st
 refine wpS_bind (jee ?_)
 unfold jgV
 refine wpS_bind (jI (by omega) ?_)
 generalize hP:((pendingOf st).setIfInBounds i (sa,na+nb,pw)).eraseIdxIfInBounds (i+1)=P at *
 have seg1:∀ i j (hi:i < (arrOf st).size) (hj:j < (arrOf st).size),sa≤i→i≤j→j < sa+na→Le κ (arrOf st)[i] (arrOf st)[j]:=fun i j hi hj g1 g2 g3=>by
  have:=S1 i j g1 g2 g3
  rw [yT hi,yT hj] at this
  exact this
 have seg2:∀ i j (hi:i < (arrOf st).size) (hj:j < (arrOf st).size),sa+na≤i→i≤j→j < sa+na+nb→Le κ (arrOf st)[i] (arrOf st)[j]:=fun i j hi hj g1 g2 g3=>by
  have:=S2 i j g1 g2 g3
  rw [yT hi,yT hj] at this
  exact this
 refine wpS_bind (zP (st:=setPending st P) (κ:=κ) hO hk (hy _ (by omega)) (by omega) h0 hy seg1 fun k k1 k2 k3=>?_)
 have kk:∀ i (hi:i < (arrOf st).size),KK κ (arrOf st) i=kq κ (arrOf st)[i]:=fun i hi=>yT hi
 have F1:∀ i,sa≤i→i < sa+k→κ.kle (KK κ (arrOf st) i) (KK κ (arrOf st) (sa+na)):=fun i g1 g2=>by
  rw [kk i (by omega),kk (sa+na) (by omega)]
  exact jay (k2 i (by omega) g1 g2)
 show wpS _ _ _ _ (jfZ (arrOf st) (sa+k) (na - k) (sa+na) nb) Q _
 unfold jfZ
 by_cases hk0:na - k=0
 ·rw [if_pos (by simpa using hk0)]
  refine wpS_pure (h (arrOf st) (gallopOf st) (Array.Perm.refl _) (fun i j g1 g2 g3=>?_) fun _ _=>rfl)
  by_cases hj:j < sa+na
  ·exact S1 i j g1 g2 hj
  ·by_cases hi:i < sa+na
   ·exact KeyOrd.kle_trans (F1 i g1 (by omega)) (S2 (sa+na) j (by omega) (by omega) g3)
   ·exact S2 i j (by omega) g2 g3
 ·rw [if_neg (by simpa using hk0)]
  have eix:sa+k+(na - k) - 1=sa+na - 1:=by omega
  rw [eix]
  refine wpS_bind (jI (by omega) ?_)
  refine wpS_bind (zP (st:=setPending st P) (κ:=κ) hO hk (hy _ (by omega)) (by omega) (by omega) hy seg2 fun m m1 m2 m3=>?_)
  have F2:∀ j,sa+na+m≤j→j < sa+na+nb→κ.kle (KK κ (arrOf st) (sa+na - 1)) (KK κ (arrOf st) j):=fun j g1 g2=>by
   rw [kk j (by omega),kk (sa+na - 1) (by omega)]
   exact jax (m3 j (by omega) g1 g2)
  dsimp only
  by_cases hm0:m=0
  ·rw [if_pos (by simpa using hm0)]
   refine wpS_pure (h (arrOf st) (gallopOf st) (Array.Perm.refl _) (fun i j g1 g2 g3=>?_) fun _ _=>rfl)
   by_cases hj:j < sa+na
   ·exact S1 i j g1 g2 hj
   ·by_cases hi:i < sa+na
    ·exact KeyOrd.kle_trans (S1 i (sa+na - 1) g1 (by omega) (by omega)) (F2 j (by omega) g3)
    ·exact S2 i j (by omega) g2 g3
  ·rw [if_neg (by simpa using hm0)]
   unfold jgU
   have sx:((arrOf st).extract (sa+k) (sa+na)).size=na - k:=by simp;omega
   have sy:((arrOf st).extract (sa+na) (sa+na+m)).size=m:=by simp;omega
   have SX:SL κ ((arrOf st).extract (sa+k) (sa+na)).toList:=jcX (fun i j g1 g2 g3=>S1 i j (by omega) g2 g3) (by omega)
   have SY:SL κ ((arrOf st).extract (sa+na) (sa+na+m)).toList:=jcX (fun i j g1 g2 g3=>S2 i j g1 g2 (by omega)) (by omega)
   have fin:∀ (M:Array Keyed) (g:Nat),ku κ ((arrOf st).extract (sa+k) (sa+na)).toList ((arrOf st).extract (sa+na) (sa+na+m)).toList M.toList→Q true (jbT st (ke (sa+k) M.toList (arrOf st)) P g):=by
    rintro M g ⟨hperm,hsl⟩
    have hlen:M.toList.length=na - k+m:=by
     rw [hperm.length_eq,List.length_append,Array.length_toList,Array.length_toList,sx,sy]
    have hb:sa+k+M.toList.length≤(arrOf st).size:=by omega
    have eXY:((arrOf st).extract (sa+k) (sa+na)).toList++((arrOf st).extract (sa+na) (sa+na+m)).toList=((arrOf st).toList.drop (sa+k)).take M.toList.length:=by
     rw [qh,qh,hlen,List.take_add,List.drop_drop]
     have e1:sa+na - (sa+k)=na - k:=by omega
     have e2:sa+na+m - (sa+na)=m:=by omega
     have e3:sa+k+(na - k)=sa+na:=by omega
     rw [e1,e2,e3]
    rw [eXY] at hperm
    have zone:∀ i,sa+k≤i→i < sa+na+m→∃ p,sa+k≤p∧p < sa+na+m∧KK κ (ke (sa+k) M.toList (arrOf st)) i=KK κ (arrOf st) p:=fun i g1 g2=>by
     have hi:i - (sa+k) < M.toList.length:=by omega
     have hw:=yu hb i
     rw [if_pos ⟨g1,by omega⟩,List.getElem?_eq_getElem hi] at hw
     have hmem:=hperm.mem_iff.mp (List.getElem_mem hi)
     obtain ⟨q,hq,eq⟩:=List.mem_iff_getElem.mp hmem
     have hq':q < M.toList.length:=by
      have:=hq
      rw [List.length_take] at this
      omega
     refine ⟨sa+k+q,by omega,by omega,KK_congr ?_⟩
     rw [hw,← eq,List.getElem_take,List.getElem_drop,Array.getElem_toList,getElem?_pos (arrOf st) (sa+k+q) (by omega)]
    have off:∀ i,i < sa+k∨sa+na+m≤i→(ke (sa+k) M.toList (arrOf st))[i]?=(arrOf st)[i]?:=fun i g1=>by
     rw [yu hb,if_neg (by omega)]
    have offK:∀ i,i < sa+k∨sa+na+m≤i→KK κ (ke (sa+k) M.toList (arrOf st)) i=KK κ (arrOf st) i:=fun i g1=>KK_congr (off i g1)
    refine h _ g (ZP hb hperm) (fun i j g1 g2 g3=>?_) fun i g1=>off i (by omega)
    by_cases zi:i < sa+k
    ·rw [offK i (.inl zi)]
     by_cases zj:j < sa+k
     ·rw [offK j (.inl zj)]
      exact S1 i j g1 g2 (by omega)
     ·by_cases zj2:j < sa+na+m
      ·obtain ⟨p,p1,p2,ep⟩:=zone j (by omega) zj2
       rw [ep]
       by_cases hp:p < sa+na
       ·exact S1 i p g1 (by omega) hp
       ·exact KeyOrd.kle_trans (F1 i g1 zi) (S2 (sa+na) p (by omega) (by omega) (by omega))
      ·rw [offK j (.inr (by omega))]
       exact KeyOrd.kle_trans (F1 i g1 zi) (S2 (sa+na) j (by omega) (by omega) g3)
    ·by_cases zi2:i < sa+na+m
     ·by_cases zj2:j < sa+na+m
      ·have hi:i - (sa+k) < M.toList.length:=by omega
       have hj:j - (sa+k) < M.toList.length:=by omega
       have wi:=yu hb i
       have wj:=yu hb j
       rw [if_pos ⟨by omega,by omega⟩,List.getElem?_eq_getElem hi] at wi
       rw [if_pos ⟨by omega,by omega⟩,List.getElem?_eq_getElem hj] at wj
       have ki:KK κ (ke (sa+k) M.toList (arrOf st)) i=kq κ (M.toList[i - (sa+k)]):=by unfold KK kq;rw [wi]
       have kj:KK κ (ke (sa+k) M.toList (arrOf st)) j=kq κ (M.toList[j - (sa+k)]):=by unfold KK kq;rw [wj]
       rw [ki,kj]
       rcases Nat.lt_or_ge i j with hlt | hge
       ·exact List.pairwise_iff_getElem.mp hsl _ _ hi hj (by omega)
       ·have:i=j:=by omega
        subst this
        exact KeyOrd.kle_refl _
      ·obtain ⟨p,p1,p2,ep⟩:=zone i (by omega) zi2
       rw [ep,offK j (.inr (by omega))]
       by_cases hp:p < sa+na
       ·exact KeyOrd.kle_trans (S1 p (sa+na - 1) (by omega) (by omega) (by omega)) (F2 j (by omega) g3)
       ·exact S2 p j (by omega) (by omega) g3
     ·rw [offK i (.inr (by omega)),offK j (.inr (by omega))]
      exact S2 i j (by omega) g2 g3
   have kX:∀ i (h:i < ((arrOf st).extract (sa+k) (sa+na)).size),kd κ ((arrOf st).extract (sa+k) (sa+na))[i]:=fun i hi=>by
    rw [Array.getElem_extract];exact hy _ _
   have kY:∀ i (h:i < ((arrOf st).extract (sa+na) (sa+na+m)).size),kd κ ((arrOf st).extract (sa+na) (sa+na+m))[i]:=fun i hi=>by
    rw [Array.getElem_extract];exact hy _ _
   have lastF:∀ j (hj:j < ((arrOf st).extract (sa+na) (sa+na+m)).size) (h':((arrOf st).extract (sa+k) (sa+na)).size - 1 < ((arrOf st).extract (sa+k) (sa+na)).size),Le κ ((arrOf st).extract (sa+na) (sa+na+m))[j] ((arrOf st).extract (sa+k) (sa+na))[((arrOf st).extract (sa+k) (sa+na)).size - 1]:=fun j hj h'=>by
    rw [Array.getElem_extract,Array.getElem_extract]
    have e:sa+k+(((arrOf st).extract (sa+k) (sa+na)).size - 1)=sa+na - 1:=by omega
    have:=jaw (m2 (sa+na+j) (by omega) (by omega) (by omega))
    simp only [e]
    exact this
   have firstF:∀ i (hi:i < ((arrOf st).extract (sa+k) (sa+na)).size) (h':0 < ((arrOf st).extract (sa+na) (sa+na+m)).size),Le κ ((arrOf st).extract (sa+na) (sa+na+m))[0] ((arrOf st).extract (sa+k) (sa+na))[i]:=fun i hi h'=>by
    rw [Array.getElem_extract,Array.getElem_extract]
    exact KeyOrd.kle_of_klt (jaz (k3 (sa+k+i) (by omega) (by omega) (by omega)))
   split
   ·refine wpS_bind (YK (st:=setPending st P) hO hk ⟨kX,kY,SX,SY,lastF⟩ (by omega) (by omega) (fun i hi=>firstF i hi (by omega)) fun M g hM=>?_)
    refine wpS_bind (wpS_modify ?_)
    refine wpS_bind (wpS_get ?_)
    refine wpS_pure ?_
    have:=fin M g hM
    have ef:(failedOf (jbT st (ke (sa+k) M.toList (arrOf st)) P g)).isNone=true:=by show (failedOf st).isNone=true;rw [hf];rfl
    show Q (failedOf (jbT st (ke (sa+k) M.toList (arrOf st)) P g)).isNone _
    rw [ef]
    exact this
   ·refine wpS_bind (YL (st:=setPending st P) hO hk ⟨kX,kY,SX,SY,firstF⟩ (by omega) (by omega) (fun j hj=>lastF j hj (by omega)) fun M g hM=>?_)
    refine wpS_bind (wpS_modify ?_)
    refine wpS_bind (wpS_get ?_)
    refine wpS_pure ?_
    have:=fin M g hM
    have ef:(failedOf (jbT st (ke (sa+k) M.toList (arrOf st)) P g)).isNone=true:=by show (failedOf st).isNone=true;rw [hf];rfl
    show Q (failedOf (jbT st (ke (sa+k) M.toList (arrOf st)) P g)).isNone _
    rw [ef]
    exact this
end
def je3 (lo a nrem:Nat):StateT SortSt Sem AscSt:=
 forIn [a:nrem] ((none,a):AscSt) fun _ c=>do
  let x ← ltAt' (lo+c.snd) (lo+c.snd - 1)
  match x with
  | some smaller=>if smaller=true then pure (ForInStep.done (none,c.snd)) else pure (ForInStep.yield (none,c.snd+1))
  | _=>pure (ForInStep.done (some none,c.snd))
def jaK (lo n nrem:Nat):StateT SortSt Sem (Option Nat):=do
 reverseSlice' lo (lo+n)
 let c ← je3 lo n nrem
 match c.fst with
 | some r=>pure r
 | none=>pure (some c.snd)
def jdU (lo n nrem:Nat):StateT SortSt Sem DescSt:=
 forIn [n:nrem] ((none,n,0):DescSt) fun _ c=>do
  let x ← ltAt' (lo+c.snd.fst) (lo+c.snd.fst - 1)
  match x with
  | some smaller=>
   if smaller=true then
    if c.snd.snd > 0 then do
     reverseSlice' (lo+c.snd.fst - (c.snd.snd+1)) (lo+c.snd.fst)
     pure (ForInStep.yield (none,c.snd.fst+1,0))
    else pure (ForInStep.yield (none,c.snd.fst+1,0))
   else do
    let x ← ltAt' (lo+c.snd.fst - 1) (lo+c.snd.fst)
    match x with
    | some larger=>
     if larger=true then pure (ForInStep.done (none,c.snd.fst,c.snd.snd))
     else pure (ForInStep.yield (none,c.snd.fst+1,c.snd.snd+1))
    | _=>pure (ForInStep.done (some none,c.snd.fst,c.snd.snd))
  | _=>pure (ForInStep.done (some none,c.snd.fst,c.snd.snd))
def ja3 (lo n nrem:Nat):StateT SortSt Sem (Option Nat):=do
 liftM (rule "list.sort.descending-run")
 let c ← jdU lo (n+1) nrem
 match c.fst with
 | some r=>pure r
 | none=>
  if c.snd.snd > 0 then do
   reverseSlice' (lo+c.snd.fst - (c.snd.snd+1)) (lo+c.snd.fst)
   jaK lo c.snd.fst nrem
  else jaK lo c.snd.fst nrem
theorem Yw (lo nrem:Nat):countRun' lo nrem=(do
  let c ← je3 lo 1 nrem
  match c.fst with
  | some r=>pure r
  | none=>
   if (c.snd == nrem)=true then pure (some c.snd)
   else if c.snd > 1 then do
    let x ← ltAt' lo (lo+c.snd - 1)
    match x with
    | some rose=>if rose=true then pure (some c.snd) else do
      reverseSlice' lo (lo+c.snd)
      ja3 lo c.snd nrem
    | _=>pure none
   else ja3 lo c.snd nrem):=by
 rw [countRun'_eq]
 dsimp only
 unfold ja3 jaK jdU je3
 congr 1
 funext c
 obtain ⟨r,n⟩:=c
 cases r with
 | some r=>rfl
 | none=>
  dsimp only
  split
  ·rfl
  ·split
   ·congr 1
    funext x
    cases x with
    | none=>rfl
    | some rose=>
     dsimp only
     split
     ·rfl
     ·congr 1
      funext _r
      congr 1
      funext u1
      congr 1
      congr 1
      funext d
      obtain ⟨d1,d2,d3⟩:=d
      cases d1 with
      | some _=>rfl
      | none=>
       dsimp only
       split
       ·congr 1
        funext u2
        congr 1
        funext u3
        congr 1
        funext e
        obtain ⟨e1,e2⟩:=e
        cases e1 <;> rfl
       ·congr 1
        funext u3
        congr 1
        funext e
        obtain ⟨e1,e2⟩:=e
        cases e1 <;> rfl
   ·congr 1
    funext u1
    congr 1
    congr 1
    funext d
    obtain ⟨d1,d2,d3⟩:=d
    cases d1 with
    | some _=>rfl
    | none=>
     dsimp only
     split
     ·congr 1
      funext u2
      congr 1
      funext u3
      congr 1
      funext e
      obtain ⟨e1,e2⟩:=e
      cases e1 <;> rfl
     ·congr 1
      funext u3
      congr 1
      funext e
      obtain ⟨e1,e2⟩:=e
      cases e1 <;> rfl
section
variable {prog:Program} {w:World} {A:Around} {E:Value→Shared→Prop} {s:Shared} {a₀ ar0:Array Keyed} {κ:KeyKind} {knd:SortKind} {P:Array (Nat×Nat×Nat)} {lo:Nat}
structure TB (knd:SortKind) (a₀:Array Keyed) (P:Array (Nat×Nat×Nat)) (lo:Nat) (ar0:Array Keyed) (st:SortSt):Prop where
 perm:(arrOf st).Perm a₀
 kind:kindOf st=knd
 failed:failedOf st=none
 pend:pendingOf st=P
 low:∀ k,k < lo→(arrOf st)[k]?=ar0[k]?
theorem TB.size {st:SortSt} (h:TB knd a₀ P lo ar0 st):(arrOf st).size=a₀.size:=h.perm.size_eq
theorem TB.setArr {st:SortSt} (h:TB knd a₀ P lo ar0 st) {xs:Array Keyed} (hp:xs.Perm (arrOf st)) (hl:∀ k,k < lo→xs[k]?=(arrOf st)[k]?):TB knd a₀ P lo ar0 (setArr st xs):=
 ⟨hp.trans h.perm,h.kind,h.failed,h.pend,fun k hk=>(hl k hk).trans (h.low k hk)⟩
theorem TB.mir {st:SortSt} (h:TB knd a₀ P lo ar0 st) {i j:Nat} (hi:lo≤i) (hj:j≤a₀.size):TB knd a₀ P lo ar0 (PyProof.Rows.setArr st (mirror (arrOf st) i j ((j - i) / 2))):=
 h.setArr (mirror_perm _ _ _ _) fun k hk=>by rw [getElem?_mirror_all (by rw [h.size];exact hj),if_neg (by omega)]
theorem TB.key {st:SortSt} (T:TB knd a₀ P lo ar0 st) (keys:KeysOf κ a₀) {i:Nat} (below:i < a₀.size):∃ li:i < (arrOf st).size,kd κ ((arrOf st)[i]):=
 ⟨by rw [T.size];exact below,keys _ ((Array.perm_iff_toList_perm.mp T.perm).mem_iff.mp (Array.getElem_mem_toList _))⟩
theorem jbN {st:SortSt} {i j:Nat} {x y:Keyed} {Q:Option Bool→SortSt→Prop} (hx:(arrOf st)[i]?=some x) (hy:(arrOf st)[j]?=some y) (h:wpS (model prog w) A E s (lt' x y) Q st):wpS (model prog w) A E s (ltAt' i j) Q st:=by
 rw [ltAt'_eq]
 refine wpS_bind (wpS_get ?_)
 dsimp only
 rw [elem'_eq,hx]
 refine wpS_bind (wpS_pure ?_)
 rw [elem'_eq,hy]
 exact wpS_bind (wpS_pure h)
theorem yw {st:SortSt} {i j:Nat} {Q:Option Bool→SortSt→Prop} (hO:LtAt prog w A E s knd κ) (T:TB knd a₀ P lo ar0 st) (keys:KeysOf κ a₀) (bi:i < a₀.size) (bj:j < a₀.size) (q:Q (some (κ.blt (KK κ (arrOf st) i) (KK κ (arrOf st) j))) st) :
  wpS (model prog w) A E s (ltAt' i j) Q st:=by
 obtain ⟨li,hx⟩:=T.key keys bi
 obtain ⟨lj,hy⟩:=T.key keys bj
 rw [yT li,yT lj] at q
 exact jbN (getElem?_pos _ i li) (getElem?_pos _ j lj) (hO _ _ _ _ T.kind hx hy q)
def Dsg (κ:KeyKind) (arr:Array Keyed) (lo hi:Nat):Prop:=∀ i j,lo≤i→i≤j→j < hi→κ.kle (KK κ arr j) (KK κ arr i)
theorem grown {R:Nat→Nat→Prop} (refl:∀ i,R i i) (trans:∀ i j k,R i j→R j k→R i k) {lo top:Nat} (low:lo < top) (old:∀ i j,lo≤i→i≤j→j < top→R i j) (new:R (top - 1) top):∀ i j,lo≤i→i≤j→j < top+1→R i j:=fun i j a b c=>by
 rcases Nat.lt_or_ge j top with d | d
 ·exact old i j a b d
 have ej:j=top:=by omega
 rcases Nat.lt_or_ge i j with f | f
 ·rw [ej];exact trans _ _ _ (old i (top - 1) a (by omega) (by omega)) new
 ·rw [show i=j by omega];exact refl j
theorem Seg.grow {arr:Array Keyed} {lo top:Nat} (low:lo < top) (g:Seg κ arr lo top) (n:κ.kle (KK κ arr (top - 1)) (KK κ arr top)):Seg κ arr lo (top+1):=
 grown (R:=fun i j=>κ.kle (KK κ arr i) (KK κ arr j)) (fun _=>KeyOrd.kle_refl _) (fun _ _ _=>KeyOrd.kle_trans) low g n
theorem Dsg.grow {arr:Array Keyed} {lo top:Nat} (low:lo < top) (g:Dsg κ arr lo top) (n:κ.kle (KK κ arr top) (KK κ arr (top - 1))):Dsg κ arr lo (top+1):=
 grown (R:=fun i j=>κ.kle (KK κ arr j) (KK κ arr i)) (fun _=>KeyOrd.kle_refl _) (fun _ _ _ a b=>KeyOrd.kle_trans b a) low g n
theorem Seg.one {arr:Array Keyed} {lo:Nat}:Seg κ arr lo (lo+1):=fun i j a b c=>by rw [show i=j by omega];exact KeyOrd.kle_refl _
theorem Dsg.one {arr:Array Keyed} {lo:Nat}:Dsg κ arr lo (lo+1):=fun i j a b c=>by rw [show i=j by omega];exact KeyOrd.kle_refl _
theorem Dsg.like {arr ys:Array Keyed} {lo hi:Nat} (g:Dsg κ arr lo hi) (e:∀ k,KK κ ys k=KK κ arr k):Dsg κ ys lo hi:=fun i j a b c=>by rw [e i,e j];exact g i j a b c
abbrev jd6 (knd:SortKind) (a₀:Array Keyed) (κ:KeyKind) (P:Array (Nat×Nat×Nat)) (lo:Nat) (ar0:Array Keyed) (nrem:Nat) (Q:Option Nat→SortSt→Prop):Prop:=
 ∀ (m:Nat) (sn:SortSt),TB knd a₀ P lo ar0 sn→1≤m→m≤nrem→Seg κ (arrOf sn) lo (lo+m)→Q (some m) sn
theorem YN {st:SortSt} {a nrem:Nat} {Q:AscSt→SortSt→Prop} (hO:LtAt prog w A E s knd κ) (keys:KeysOf κ a₀) (room:lo+nrem≤a₀.size) (pos:0 < a) (le:a≤nrem) (T:TB knd a₀ P lo ar0 st) (G:Seg κ (arrOf st) lo (lo+a))
  (q:∀ n,a≤n→n≤nrem→Seg κ (arrOf st) lo (lo+n)→(n < nrem→κ.klt (KK κ (arrOf st) (lo+n)) (KK κ (arrOf st) (lo+n - 1)))→Q (none,n) st):wpS (model prog w) A E s (je3 lo a nrem) Q st:=by
 refine wpS_forRange (I:=fun n c sn=>sn=st∧c=(none,n)∧Seg κ (arrOf st) lo (lo+n)) (fun n c sn an bn J=>?_) (fun c sn J=>?_) ⟨rfl,rfl,G⟩
 ·obtain ⟨rfl,rfl,Gn⟩:=J
  refine wpS_bind (yw hO T keys (i:=lo+n) (j:=lo+n - 1) (by omega) (by omega) ?_)
  cases c:κ.blt (KK κ (arrOf sn) (lo+n)) (KK κ (arrOf sn) (lo+n - 1)) with
  | true=>exact wpS_pure (q n an (Nat.le_of_lt bn) Gn fun _=>c)
  | false=>exact wpS_pure ⟨rfl,rfl,Seg.grow (top:=lo+n) (by omega) Gn c⟩
 ·obtain ⟨rfl,rfl,Gn⟩:=J
  have e:max a nrem=nrem:=by omega
  rw [e] at Gn ⊢
  exact q nrem le (Nat.le_refl _) Gn fun z=>absurd z (Nat.lt_irrefl _)
theorem Km {st:SortSt} {n nrem:Nat} {Q:Option Nat→SortSt→Prop} (hO:LtAt prog w A E s knd κ) (keys:KeysOf κ a₀) (room:lo+nrem≤a₀.size) (pos:0 < n) (le:n≤nrem) (T:TB knd a₀ P lo ar0 st) (D:Dsg κ (arrOf st) lo (lo+n))
  (q:jd6 knd a₀ κ P lo ar0 nrem Q):wpS (model prog w) A E s (jaK lo n nrem) Q st:=by
 have T1:=T.mir (i:=lo) (j:=lo+n) (Nat.le_refl _) (by omega)
 have z:lo+n≤(arrOf st).size:=by rw [T.size];omega
 refine wpS_bind (wpS_reverse (wpS_bind (YN hO keys room pos le T1 (fun i j a b c=>?_) fun m am bm Gm _=>wpS_pure (q m _ T1 (by omega) bm Gm))))
 have em:=fun k=>KK_mirror (κ:=κ) (i:=lo) z k
 have ei:=em i
 have ej:=em j
 rw [if_pos ⟨a,by omega⟩] at ei
 rw [if_pos ⟨by omega,c⟩] at ej
 exact ei ▸ ej ▸ D (lo+(lo+n) - 1 - j) (lo+(lo+n) - 1 - i) (by omega) (by omega) (by omega)
def jgn (κ:KeyKind) (arr:Array Keyed) (top neq:Nat):Prop:=∀ k,top - (neq+1)≤k→k < top→KK κ arr k=KK κ arr (top - 1)
theorem jbO {st:SortSt} {n nrem:Nat} {Q:DescSt→SortSt→Prop} (hO:LtAt prog w A E s knd κ) (keys:KeysOf κ a₀) (room:lo+nrem≤a₀.size) (pos:0 < n) (le:n≤nrem) (T:TB knd a₀ P lo ar0 st) (D:Dsg κ (arrOf st) lo (lo+n))
  (q:∀ m neq sn,TB knd a₀ P lo ar0 sn→n≤m→m≤nrem→Dsg κ (arrOf sn) lo (lo+m)→neq < m→jgn κ (arrOf sn) (lo+m) neq→Q (none,m,neq) sn):wpS (model prog w) A E s (jdU lo n nrem) Q st:=by
 have flat0:∀ (arr:Array Keyed) (t:Nat),jgn κ arr t 0:=fun arr t k a b=>by rw [show k=t - 1 by omega]
 refine wpS_forRange (I:=fun m c sn=>∃ neq,c=(none,m,neq)∧TB knd a₀ P lo ar0 sn∧Dsg κ (arrOf sn) lo (lo+m)∧neq < m∧jgn κ (arrOf sn) (lo+m) neq) (fun m c sn am bm J=>?_) (fun c sn J=>?_) ⟨0,rfl,T,D,pos,flat0 _ _⟩
 ·obtain ⟨neq,rfl,Tn,Dn,ln,fl⟩:=J
  have z:lo+m≤(arrOf sn).size:=by rw [Tn.size];omega
  refine wpS_bind (yw hO Tn keys (i:=lo+m) (j:=lo+m - 1) (by omega) (by omega) ?_)
  cases c:κ.blt (KK κ (arrOf sn) (lo+m)) (KK κ (arrOf sn) (lo+m - 1)) with
  | true=>
   have D1:=Dsg.grow (top:=lo+m) (by omega) Dn (KeyOrd.kle_of_klt (show κ.klt _ _ from c))
   have T1:=Tn.mir (i:=lo+m - (neq+1)) (j:=lo+m) (by omega) (by omega)
   by_cases more:neq > 0
   ·show wpS _ _ _ _ (if neq > 0 then _ else _) _ _
    rw [if_pos more]
    exact wpS_bind (wpS_reverse (wpS_pure ⟨0,rfl,T1,D1.like (KK_mirror_equal z fl),by omega,flat0 _ _⟩))
   ·show wpS _ _ _ _ (if neq > 0 then _ else _) _ _
    rw [if_neg more]
    exact wpS_pure ⟨0,rfl,Tn,D1,by omega,flat0 _ _⟩
  | false=>
   show wpS _ _ _ _ (ltAt' (lo+m - 1) (lo+m) >>= _) _ _
   refine wpS_bind (yw hO Tn keys (i:=lo+m - 1) (j:=lo+m) (by omega) (by omega) ?_)
   cases d:κ.blt (KK κ (arrOf sn) (lo+m - 1)) (KK κ (arrOf sn) (lo+m)) with
   | true=>exact wpS_pure (q m neq sn Tn am (by omega) Dn ln fl)
   | false=>
    have eq:KK κ (arrOf sn) (lo+m)=KK κ (arrOf sn) (lo+m - 1):=KeyOrd.kle_antisymm d c
    refine wpS_pure ⟨neq+1,rfl,Tn,Dsg.grow (top:=lo+m) (by omega) Dn d,by omega,fun k a b=>?_⟩
    show _=KK κ (arrOf sn) (lo+m)
    rcases Nat.lt_or_ge k (lo+m) with f | f
    ·rw [eq];exact fl k (by omega) f
    ·rw [show k=lo+m by omega]
 ·obtain ⟨neq,rfl,Tn,Dn,ln,fl⟩:=J
  have e:max n nrem=nrem:=by omega
  rw [e] at Dn ln fl ⊢
  exact q nrem neq sn Tn le (Nat.le_refl _) Dn ln fl
theorem Kn {st:SortSt} {n nrem:Nat} {Q:Option Nat→SortSt→Prop} (hO:LtAt prog w A E s knd κ) (keys:KeysOf κ a₀) (room:lo+nrem≤a₀.size) (le:n+1≤nrem) (T:TB knd a₀ P lo ar0 st) (D:Dsg κ (arrOf st) lo (lo+n+1))
  (q:jd6 knd a₀ κ P lo ar0 nrem Q):wpS (model prog w) A E s (ja3 lo n nrem) Q st:=by
 refine wpS_bind (wpS_lift (wpAny_rule ⟨rfl,wpS_bind (jbO hO keys room (Nat.succ_pos n) le T D fun m neq sn Tn am bm Dn ln fl=>?_)⟩))
 have z:lo+m≤(arrOf sn).size:=by rw [Tn.size];omega
 have m0:0 < m:=by omega
 have T1:=Tn.mir (i:=lo+m - (neq+1)) (j:=lo+m) (by omega) (by omega)
 show wpS _ _ _ _ (if neq > 0 then _ else _) _ _
 split
 ·exact wpS_bind (wpS_reverse (Km (n:=m) hO keys room m0 bm T1 (Dn.like (KK_mirror_equal z fl)) q))
 ·exact Km (n:=m) hO keys room m0 bm Tn Dn q
theorem ZR {st:SortSt} {nrem:Nat} {Q:Option Nat→SortSt→Prop} (hO:LtAt prog w A E s knd κ) (keys:KeysOf κ a₀) (room:lo+nrem≤a₀.size) (pos:1≤nrem) (T:TB knd a₀ P lo ar0 st)
  (q:jd6 knd a₀ κ P lo ar0 nrem Q):wpS (model prog w) A E s (countRun' lo nrem) Q st:=by
 rw [Yw]
 refine wpS_bind (YN hO keys room Nat.one_pos pos T Seg.one fun n an bn Gn ends=>?_)
 show wpS _ _ _ _ (if (n == nrem)=true then _ else if n > 1 then _ else _) _ _
 by_cases all:n=nrem
 ·rw [if_pos (beq_iff_eq.mpr all)]
  exact wpS_pure (q n st T an bn Gn)
 rw [if_neg (fun z=>all (beq_iff_eq.mp z))]
 have falls:=ends (by omega)
 have z:lo+n≤(arrOf st).size:=by rw [T.size];omega
 by_cases more:n > 1
 ·rw [if_pos more]
  refine wpS_bind (yw hO T keys (i:=lo) (j:=lo+n - 1) (by omega) (by omega) ?_)
  cases c:κ.blt (KK κ (arrOf st) lo) (KK κ (arrOf st) (lo+n - 1)) with
  | true=>exact wpS_pure (q n st T an bn Gn)
  | false=>
   have alike:∀ k,lo≤k→k < lo+n→KK κ (arrOf st) k=KK κ (arrOf st) (lo+n - 1):=fun k a b=>
    KeyOrd.kle_antisymm (Gn k (lo+n - 1) a (by omega) (by omega)) (KeyOrd.kle_trans (show κ.kle _ _ from c) (Gn lo k (Nat.le_refl _) a b))
   have D0:Dsg κ (arrOf st) lo (lo+n):=fun i j a b d=>by rw [alike i a (by omega),alike j (by omega) d];exact KeyOrd.kle_refl _
   show wpS _ _ _ _ (reverseSlice' lo (lo+n) >>= _) _ _
   exact wpS_bind (wpS_reverse (Kn hO keys room (by omega) (T.mir (Nat.le_refl _) (by omega)) ((D0.grow (by omega) (KeyOrd.kle_of_klt falls)).like (KK_mirror_equal z alike)) q))
 ·rw [if_neg more]
  have e:n=1:=by omega
  subst e
  exact Kn hO keys room (by omega) T (Dsg.one.grow (by omega) (KeyOrd.kle_of_klt falls)) q
theorem jcA {st:SortSt} {n ok:Nat} {Q:Bool→SortSt→Prop} (hO:LtAt prog w A E s knd κ) (keys:KeysOf κ a₀) (room:lo+n≤a₀.size) (le:ok≤n) (T:TB knd a₀ P lo ar0 st) (G:Seg κ (arrOf st) lo (lo+ok))
  (q:∀ sn,TB knd a₀ P lo ar0 sn→Seg κ (arrOf sn) lo (lo+n)→Q true sn):wpS (model prog w) A E s (binarySort' lo n ok) Q st:=by
 rw [binarySort'_eq]
 refine wpS_bind (wpS_mono (wpS_forRange (I:=fun k c sn=>c=(none,())∧TB knd a₀ P lo ar0 sn∧Seg κ (arrOf sn) lo (lo+min k n)) (Q:=fun c sn=>c=(none,())∧TB knd a₀ P lo ar0 sn∧Seg κ (arrOf sn) lo (lo+n)) (fun k c sn ak bk J=>?_) (fun c sn J=>?_) ⟨rfl,T,fun i j a b c=>?_⟩) fun c sn J=>?_)
 ·obtain ⟨rfl,Tn,Gn⟩:=J
  have e:min k n=k:=by omega
  rw [e] at Gn
  have z:lo+k < (arrOf sn).size:=by rw [Tn.size];omega
  refine wpS_bind (wpS_mono (wpS_forRange (I:=fun y d sm=>sm=sn∧∃ l r,d=(none,l,r)∧l≤r∧r≤k∧r - l+y≤k∧(∀ i,lo≤i→i < lo+l→κ.kle (KK κ (arrOf sn) i) (KK κ (arrOf sn) (lo+k)))∧∀ i,lo+r≤i→i < lo+k→κ.klt (KK κ (arrOf sn) (lo+k)) (KK κ (arrOf sn) i))
   (Q:=fun d sm=>sm=sn∧∃ l,d=(none,l,l)∧l≤k∧(∀ i,lo≤i→i < lo+l→κ.kle (KK κ (arrOf sn) i) (KK κ (arrOf sn) (lo+k)))∧∀ i,lo+l≤i→i < lo+k→κ.klt (KK κ (arrOf sn) (lo+k)) (KK κ (arrOf sn) i))
   (fun y d sm ay bY J=>?_) (fun d sm J=>?_) ⟨rfl,0,k,rfl,Nat.zero_le _,Nat.le_refl _,by omega,fun i a b=>by omega,fun i a b=>by omega⟩) fun d sm J=>?_)
  ·obtain ⟨rfl,l,r,rfl,lr,rk,fuel,below,above⟩:=J
   show wpS _ _ _ _ (if l ≥ r then _ else _) _ _
   by_cases meet:l ≥ r
   ·rw [if_pos meet]
    have e:l=r:=by omega
    subst e
    exact wpS_pure ⟨rfl,l,rfl,rk,below,above⟩
   rw [if_neg meet]
   refine wpS_bind (yw hO Tn keys (i:=lo+k) (j:=lo+(l+r) / 2) (by omega) (by omega) ?_)
   cases c:κ.blt (KK κ (arrOf sm) (lo+k)) (KK κ (arrOf sm) (lo+(l+r) / 2)) with
   | true=>exact wpS_pure ⟨rfl,l,(l+r) / 2,rfl,by omega,by omega,by omega,below,fun i a b=>KeyOrd.klt_of_klt_of_kle (show κ.klt _ _ from c) (Gn _ i (by omega) a b)⟩
   | false=>exact wpS_pure ⟨rfl,(l+r) / 2+1,r,rfl,by omega,rk,by omega,fun i a b=>KeyOrd.kle_trans (Gn i _ a (by omega) (by omega)) (show κ.kle _ _ from c),above⟩
  ·obtain ⟨rfl,l,r,rfl,lr,rk,fuel,below,above⟩:=J
   have e:l=r:=by omega
   subst e
   exact ⟨rfl,l,rfl,rk,below,above⟩
  ·obtain ⟨rfl,l,rfl,lk,below,above⟩:=J
   show wpS _ _ _ _ (moveDown' (lo+k) (lo+l) >>= fun _=>pure (ForInStep.yield (none,()))) _ _
   rw [moveDown'_eq]
   have steps:lo+k - (lo+l)≤lo+k:=Nat.sub_le _ _
   have land:lo+k - (lo+k - (lo+l))=lo+l:=by omega
   refine wpS_bind (wpS_modify (wpS_pure ⟨rfl,Tn.setArr (bubble_perm _ _ _) (fun i a=>?_),fun i j a b c=>?_⟩))
   ·rw [getElem?_bubble z _ steps,if_neg (by omega),if_neg (by omega)]
   have e1:min (k+1) n=k+1:=by omega
   rw [e1] at c
   have at_:=fun p=>KK_bubble (κ:=κ) z steps p
   rw [land] at at_
   have ki:=at_ i
   have kj:=at_ j
   show κ.kle (KK κ (bubble (arrOf sm) (lo+k) (lo+k - (lo+l))) i) (KK κ (bubble (arrOf sm) (lo+k) (lo+k - (lo+l))) j)
   rw [ki,kj]
   rcases Nat.lt_trichotomy i (lo+l) with f | f | f
   ·rw [if_neg (Nat.ne_of_lt f),if_neg (by omega)]
    rcases Nat.lt_trichotomy j (lo+l) with g | g | g
    ·rw [if_neg (Nat.ne_of_lt g),if_neg (by omega)]
     exact Gn i j a b (by omega)
    ·rw [if_pos g]
     exact below i a f
    ·rw [if_neg (Nat.ne_of_gt g),if_pos ⟨g,by omega⟩]
     exact Gn i (j - 1) a (by omega) (by omega)
   ·rw [if_pos f]
    rcases Nat.lt_or_ge i j with g | g
    ·rw [if_neg (by omega),if_pos (by omega)]
     exact KeyOrd.kle_of_klt (above (j - 1) (by omega) (by omega))
    ·rw [if_pos (by omega)]
     exact KeyOrd.kle_refl _
   ·rw [if_neg (Nat.ne_of_gt f),if_pos ⟨f,by omega⟩,if_neg (by omega),if_pos (by omega)]
    exact Gn (i - 1) (j - 1) (by omega) (by omega) (by omega)
 ·obtain ⟨rfl,Tn,Gn⟩:=J
  have e:min (max (max ok 1) n) n=n:=by omega
  rw [e] at Gn
  exact ⟨rfl,Tn,Gn⟩
 ·rcases Nat.eq_zero_or_pos ok with e | e
  ·rw [show i=j by omega];exact KeyOrd.kle_refl _
  ·exact G i j a b (by omega)
 ·obtain ⟨rfl,Tn,Gn⟩:=J
  exact wpS_pure (q sn Tn Gn)
end
section
variable {prog:Program} {w:World} {A:Around} {E:Value→Shared→Prop} {s:Shared} {a₀:Array Keyed} {κ:KeyKind} {knd:SortKind}
def qa (κ:KeyKind) (arr:Array Keyed):Nat→List (Nat×Nat×Nat)→Nat→Prop
 | lo,[],hi=>lo=hi
 | lo,p :: r,hi=>p.1=lo∧0 < p.2.1∧Seg κ arr lo (lo+p.2.1)∧qa κ arr (lo+p.2.1) r hi
theorem qm {arr:Array Keyed}:∀ {p q:List (Nat×Nat×Nat)} {lo hi:Nat},qa κ arr lo (p++q) hi↔∃ mid,qa κ arr lo p mid∧qa κ arr mid q hi
 | [],q,lo,hi=>by
  show qa κ arr lo q hi↔∃ mid,lo=mid∧qa κ arr mid q hi
  constructor
  ·intro h;exact ⟨lo,rfl,h⟩
  ·rintro ⟨_,rfl,h⟩;exact h
 | x :: p,q,lo,hi=>by
  have ih:=qm (arr:=arr) (p:=p) (q:=q) (lo:=lo+x.2.1) (hi:=hi)
  show (x.1=lo∧0 < x.2.1∧Seg κ arr lo (lo+x.2.1)∧qa κ arr (lo+x.2.1) (p++q) hi)↔∃ mid,(x.1=lo∧0 < x.2.1∧Seg κ arr lo (lo+x.2.1)∧qa κ arr (lo+x.2.1) p mid)∧qa κ arr mid q hi
  rw [ih]
  constructor
  ·rintro ⟨h1,h2,h3,mid,h4,h5⟩;exact ⟨mid,⟨h1,h2,h3,h4⟩,h5⟩
  ·rintro ⟨mid,⟨h1,h2,h3,h4⟩,h5⟩;exact ⟨h1,h2,h3,mid,h4,h5⟩
theorem zJ {arr:Array Keyed}:∀ {p:List (Nat×Nat×Nat)} {lo hi:Nat},qa κ arr lo p hi→lo+p.length≤hi
 | [],lo,hi,h=>by have:lo=hi:=h;simp;omega
 | x :: p,lo,hi,h=>by
  obtain ⟨_,h2,_,h4⟩:=h
  have:=zJ h4
  rw [List.length_cons]
  omega
theorem qS {arr arr':Array Keyed}:∀ {p:List (Nat×Nat×Nat)} {lo hi:Nat},(∀ k,lo≤k→k < hi→arr'[k]?=arr[k]?)→qa κ arr lo p hi→qa κ arr' lo p hi
 | [],lo,hi,_,h=>h
 | x :: p,lo,hi,e,h=>by
  obtain ⟨h1,h2,h3,h4⟩:=h
  have hl:=zJ h4
  refine ⟨h1,h2,fun i j g1 g2 g3=>?_,qS (fun k g1 g2=>e k (by omega) g2) h4⟩
  rw [KK_congr (e i g1 (by omega)),KK_congr (e j (by omega) (by omega))]
  exact h3 i j g1 g2 g3
structure SInv (knd:SortKind) (κ:KeyKind) (a₀:Array Keyed) (hi:Nat) (st:SortSt):Prop where
 perm:(arrOf st).Perm a₀
 kind:kindOf st=knd
 failed:failedOf st=none
 chain:qa κ (arrOf st) 0 (pendingOf st).toList hi
theorem jcO {α:Type} {l:List α} {i:Nat} (h:i+1 < l.length):l=l.take i++l[i] :: l[i+1] :: l.drop (i+2):=by
 have e1:=List.take_append_drop i l
 rw [List.drop_eq_getElem_cons (by omega),List.drop_eq_getElem_cons h] at e1
 exact e1.symm
theorem Zl {α:Type} {P:Array α} {i:Nat} {v:α} (h:i+1 < P.size):((P.setIfInBounds i v).eraseIdxIfInBounds (i+1)).toList=P.toList.take i++v :: P.toList.drop (i+2):=by
 have hl:i+1 < P.toList.length:=by simpa using h
 have e:=jcO hl
 have e1:((P.setIfInBounds i v).eraseIdxIfInBounds (i+1)).toList=(P.toList.set i v).eraseIdx (i+1):=by
  simp
 rw [e1]
 have lt:(P.toList.take i).length=i:=by rw [List.length_take];omega
 have e2:P.toList.set i v=P.toList.take i++v :: P.toList[i+1] :: P.toList.drop (i+2):=by
  conv=>lhs;rw [e]
  rw [List.set_append_right _ _ (by omega),lt,Nat.sub_self]
  rfl
 rw [e2,List.eraseIdx_append_of_length_le (by omega),lt]
 have:i+1 - i=1:=by omega
 rw [this]
 rfl
theorem JH {st:SortSt} {Q:Bool→SortSt→Prop} {i hi:Nat} (hO:LtAt prog w A E s knd κ) (h0:KeysOf κ a₀) (S:SInv knd κ a₀ hi st) (hz:hi≤a₀.size) (h1:i+1 < (pendingOf st).size)
  (h:∀ st',SInv knd κ a₀ hi st'→(pendingOf st').size+1=(pendingOf st).size→(∀ k,hi≤k→(arrOf st')[k]?=(arrOf st)[k]?)→Q true st'):wpS (model prog w) A E s (mergeAt' i) Q st:=by
 have hl:i+1 < (pendingOf st).toList.length:=by simpa using h1
 have C:=S.chain
 have eP:=jcO hl
 rw [eP] at C
 obtain ⟨mid,c1,c2⟩:=qm.mp C
 obtain ⟨s1,l1,g1,c2⟩:=c2
 obtain ⟨s2,l2,g2,c3⟩:=c2
 have sz:(arrOf st).size=a₀.size:=S.perm.size_eq
 have hc3:=zJ c3
 have ht:(pendingOf st)[i]?=some (mid,(pendingOf st).toList[i].2.1,(pendingOf st).toList[i].2.2):=by
  rw [← Array.getElem?_toList,List.getElem?_eq_getElem (by omega),← s1]
 have ht2:(pendingOf st)[i+1]?=some (mid+(pendingOf st).toList[i].2.1,(pendingOf st).toList[i+1].2.1,(pendingOf st).toList[i+1].2.2):=by
  rw [← Array.getElem?_toList,List.getElem?_eq_getElem hl,← s2]
 refine YM hO S.kind S.failed (fun j hj=>?_) ht ht2 l1 l2 (by omega) g1 g2 fun arr' g hp hs ho=>?_
 ·exact h0 _ ((Array.perm_iff_toList_perm.mp S.perm).mem_iff.mp (by simp))
 ·have el:=Zl (v:=(mid,(pendingOf st).toList[i].2.1+(pendingOf st).toList[i+1].2.1,(pendingOf st).toList[i].2.2)) h1
  refine h _ ⟨hp.trans S.perm,S.kind,S.failed,?_⟩ ?_ fun k hk=>ho k (.inr (by omega))
  ·show qa κ arr' 0 _ hi
   show qa κ arr' 0 (((pendingOf st).setIfInBounds i (mid,(pendingOf st).toList[i].2.1+(pendingOf st).toList[i+1].2.1,(pendingOf st).toList[i].2.2)).eraseIdxIfInBounds (i+1)).toList hi
   rw [el]
   have hmid:=zJ c1
   refine qm.mpr ⟨mid,qS (fun k _ g2=>ho k (.inl g2)) c1,rfl,?_,?_,?_⟩
   ·show 0 < _+_
    omega
   ·rw [← Nat.add_assoc]
    exact hs
   ·rw [← Nat.add_assoc]
    exact qS (fun k g1 _=>ho k (.inr g1)) c3
  ·show (((pendingOf st).setIfInBounds i (mid,(pendingOf st).toList[i].2.1+(pendingOf st).toList[i+1].2.1,(pendingOf st).toList[i].2.2)).eraseIdxIfInBounds (i+1)).size+1=_
   rw [← Array.length_toList,el,List.length_append,List.length_cons,List.length_take,List.length_drop,Array.length_toList]
   omega
theorem Jh {arr:Array Keyed}:∀ {p q:List (Nat×Nat×Nat)} {lo hi:Nat},p.map (fun z=>(z.1,z.2.1))=q.map (fun z=>(z.1,z.2.1))→qa κ arr lo p hi→qa κ arr lo q hi
 | [],[],_,_,_,h=>h
 | [],_ :: _,_,_,e,_=>by simp at e
 | _ :: _,[],_,_,e,_=>by simp at e
 | x :: p,y :: q,lo,hi,e,h=>by
  rw [List.map_cons,List.map_cons] at e
  injection e with e1 e2
  have e3:x.1=y.1:=(Prod.mk.inj e1).1
  have e4:x.2.1=y.2.1:=(Prod.mk.inj e1).2
  obtain ⟨h1,h2,h3,h4⟩:=h
  rw [e4] at h2 h3 h4
  exact ⟨e3.symm.trans h1,h2,h3,Jh e2 h4⟩
theorem JV {P:Array (Nat×Nat×Nat)} {i:Nat} {f:Nat×Nat×Nat→Nat×Nat×Nat} (hf:∀ z,(f z).1=z.1∧(f z).2.1=z.2.1):P.toList.map (fun z=>(z.1,z.2.1))=(P.modify i f).toList.map (fun z=>(z.1,z.2.1)):=by
 refine List.ext_getElem? fun k=>?_
 rw [List.getElem?_map,List.getElem?_map,Array.getElem?_toList,Array.getElem?_toList,Array.getElem?_modify]
 split
 ·cases P[k]? with
  | none=>rfl
  | some z=>
   obtain ⟨h1,h2⟩:=hf z
   show some (z.1,z.2.1)=some ((f z).1,(f z).2.1)
   rw [h1,h2]
 ·rfl
theorem SInv.push {st:SortSt} {lo n:Nat} (S:SInv knd κ a₀ lo st) (h:Seg κ (arrOf st) lo (lo+n)) (hn:0 < n):SInv knd κ a₀ (lo+n) (setPending st ((pendingOf st).push (lo,n,0))):=by
 refine ⟨S.perm,S.kind,S.failed,?_⟩
 show qa κ (arrOf st) 0 ((pendingOf st).push (lo,n,0)).toList (lo+n)
 rw [Array.toList_push]
 exact qm.mpr ⟨lo,S.chain,rfl,hn,h,rfl⟩
theorem wpS_sortAll {st:SortSt} {Q:Unit→SortSt→Prop} (hO:LtAt prog w A E s knd κ) (h0:KeysOf κ a₀) (S:SInv knd κ a₀ 0 st) (h1:1≤a₀.size)
  (q:∀ sn,(arrOf sn).Perm a₀→failedOf sn=none→SortedToK κ (arrOf sn) a₀.size→Q () sn):wpS (model prog w) A E s sortRuns' Q st:=by
 rw [sortRuns'_eq]
 refine wpS_bind (wpS_get ?_)
 dsimp only
 rw [S.perm.size_eq]
 generalize minRun' a₀.size a₀.size 0=mr
 refine wpS_bind (wpS_mono (wpS_forRange (I:=fun (x:Nat) (c:Option Unit×Nat) (st':SortSt)=>c.1=none∧x≤c.2∧c.2≤a₀.size∧SInv knd κ a₀ c.2 st')
  (Q:=fun (c:Option Unit×Nat) (st':SortSt)=>c.1=none∧SInv knd κ a₀ a₀.size st') ?step ?fin ⟨rfl,Nat.le_refl _,Nat.zero_le _,S⟩) ?post)
 case fin=>
  rintro ⟨c1,lo⟩ st' ⟨hc,g1,g2,S'⟩
  dsimp only at hc g1 g2 S'
  have:lo=a₀.size:=by omega
  subst this
  exact ⟨hc,S'⟩
 case step=>
  rintro x ⟨c1,lo⟩ st' _ hx ⟨hc,g1,g2,S'⟩
  dsimp only at hc g1 g2 S' ⊢
  subst hc
  by_cases hge:lo ≥ a₀.size
  ·rw [if_pos hge]
   have:lo=a₀.size:=by omega
   subst this
   exact wpS_pure ⟨rfl,S'⟩
  ·rw [if_neg hge]
   have T0:TB knd a₀ (pendingOf st') lo (arrOf st') st':=⟨S'.perm,S'.kind,S'.failed,rfl,fun _ _=>rfl⟩
   refine wpS_bind (ZR hO h0 (by omega) (by omega) T0 fun m st2 T2 hm1 hm2 hs2=>?_)
   dsimp only
   have back:∀ {st2:SortSt},TB knd a₀ (pendingOf st') lo (arrOf st') st2→SInv knd κ a₀ lo st2:=fun {st2} T2=>by
    refine ⟨T2.perm,T2.kind,T2.failed,?_⟩
    rw [T2.pend]
    exact qS (fun k _ g=>T2.low k g) S'.chain
   split
   ·refine wpS_bind (wpS_lift (wpAny_rule ⟨rfl,?_⟩))
    refine wpS_bind (jcA hO h0 (n:=min (a₀.size - lo) mr) (by omega) (by omega) T2 hs2 fun st3 T3 hs3=>?_)
    simp only [Bool.not_true,Bool.false_eq_true,if_false]
    have hn1:0 < min (a₀.size - lo) mr:=by omega
    have hn2:lo+min (a₀.size - lo) mr≤a₀.size:=by omega
    generalize min (a₀.size - lo) mr=n at *
    have S3:=back T3
    have G3:=hs3
    refine wpS_bind (wpS_get ?_)
    cases hbk:(pendingOf st3).back? with
    | none=>
     dsimp only
     exact wpS_bind (wpS_modify (wpS_pure ⟨rfl,by show x+1≤lo+n;omega,hn2,S3.push G3 hn1⟩))
    | some z=>
     obtain ⟨s1,n1,p1⟩:=z
     dsimp only
     generalize power' a₀.size (2 * s1+n1) (2 * s1+n1+n1+n) a₀.size=pw
     refine wpS_bind (wpS_mono (wpS_forRange (I:=fun (_:Nat) (c:Option Unit×Unit) (st4:SortSt)=>c=(none,())∧SInv knd κ a₀ lo st4∧Seg κ (arrOf st4) lo (lo+n))
      (Q:=fun (c:Option Unit×Unit) (st4:SortSt)=>c=(none,())∧SInv knd κ a₀ lo st4∧Seg κ (arrOf st4) lo (lo+n)) ?step2 (fun _ _ hh=>hh) ⟨rfl,S3,G3⟩) ?post2)
     case step2=>
      rintro y c st4 _ hy ⟨rfl,S4,G4⟩
      refine wpS_bind (wpS_get ?_)
      by_cases h2:(pendingOf st4).size > 1
      ·rw [if_pos h2,getElem?_pos (pendingOf st4) ((pendingOf st4).size - 2) (by omega)]
       generalize (pendingOf st4)[(pendingOf st4).size - 2]=z
       obtain ⟨z1,z2,z3⟩:=z
       dsimp only
       split
       ·exact wpS_pure ⟨rfl,S4,G4⟩
       ·refine wpS_bind (JH hO h0 S4 (by omega) (by omega) fun st5 S5 _ ho=>?_)
        simp only [Bool.not_true,Bool.false_eq_true,if_false]
        refine wpS_pure ⟨rfl,S5,fun i j q1 q2 q3=>?_⟩
        rw [KK_congr (ho i q1),KK_congr (ho j (by omega))]
        exact G4 i j q1 q2 q3
      ·rw [if_neg h2]
       exact wpS_pure ⟨rfl,S4,G4⟩
     case post2=>
      rintro c st4 ⟨rfl,S4,G4⟩
      dsimp only
      refine wpS_bind (wpS_modify (wpS_bind (wpS_modify (wpS_pure ⟨rfl,by show x+1≤lo+n;omega,hn2,?_⟩))))
      refine SInv.push (st:=setPending st4 ((pendingOf st4).modify ((pendingOf st4).size - 1) fun z=>(z.1,z.2.1,pw))) ⟨S4.perm,S4.kind,S4.failed,?_⟩ G4 hn1
      exact Jh (JV fun z=>⟨rfl,rfl⟩) S4.chain
   ·have hn1:0 < m:=by omega
    have hn2:lo+m≤a₀.size:=by omega
    have S3:=back T2
    have G3:=hs2
    refine wpS_bind (wpS_get ?_)
    cases hbk:(pendingOf st2).back? with
    | none=>
     dsimp only
     exact wpS_bind (wpS_modify (wpS_pure ⟨rfl,by show x+1≤lo+m;omega,hn2,S3.push G3 hn1⟩))
    | some z=>
     obtain ⟨s1,n1,p1⟩:=z
     dsimp only
     generalize power' a₀.size (2 * s1+n1) (2 * s1+n1+n1+m) a₀.size=pw
     refine wpS_bind (wpS_mono (wpS_forRange (I:=fun (_:Nat) (c:Option Unit×Unit) (st4:SortSt)=>c=(none,())∧SInv knd κ a₀ lo st4∧Seg κ (arrOf st4) lo (lo+m))
      (Q:=fun (c:Option Unit×Unit) (st4:SortSt)=>c=(none,())∧SInv knd κ a₀ lo st4∧Seg κ (arrOf st4) lo (lo+m)) ?step3 (fun _ _ hh=>hh) ⟨rfl,S3,G3⟩) ?post3)
     case step3=>
      rintro y c st4 _ hy ⟨rfl,S4,G4⟩
      refine wpS_bind (wpS_get ?_)
      by_cases h2:(pendingOf st4).size > 1
      ·rw [if_pos h2,getElem?_pos (pendingOf st4) ((pendingOf st4).size - 2) (by omega)]
       generalize (pendingOf st4)[(pendingOf st4).size - 2]=z
       obtain ⟨z1,z2,z3⟩:=z
       dsimp only
       split
       ·exact wpS_pure ⟨rfl,S4,G4⟩
       ·refine wpS_bind (JH hO h0 S4 (by omega) (by omega) fun st5 S5 _ ho=>?_)
        simp only [Bool.not_true,Bool.false_eq_true,if_false]
        refine wpS_pure ⟨rfl,S5,fun i j q1 q2 q3=>?_⟩
        rw [KK_congr (ho i q1),KK_congr (ho j (by omega))]
        exact G4 i j q1 q2 q3
      ·rw [if_neg h2]
       exact wpS_pure ⟨rfl,S4,G4⟩
     case post3=>
      rintro c st4 ⟨rfl,S4,G4⟩
      dsimp only
      refine wpS_bind (wpS_modify (wpS_bind (wpS_modify (wpS_pure ⟨rfl,by show x+1≤lo+m;omega,hn2,?_⟩))))
      refine SInv.push (st:=setPending st4 ((pendingOf st4).modify ((pendingOf st4).size - 1) fun z=>(z.1,z.2.1,pw))) ⟨S4.perm,S4.kind,S4.failed,?_⟩ G4 hn1
      exact Jh (JV fun z=>⟨rfl,rfl⟩) S4.chain
 case post=>
  rintro ⟨c1,lo⟩ st' ⟨hc,S'⟩
  dsimp only at hc ⊢
  subst hc
  dsimp only
  have hp:=zJ S'.chain
  rw [Array.length_toList] at hp
  refine wpS_bind (wpS_mono (wpS_forRange (I:=fun (x:Nat) (c:Option Unit×Unit) (st4:SortSt)=>c=(none,())∧SInv knd κ a₀ a₀.size st4∧(pendingOf st4).size+x≤a₀.size)
   (Q:=fun (c:Option Unit×Unit) (st4:SortSt)=>c=(none,())∧SInv knd κ a₀ a₀.size st4∧(pendingOf st4).size≤1) ?step4 ?fin4 ⟨rfl,S',by omega⟩) ?post4)
  case fin4=>
   rintro c st4 ⟨rfl,S4,hz⟩
   exact ⟨rfl,S4,by omega⟩
  case step4=>
   rintro x c st4 _ hx ⟨rfl,S4,hz⟩
   refine wpS_bind (wpS_get ?_)
   by_cases h2:(pendingOf st4).size≤1
   ·rw [if_pos h2]
    exact wpS_pure ⟨rfl,S4,h2⟩
   ·rw [if_neg h2]
    have hix:∀ c:Prop,[Decidable c]→(if c then (pendingOf st4).size - 2 - 1 else (pendingOf st4).size - 2)+1 < (pendingOf st4).size:=fun c _=>by split <;> omega
    refine wpS_bind (JH hO h0 S4 (Nat.le_refl _) (hix _) fun st5 S5 hs5 _=>?_)
    simp only [Bool.not_true,Bool.false_eq_true,if_false]
    exact wpS_pure ⟨rfl,S5,by omega⟩
  case post4=>
   rintro c st4 ⟨rfl,S4,hz⟩
   dsimp only
   refine wpS_pure (q st4 S4.perm S4.failed ?_)
   have C:=S4.chain
   have hl:(pendingOf st4).toList.length≤1:=by rw [Array.length_toList];exact hz
   generalize (pendingOf st4).toList=L at *
   match L,C,hl with
   | [],C,_=>
    have:(0:Nat)=a₀.size:=C
    omega
   | [p],C,_=>
    obtain ⟨_,_,g3,g4⟩:=C
    have g4:0+p.2.1=a₀.size:=g4
    rw [g4] at g3
    exact fun i j hij hj=>g3 i j (Nat.zero_le _) hij hj
end
end Tm
namespace L2
open PySem PySem.Spec PyProof.Rows PySem.W
section
variable {s:Shared}
theorem J0 {A:Around}:∀ {xs ys:List D} {us vs:List Value},TrAtL s.heap xs us→TrAtL s.heap ys vs→CmpL xs ys→(∀ x∈xs,∀ (y:D) (u v:Value),TrAt s.heap x u→TrAt s.heap y v→SeqAt.EqAt A s u v (dEq x y))→(∀ x∈xs,∀ (y:D) (u v:Value),TrAt s.heap x u→TrAt s.heap y v→Cmp x y→jcv A s u v (dLt x y))→LexAt A s xs ys us vs
 | [],ys,us,vs,hx,hy,_,_,_=>by
  have:=hy.length
  unfold TrAtL at hx
  subst hx
  exact .nilL this
 | x :: xs,[],us,vs,hx,hy,_,_,_=>by
  have:=hx.length
  unfold TrAtL at hy
  subst hy
  exact .nilR this
 | x :: xs,y :: ys,us,vs,hx,hy,hc,he,hl=>by
  unfold TrAtL at hx hy
  obtain ⟨u,ur,rfl,h1,h2⟩:=hx
  obtain ⟨v,vr,rfl,g1,g2⟩:=hy
  unfold CmpL at hc
  exact .cons h2.length g2.length (he x List.mem_cons_self y u v h1 g1) (fun e=>J0 h2 g2 (hc.1 e) (fun z hz=>he z (List.mem_cons_of_mem _ hz)) fun z hz=>hl z (List.mem_cons_of_mem _ hz)) fun e=>hl x List.mem_cons_self y u v h1 g1 (hc.2 e)
theorem qd {ds:List D} {d:D} (h:d∈ds):d.depth≤D.depthL ds:=by
 obtain ⟨i,hi,rfl⟩:=List.mem_iff_getElem.mp h
 exact D.depthL_get (List.getElem?_eq_getElem hi)
theorem jei:∀ (n:Nat) (A:Around) (d d':D) (u v:Value),d.depth≤n→A.units+n < cLine→TrAt s.heap d u→TrAt s.heap d' v→Cmp d d'→jcv A s u v (dLt d d'):=by
 intro n
 induction n with
 | zero=>
  intro A d d' u v hd hA hx hy hc
  cases d with
  | int i=>
   cases d' with
   | int j=>unfold TrAt at hx hy;obtain ⟨t,rfl⟩:=hx;obtain ⟨t',rfl⟩:=hy;unfold dLt;exact jc2 A s i t j t'
   | str j=>unfold Cmp at hc;exact hc.elim
   | tup j=>unfold Cmp at hc;exact hc.elim
  | str i=>
   cases d' with
   | str j=>unfold TrAt at hx hy;obtain ⟨t,rfl⟩:=hx;obtain ⟨t',rfl⟩:=hy;unfold dLt;exact jc1 A s i t j t'
   | int j=>unfold Cmp at hc;exact hc.elim
   | tup j=>unfold Cmp at hc;exact hc.elim
  | tup ds=>unfold D.depth at hd;omega
 | succ n ih=>
  intro A d d' u v hd hA hx hy hc
  cases d with
  | int i=>exact ih A (.int i) d' u v (by unfold D.depth;omega) (by omega) hx hy hc
  | str i=>exact ih A (.str i) d' u v (by unfold D.depth;omega) (by omega) hx hy hc
  | tup ds=>
   cases d' with
   | int j=>unfold Cmp at hc;exact hc.elim
   | str j=>unfold Cmp at hc;exact hc.elim
   | tup es=>
    unfold TrAt at hx hy
    unfold Cmp at hc
    unfold D.depth at hd
    obtain ⟨a,its,rfl,ta,hxs⟩:=hx
    obtain ⟨b,its2,rfl,tb,hys⟩:=hy
    have l1:ds.length=its.size:=by have:=hxs.length;simpa using this
    have l2:es.length=its2.size:=by have:=hys.length;simpa using this
    unfold dLt
    intro prog w E Q h
    have hL:LexAt A.in1 s ds es its.toList its2.toList:=J0 hxs hys hc (fun x hx y u v h1 h2=>Yu n A.in1 x y u v (by have:=qd hx;omega) (by show A.units+1+n < cLine;omega) h1 h2) (fun x hx y u v h1 h2 h3=>ih A.in1 x y u v (by have:=qd hx;omega) (by show A.units+1+n < cLine;omega) h1 h2 h3)
    obtain ⟨⟨cls,dd,data,sl⟩,ho,hcl,m,hd1⟩:=ta
    obtain ⟨⟨cls2,dd2,data2,sl2⟩,ho2,hcl2,m2,hd2⟩:=tb
    simp only at hcl hd1 hcl2 hd2
    subst hcl hd1 hcl2 hd2
    exact richCompare_meets_room (op:=.Lt) ⟨_,ho,rfl⟩ ⟨_,ho2,rfl⟩ PySem.F.slot_tuple_lt PySem.F.entry_tuple_lt (PySem.F.args_tuple_lt_2 _ _) (YQ a b its its2 m m2 dd dd2 sl sl2 ds es l1 l2)
     ⟨ho,ho2,hL,show Value.bool (dLtL ds es)≠Value.notImplemented∧Q (.bool (dLtL ds es)) s from ⟨(fun x=>nomatch x),h⟩⟩ (by omega)
end
section
variable {prog:Program} {w:World} {A:Around} {E:Value→Shared→Prop} {s:Shared}
theorem jcD {b:Bool} {Q:Bool→Shared→Prop} (h:Q b s):wpAny (model prog w) A (truthOfDropped (.bool b)) Q E s:=by
 unfold truthOfDropped
 show wpAny (model prog w) A (truthy (.bool b)) Q E s
 first | exact wpAny_pure h | exact wpAny_truthy_bool h | (unfold truthy;exact wpAny_pure h)
theorem jfQ {u v:Value} {r:Bool} {Q:Bool→Shared→Prop} (hl:jcv A s u v r) (h:Q r s):wpAny (model prog w) A (oneLt' false u v) Q E s:=by
 rw [oneLt'_eq]
 simp only [Bool.false_eq_true,if_false]
 exact wpAny_bind (hl prog w _ _ (jcD h))
theorem jci {n m:Nat} {Q:Bool→Shared→Prop}:∀ {xs ys:List D} {us vs:List Value} (i:Nat),LexAt A s xs ys us vs→xs.length+m=ys.length+n→Q (dLtL xs ys) s→KatLex prog w A false (decide (n < m)) Q (us.zip vs) i s:=by
 intro xs ys us vs i h
 induction h generalizing i with
 | @nilL ys vs e=>
  intro hl q
  rw [List.zip_nil_left]
  refine kat_nil ?_
  cases ys with
  | nil=>
   simp only [List.length_nil] at hl
   unfold dLtL at q
   rw [decide_eq_false (by omega)];exact q
  | cons c u=>
   simp only [List.length_nil,List.length_cons] at hl
   unfold dLtL at q
   rw [decide_eq_true (by omega)];exact q
 | @nilR xs vs e=>
  intro hl q
  rw [List.zip_nil_right]
  refine kat_nil ?_
  cases xs with
  | nil=>
   simp only [List.length_nil] at hl
   unfold dLtL at q
   rw [decide_eq_false (by omega)];exact q
  | cons c u=>
   simp only [List.length_nil,List.length_cons] at hl
   unfold dLtL at q
   rw [decide_eq_false (by omega)];exact q
 | @cons x y xs ys u v us vs e1 e2 he hy hn ih=>
  intro hl q
  rw [List.zip_cons_cons]
  rw [zb] at q
  simp only [List.length_cons] at hl
  refine kat_cons (he prog w _ _ ?_)
  cases hE:dEq x y with
  | true=>
   rw [if_pos hE] at q
   exact kat_yes (ih hE (i+1) (by omega) q)
  | false=>
   rw [if_neg (by rw [hE];exact Bool.false_ne_true)] at q
   exact kat_no (jfQ (hn hE) q)
structure Trees (L:List D) (n:Nat):Prop where
 cmp:∀ d∈L,∀ e∈L,Cmp d e
 dep:∀ d∈L,d.depth≤n
 tup:∀ d∈L,∃ ds,d=.tup ds
open Classical in
noncomputable def zQ (h:Heap) (L:List D) (v:Value):Option D:=if x:∃ d,d∈L∧TrAt h d v then some (choose x) else none
theorem JL {h:Heap} {L:List D} {v:Value} {d:D} (hd:d∈L) (ht:TrAt h d v):zQ h L v=some d:=by
 unfold zQ
 have x:∃ d,d∈L∧TrAt h d v:=⟨d,hd,ht⟩
 rw [dif_pos x]
 rw [ZW (Classical.choose_spec x).2 ht]
theorem Ji {h:Heap} {L:List D} {v:Value} {d:D} (e:zQ h L v=some d):d∈L∧TrAt h d v:=by
 unfold zQ at e
 split at e
 ·rename_i x
  injection e with e
  rw [← e]
  exact Classical.choose_spec x
 ·cases e
noncomputable def qv (h:Heap) (L:List D):PyProof.Rows.KeyKind where
 α:=D
 blt:=dLt
 irrefl:=jbs
 trans:=Je
 negTrans:=jeZ
 total:=Yv
 keyOf:=zQ h L
 dflt:=.int 0
theorem ZV {L:List D} {n:Nat} (T:Trees L n) (hA:A.units+n < cLine):Tm.LtAt prog w A E s (tuples' false) (qv s.heap L):=by
 intro st x y Q hk hx hy h
 obtain ⟨d,hd⟩:=hx
 obtain ⟨e,he⟩:=hy
 obtain ⟨d1,d2⟩:=Ji hd
 obtain ⟨e1,e2⟩:=Ji he
 have k1:Tm.kq (qv s.heap L) x=d:=by unfold Tm.kq;rw [hd];rfl
 have k2:Tm.kq (qv s.heap L) y=e:=by unfold Tm.kq;rw [he];rfl
 rw [k1,k2] at h
 have hc:=T.cmp d d1 e e1
 have hdp:=T.dep d d1
 obtain ⟨ds,rfl⟩:=T.tup d d1
 obtain ⟨es,rfl⟩:=T.tup e e1
 rw [lt'_eq]
 refine wpS_bind (wpS_get ?_)
 rw [hk]
 unfold TrAt at d2 e2
 obtain ⟨a,its,ea,ta,hxs⟩:=d2
 obtain ⟨b,its2,eb,tb,hys⟩:=e2
 have l1:ds.length=its.size:=by have:=hxs.length;simpa using this
 have l2:es.length=its2.size:=by have:=hys.length;simpa using this
 unfold Cmp at hc
 have hdp':D.depthL ds+1≤n:=by unfold D.depth at hdp;omega
 have hL:LexAt A s ds es its.toList its2.toList:=J0 hxs hys hc (fun x hx y u v h1 h2=>Yu n A x y u v (by have:=qd hx;omega) hA h1 h2) (fun x hx y u v h1 h2 h3=>jei n A x y u v (by have:=qd hx;omega) hA h1 h2 h3)
 obtain ⟨o,ho,hcl,m,hd1⟩:=ta
 obtain ⟨o2,ho2,hcl2,m2,hd2⟩:=tb
 rw [ea,eb]
 refine wpS_bind (wpS_lift (wpAny_attempt (kat_lt ho hd1 ho2 hd2 (jci 0 hL (by omega) ⟨rfl,?_⟩))))
 have h:Q (some (dLt (D.tup ds) (D.tup es))) st:=h
 unfold dLt at h
 exact wpS_pure h
end
theorem YS {h:Heap} {vs vs':List Value} (p:vs'.Perm vs):∀ {ds:List D},TrAtL h ds vs→∃ ms:List D,TrAtL h ms vs'∧ms.Perm ds:=by
 induction p with
 | nil=>intro ds x;exact ⟨ds,x,.refl _⟩
 | cons v _ ih=>
  intro ds x
  cases ds with
  | nil=>unfold TrAtL at x;cases x
  | cons d ds=>
   unfold TrAtL at x
   obtain ⟨v',r,e,h1,h2⟩:=x
   injection e with e1 e2
   subst e1 e2
   obtain ⟨ms,g1,g2⟩:=ih h2
   exact ⟨d :: ms,by unfold TrAtL;exact ⟨_,_,rfl,h1,g1⟩,g2.cons d⟩
 | swap a b l=>
  intro ds x
  cases ds with
  | nil=>unfold TrAtL at x;cases x
  | cons d ds=>
   unfold TrAtL at x
   obtain ⟨v',r,e,h1,h2⟩:=x
   injection e with e1 e2
   subst e1 e2
   cases ds with
   | nil=>unfold TrAtL at h2;cases h2
   | cons d2 ds=>
    unfold TrAtL at h2
    obtain ⟨v2,r2,e,g1,g2⟩:=h2
    injection e with e1 e2
    subst e1 e2
    refine ⟨d2 :: d :: ds,?_,.swap _ _ _⟩
    unfold TrAtL
    refine ⟨_,_,rfl,g1,?_⟩
    unfold TrAtL
    exact ⟨_,_,rfl,h1,g2⟩
 | trans p1 p2 ih1 ih2=>
  intro ds x
  obtain ⟨ms,g1,g2⟩:=ih2 x
  obtain ⟨ns,g3,g4⟩:=ih1 g1
  exact ⟨ns,g3,g4.trans g2⟩
theorem zR {h:Heap}:∀ {ds:List D} {vs:List Value} {v:Value},TrAtL h ds vs→v∈vs→∃ d∈ds,TrAt h d v
 | [],vs,v,x,hv=>by unfold TrAtL at x;subst x;cases hv
 | d :: ds,vs,v,x,hv=>by
  unfold TrAtL at x
  obtain ⟨u,r,rfl,h1,h2⟩:=x
  rcases List.mem_cons.mp hv with rfl | hv
  ·exact ⟨d,List.mem_cons_self,h1⟩
  ·obtain ⟨e,he,ht⟩:=zR h2 hv
   exact ⟨e,List.mem_cons_of_mem _ he,ht⟩
theorem jaI {h:Heap}:∀ {ds:List D} {vs:List Value},TrAtL h ds vs→∀ (i:Nat) (d:D),ds[i]?=some d→∃ v,vs[i]?=some v∧TrAt h d v
 | [],vs,x,i,d,e=>by simp at e
 | c :: ds,vs,x,i,d,e=>by
  unfold TrAtL at x
  obtain ⟨u,r,rfl,h1,h2⟩:=x
  cases i with
  | zero=>simp only [List.getElem?_cons_zero,Option.some.injEq] at e;subst e;exact ⟨u,rfl,h1⟩
  | succ i=>exact jaI h2 i d (by simpa using e)
theorem Yb {h:Heap} {ds:List D} {vs:List Value} (I:TrAtL h ds vs) {xs:Array Keyed} (hp:xs.Perm (pairsOf vs)) (hs:SortedToK (qv h ds) xs (pairsOf vs).size) :
  ∃ ms,TrAtL h ms (xs.map (·.2)).toList∧ms.Perm ds∧ms.Pairwise (fun a b=>dLt b a=false):=by
 have hl:xs.toList.Perm (vs.zip vs):=by rw [← pairsOf_toList];exact Array.perm_iff_toList_perm.mp hp
 have hmem:∀ p,p∈xs.toList→p.1=p.2∧p.1∈vs:=fun p hp'=>mem_zip_self (hl.mem_iff.mp hp')
 have e:(xs.map (·.2)).toList.Perm vs:=by
  rw [Array.toList_map]
  have:=hl.map (·.2)
  rwa [List.map_snd_zip (Nat.le_refl _)] at this
 obtain ⟨ms,h1,h2⟩:=YS e I
 refine ⟨ms,h1,h2,?_⟩
 have key:∀ i d,ms[i]?=some d→KK (qv h ds) xs i=d:=by
  intro i d hd
  obtain ⟨v,hv,ht⟩:=jaI h1 i d hd
  rw [Array.toList_map,List.getElem?_map,Array.getElem?_toList] at hv
  unfold KK
  cases hx:xs[i]? with
  | none=>rw [hx] at hv;cases hv
  | some p=>
   rw [hx] at hv
   injection hv with hv
   have hm:p∈xs.toList:=by
    rw [← Array.getElem?_toList] at hx
    exact List.mem_of_getElem? hx
   have e1:p.1=v:=by rw [(hmem p hm).1];exact hv
   show (zQ h ds p.1).getD _=d
   rw [e1,JL (h2.mem_iff.mp (List.mem_of_getElem? hd)) ht]
   rfl
 have hlen:ms.length=(pairsOf vs).size:=by
  rw [h1.length,e.length_eq,pairsOf_size]
 rw [List.pairwise_iff_getElem]
 intro i j hi hj hij
 have:=hs i j (Nat.le_of_lt hij) (by omega)
 rw [key i _ (List.getElem?_eq_getElem hi),key j _ (List.getElem?_eq_getElem hj)] at this
 exact this
structure SortT (ds:List D) (n:Nat):Prop extends Trees ds n where
 fst:∀ d∈ds,∃ es r,d=.tup (.tup es :: r)
section
variable {prog:Program} {w:World} {A:Around} {E:Value→Shared→Prop} {s:Shared}
theorem JK {h:Heap}:∀ {ds:List D} {vs:List Value},TrAtL h ds vs→(∀ d∈ds,∃ es r,d=.tup (.tup es :: r))→∃ fs,KatTups h vs fs∧fs.length=vs.length∧∀ v∈fs,∃ a o,v=Value.ref a∧h.get? a=some o∧o.cls=.type "tuple"
 | [],vs,x,_=>by unfold TrAtL at x;subst x;exact ⟨[],KatTups.nil,rfl,fun v hv=>absurd hv (by simp)⟩
 | d :: ds,vs,x,hd=>by
  unfold TrAtL at x
  obtain ⟨v,r,rfl,h1,h2⟩:=x
  obtain ⟨fs,g1,g2,g3⟩:=JK h2 fun e he=>hd e (List.mem_cons_of_mem _ he)
  obtain ⟨es,rr,rfl⟩:=hd d List.mem_cons_self
  unfold TrAt at h1
  obtain ⟨a,its,rfl,⟨o,ho,hc,n,hdt⟩,hL⟩:=h1
  unfold TrAtL at hL
  obtain ⟨f,fr,ef,hf,_⟩:=hL
  unfold TrAt at hf
  obtain ⟨b,its2,rfl,⟨o2,ho2,hc2,_⟩,_⟩:=hf
  refine ⟨.ref b :: fs,KatTups.cons ho hc hdt ?_ g1,by simp [g2],fun v hv=>?_⟩
  ·rw [← Array.getElem?_toList,ef];rfl
  ·rcases List.mem_cons.mp hv with rfl | hv
   ·exact ⟨b,o2,rfl,ho2,hc2⟩
   ·exact g3 v hv
theorem jai {ds:List D} {vs:List Value} {Q:SortKind→Shared→Prop} (hx:TrAtL s.heap ds vs) (hf:∀ d∈ds,∃ es r,d=.tup (.tup es :: r)) (hp:0 < vs.length) (q:Q (tuples' false) s):wpAny (model prog w) A (keyKind' vs.toArray) Q E s:=by
 obtain ⟨fs,g1,g2,g3⟩:=JK hx hf
 refine kat_kind (T:=.type "tuple") g1 (by omega) (fun v hv=>?_) (by decide) (by simpa using q)
 obtain ⟨a,o,rfl,ho,hc⟩:=g3 v hv
 intro A' Q' E' s' k q'
 exact wpAny_typeOf (s:=s') ⟨o,k _ _ ho,hc⟩ q'
theorem Z1 {l:Addr} {vs:List Value} {ds:List D} {ep n:Nat} {P:Fin→Shared→Prop} (at_:s.heap.get? l=some (seqObj "list" vs.toArray ep)) (I:TrAtL s.heap ds vs) (S:SortT ds n) (hA:A.units+n < cLine) (most:vs.length≤1000) (two:2≤vs.length)
  (q:∀ (out:Array Value) (ms:List D),out.toList.Perm vs→TrAtL s.heap ms out.toList→ms.Perm ds→ms.Pairwise (fun a b=>dLt b a=false)→P (.done (.ret .none)) { s with heap:=sortedHeap s.heap l vs out }):wpAny (model prog w) A (Builtin.«list.sort» ⟨[.ref l],[]⟩) P E s:=by
 have lt:l < s.heap.objs.size:=Heap.lt_size at_
 obtain ⟨v,u,r,rfl⟩:∃ v u r,vs=v :: u :: r:=match vs,two with | v :: u :: r,_=>⟨v,u,r,rfl⟩
 have two':¬ (v :: u :: r).toArray.size < 2:=by show ¬ (v :: u :: r).length < 2;omega
 generalize hvs:v :: u :: r=vs at *
 rw [list_sort_plain]
 refine wpAny_bind (listItems_at at_ rfl (wpAny_bind (listUpdate_at at_ rfl ?_)))
 have bare:∃ e1,(s.heap.update l (Obj.mapSeq fun _=>#[])).get? l=some (seqObj "list" #[] e1):=⟨_,get?_update_seq at_ (fun _=>#[])⟩
 obtain ⟨e1,bare⟩:=bare
 refine wpAny_bind (seqEpoch_at bare rfl (wpAny_bind (wpAny_newTuple (wpAny_bind (wpAny_newList (wpAny_holding ?_))))))
 have still:(((s.heap.update l (Obj.mapSeq fun _=>#[])).push (seqObj "tuple" vs.toArray 0)).push (seqObj "list" #[] 0)).get? l=some (seqObj "list" #[] e1):=by
  have z1:(s.heap.update l (Obj.mapSeq fun _=>#[])).objs.size=s.heap.objs.size:=Heap.size_update ..
  rw [Heap.get?_push_ne,Heap.get?_push_ne]
  ·exact bare
  ·rw [z1];exact Nat.ne_of_lt lt
  ·rw [size_push',z1];exact Nat.ne_of_lt (Nat.lt_succ_of_lt lt)
 have kp:∀ a xs,s.heap.IsTuple a xs→(((s.heap.update l (Obj.mapSeq fun _=>#[])).push (seqObj "tuple" vs.toArray 0)).push (seqObj "list" #[] 0)).IsTuple a xs:=by
  rintro a xs ⟨o,ho,hc,m,hd⟩
  have nal:a≠l:=by
   rintro rfl
   rw [at_] at ho
   cases ho
   injection hc with hc
   exact absurd hc (by decide)
  refine ⟨o,Heap.get?_push_of_some _ (Heap.get?_push_of_some _ ?_),hc,m,hd⟩
  rw [Heap.get?_update_other _ _ (Ne.symm nal)]
  exact ho
 have I':=I.kept kp
 show wpAny (model prog w) A _ P E ({ s with heap:=((s.heap.update l (Obj.mapSeq fun _=>#[])).push (seqObj "tuple" vs.toArray 0)).push (seqObj "list" #[] 0) }:Shared)
 generalize hs':({ s with heap:=((s.heap.update l (Obj.mapSeq fun _=>#[])).push (seqObj "tuple" vs.toArray 0)).push (seqObj "list" #[] 0) }:Shared)=s'
 have I2:TrAtL s'.heap ds vs:=by rw [← hs'];exact I'
 dsimp only
 rw [if_neg two',if_neg two']
 refine wpAny_bind (jai I2 S.fst (by omega) ?_)
 have keys:KeysOf (qv s'.heap ds) (pairsOf vs):=by
  intro p hp
  rw [pairsOf_toList] at hp
  obtain ⟨d,hd,ht⟩:=zR I2 (mem_zip_self hp).2
  exact ⟨d,JL hd ht⟩
 have still':s'.heap.get? l=some (seqObj "list" #[] e1):=by rw [← hs'];exact still
 refine wpAny_bind (wpAny_mono (Tm.wpS_sortAll (st:=SortSt.mk' (tuples' false) (pairsOf vs) #[] 7 none) (ZV S.toTrees hA) keys ⟨Array.Perm.refl _,rfl,rfl,rfl⟩ (by rw [pairsOf_size];omega) (Q:=fun _ sn=>(arrOf sn).Perm (pairsOf vs)∧failedOf sn=none∧SortedToK (qv s'.heap ds) (arrOf sn) (pairsOf vs).size) fun sn a b c=>⟨a,b,c⟩) (fun o sh J=>?_) fun _ _ e=>e)
 obtain ⟨⟨⟩,sn⟩:=o
 obtain ⟨rfl,perm,none_,up⟩:=J
 obtain ⟨ms,h1,h2,h3⟩:=Yb I2 perm up
 have fits:((arrOf sn).map (·.2)).size≤sizeLine:=by
  rw [Array.size_map,perm.size_eq,pairsOf_size]
  exact Nat.le_trans most (by rw [sizeLine_eq];decide)
 dsimp only
 refine wpAny_bind (seqEpoch_at still' rfl (wpAny_bind (listUpdate_at still' rfl ?_ (hsz2:=Nat.le_succ_of_le fits))))
 rw [none_]
 simp only [bne_self_eq_false,Bool.false_eq_true,if_false]
 have e2:(((arrOf sn).map (·.2)).toList).Perm vs:=by
  have hl:(arrOf sn).toList.Perm (vs.zip vs):=by rw [← pairsOf_toList];exact Array.perm_iff_toList_perm.mp perm
  rw [Array.toList_map]
  have:=hl.map (·.2)
  rwa [List.map_snd_zip (Nat.le_refl _)] at this
 obtain ⟨ms',h1',h2'⟩:=YS e2 I
 have em:ms'=ms:=trL_inj (h1'.kept kp) (by rw [← hs'] at h1;exact h1)
 rw [em] at h1'
 rw [← hs']
 exact wpAny_pure (q _ ms e2 h1' h2 h3)
end
section
variable {prog:Program} {w:World} {A:Around} {E:Value→Shared→Prop} {s:Shared}
theorem jcR {l:Addr} {vs:List Value} {ep:Nat} {P:Fin→Shared→Prop} (at_:s.heap.get? l=some (seqObj "list" vs.toArray ep)) (few:vs.length < 2)
  (q:P (.done (.ret .none)) { s with heap:=sortedHeap s.heap l vs vs.toArray }):wpAny (model prog w) A (Builtin.«list.sort» ⟨[.ref l],[]⟩) P E s:=by
 have lt:l < s.heap.objs.size:=Heap.lt_size at_
 have two':vs.toArray.size < 2:=by show vs.length < 2;omega
 rw [list_sort_plain]
 refine wpAny_bind (listItems_at at_ rfl (wpAny_bind (listUpdate_at at_ rfl ?_)))
 have bare:∃ e1,(s.heap.update l (Obj.mapSeq fun _=>#[])).get? l=some (seqObj "list" #[] e1):=⟨_,get?_update_seq at_ (fun _=>#[])⟩
 obtain ⟨e1,bare⟩:=bare
 refine wpAny_bind (seqEpoch_at bare rfl (wpAny_bind (wpAny_newTuple (wpAny_bind (wpAny_newList (wpAny_holding ?_))))))
 have still:(((s.heap.update l (Obj.mapSeq fun _=>#[])).push (seqObj "tuple" vs.toArray 0)).push (seqObj "list" #[] 0)).get? l=some (seqObj "list" #[] e1):=by
  have z1:(s.heap.update l (Obj.mapSeq fun _=>#[])).objs.size=s.heap.objs.size:=Heap.size_update ..
  rw [Heap.get?_push_ne,Heap.get?_push_ne]
  ·exact bare
  ·rw [z1];exact Nat.ne_of_lt lt
  ·rw [size_push',z1];exact Nat.ne_of_lt (Nat.lt_succ_of_lt lt)
 show wpAny (model prog w) A _ P E ({ s with heap:=((s.heap.update l (Obj.mapSeq fun _=>#[])).push (seqObj "tuple" vs.toArray 0)).push (seqObj "list" #[] 0) }:Shared)
 dsimp only
 rw [if_pos two',if_pos two']
 refine wpAny_bind (wpAny_pure (wpAny_bind (wpAny_pure ?_)))
 dsimp only
 have eA:Array.map (fun x=>x.2) (arrOf (SortSt.mk' general' (vs.toArray.zip vs.toArray) #[] 7 none))=vs.toArray:=by
  show Array.map (fun x=>x.2) (vs.toArray.zip vs.toArray)=vs.toArray
  apply Array.ext'
  rw [Array.toList_map,show (vs.toArray.zip vs.toArray)=pairsOf vs from rfl,pairsOf_toList,List.map_snd_zip (Nat.le_refl _)]
 rw [eA]
 refine wpAny_bind (seqEpoch_at still rfl (wpAny_bind (listUpdate_at still rfl ?_ (hsz2:=Nat.le_succ_of_le ?_))))
 ·simp only [bne_self_eq_false,Bool.false_eq_true,if_false]
  exact wpAny_pure q
 ·rw [sizeLine_eq]
  exact Nat.le_trans (Nat.le_of_lt two') (by decide)
theorem jfu {r:D→D→Prop}:∀ {ds:List D},ds.length < 2→ds.Pairwise r
 | [],_=>.nil
 | [_],_=>List.pairwise_singleton ..
 | _ :: _ :: _,h=>absurd h (by simp only [List.length_cons];omega)
theorem Y1 {l:Addr} {vs:List Value} {ds:List D} {ep n:Nat} {P:Fin→Shared→Prop} (at_:s.heap.get? l=some (seqObj "list" vs.toArray ep)) (I:TrAtL s.heap ds vs) (S:SortT ds n) (hA:A.units+n < cLine) (most:vs.length≤1000)
  (q:∀ (out:Array Value) (ms:List D),out.toList.Perm vs→TrAtL s.heap ms out.toList→ms.Perm ds→ms.Pairwise (fun a b=>dLt b a=false)→P (.done (.ret .none)) { s with heap:=sortedHeap s.heap l vs out }):wpAny (model prog w) A (Builtin.«list.sort» ⟨[.ref l],[]⟩) P E s:=by
 rcases Nat.lt_or_ge vs.length 2 with few | two
 ·refine jcR at_ few (q vs.toArray ds (.refl _) I (.refl _) ?_)
  have:ds.length < 2:=by rw [I.length];exact few
  exact jfu this
 ·exact Z1 at_ I S hA most two q
end
theorem Yh:∀ (n:Nat) (f:Nat→Nat),(∀ i,i≤n→f i < n)→∃ i j,i < j∧j≤n∧f i=f j
 | 0,f,h=>absurd (h 0 (Nat.le_refl _)) (Nat.not_lt_zero _)
 | n+1,f,h=>by
  by_cases hex:∃ i,i≤n∧f i=f (n+1)
  ·obtain ⟨i,hi,e⟩:=hex
   exact ⟨i,n+1,by omega,Nat.le_refl _,e⟩
  ·obtain ⟨i,j,h1,h2,h3⟩:=Yh n (fun i=>if f i=n then f (n+1) else f i) (fun i hi=>by
    have h1:=h i (by omega)
    have h2:=h (n+1) (Nat.le_refl _)
    have h3:f i≠f (n+1):=fun e=>hex ⟨i,hi,e⟩
    split
    ·next e=>omega
    ·next e=>omega)
   have a1:f i≠f (n+1):=fun e=>hex ⟨i,by omega,e⟩
   have a2:f j≠f (n+1):=fun e=>hex ⟨j,h2,e⟩
   refine ⟨i,j,h1,by omega,?_⟩
   by_cases e1:f i=n
   ·by_cases e2:f j=n
    ·omega
    ·rw [if_pos e1,if_neg e2] at h3;exact absurd h3.symm a2
   ·by_cases e2:f j=n
    ·rw [if_neg e1,if_pos e2] at h3;exact absurd h3 a1
    ·rw [if_neg e1,if_neg e2] at h3;exact h3
def qC (mask:Nat):Nat→Nat×Nat→Nat×Nat
 | 0,p=>p
 | n+1,p=>qC mask n (SetTable.leap mask p.1 p.2)
theorem KG (mask:Nat):∀ (a b:Nat) (p:Nat×Nat),qC mask (a+b) p=qC mask b (qC mask a p)
 | 0,b,p=>by rw [Nat.zero_add];rfl
 | a+1,b,p=>by rw [show a+1+b=a+b+1 by omega];exact KG mask a b _
theorem J2 (mask:Nat):∀ (n:Nat) (p:Nat×Nat),(qC mask n p).2=p.2 / 32 ^ n
 | 0,p=>by show p.2=_;rw [Nat.pow_zero,Nat.div_one]
 | n+1,p=>by
  show (qC mask n (SetTable.leap mask p.1 p.2)).2=_
  rw [J2 mask n]
  show p.2 / 32 / 32 ^ n=_
  rw [Nat.div_div_eq_div_mul,Nat.pow_succ,Nat.mul_comm]
def orb (M:Nat):Nat→Nat→Nat
 | 0,a=>a
 | n+1,a=>orb M n ((a * 5+1) % M)
theorem yG (M:Nat):∀ (a b x:Nat),orb M (a+b) x=orb M b (orb M a x)
 | 0,b,x=>by rw [Nat.zero_add];rfl
 | a+1,b,x=>by rw [show a+1+b=a+b+1 by omega];exact yG M a b _
def jfO (M:Nat):Nat→Nat→List Nat
 | 0,_=>[]
 | n+1,a=>a :: jfO M n ((a * 5+1) % M)
theorem Zd (M:Nat):∀ (n a e:Nat),e∈jfO M n a→∃ k,k < n∧orb M k a=e
 | 0,a,e,h=>by cases h
 | n+1,a,e,h=>by
  rcases List.mem_cons.mp h with rfl | h
  ·exact ⟨0,Nat.succ_pos _,rfl⟩
  ·obtain ⟨k,h1,h2⟩:=Zd M n _ e h
   exact ⟨k+1,by omega,h2⟩
def Full (M:Nat):Prop:=(∀ e,e < M→∃ k,k < M∧orb M k 0=e)∧orb M M 0=0
theorem JC {M:Nat} (h:((List.range M).all fun e=>(jfO M M 0).contains e)=true) (h0:orb M M 0=0):Full M:=by
 refine ⟨fun e he=>?_,h0⟩
 have:=List.all_eq_true.mp h e (List.mem_range.mpr he)
 exact Zd M M 0 e (List.contains_iff_mem.mp this)
theorem full8:Full 8:=JC (by decide +kernel) (by decide +kernel)
theorem jgc:Full 32:=JC (by decide +kernel) (by decide +kernel)
theorem jeV:Full 128:=JC (by decide +kernel) (by decide +kernel)
theorem jbm:Full 512:=JC (by decide +kernel) (by decide +kernel)
theorem Full.reach {M:Nat} (F:Full M) {a e:Nat} (ha:a < M) (he:e < M):∃ k,k < M∧orb M k a=e:=by
 obtain ⟨i,hi,rfl⟩:=F.1 a ha
 obtain ⟨j,hj,rfl⟩:=F.1 e he
 rcases Nat.lt_or_ge j i with c | c
 ·refine ⟨M - i+j,by omega,?_⟩
  rw [← yG,show i+(M - i+j)=M+j by omega,yG,F.2]
 ·refine ⟨j - i,by omega,?_⟩
  rw [← yG,show i+(j - i)=j by omega]
theorem KF (mask:Nat):∀ (n:Nat) (a:Nat),qC mask n (a,0)=(orb (mask+1) n a,0)
 | 0,a=>rfl
 | n+1,a=>by
  show qC mask n (SetTable.leap mask a 0)=_
  have e:SetTable.leap mask a 0=((a * 5+1) % (mask+1),0):=by unfold SetTable.leap;simp
  rw [e,KF mask n]
  rfl
theorem jbd (mask i p:Nat):(SetTable.leap mask i p).1 < mask+1:=Nat.mod_lt _ (Nat.succ_pos _)
theorem Zt {mask:Nat}:∀ (n:Nat) {p:Nat×Nat},p.1 < mask+1→(qC mask n p).1 < mask+1
 | 0,p,h=>h
 | n+1,p,h=>Zt n (jbd _ _ _)
theorem J1 {mask:Nat} (F:Full (mask+1)) {i p e:Nat} (hi:i < mask+1) (hp:p < 2 ^ 64) (he:e < mask+1):∃ n,n≤mask+13∧(qC mask n (i,p)).1=e:=by
 have h2:(qC mask 13 (i,p)).2=0:=by
  rw [J2]
  exact Nat.div_eq_of_lt (Nat.lt_of_lt_of_le hp (by decide))
 have h1:=Zt (mask:=mask) 13 (p:=(i,p)) hi
 obtain ⟨k,hk,e1⟩:=F.reach h1 he
 refine ⟨13+k,by omega,?_⟩
 rw [KG]
 have e2:qC mask 13 (i,p)=((qC mask 13 (i,p)).1,0):=Prod.ext rfl h2
 rw [e2,KF,e1]
theorem jbz (h:Int):SetTable.bits h < 2 ^ 64:=by
 unfold SetTable.bits
 have h1:=Int.emod_nonneg h (b:=(2 ^ 64:Int)) (by decide)
 have h2:=Int.emod_lt_of_pos h (b:=(2 ^ 64:Int)) (by decide)
 omega
def seq (t:SetTable) (p:SetTable.Probe):Nat→SetTable.Probe
 | 0=>p
 | n+1=>t.advance (seq t p n)
theorem jaW (t:SetTable) (p:SetTable.Probe) (a:Nat):∀ b,seq t p (a+b)=seq t (seq t p a) b
 | 0=>rfl
 | b+1=>by
  show t.advance (seq t p (a+b))=_
  rw [jaW t p a b]
  rfl
theorem Y4 (t:SetTable):∀ (n:Nat) (p:SetTable.Probe),n≤p.more→seq t p n={ p with j:=p.j+n,more:=p.more - n }
 | 0,p,_=>rfl
 | n+1,p,h=>by
  show t.advance (seq t p n)=_
  rw [Y4 t n p (by omega)]
  unfold SetTable.advance
  dsimp only
  rw [if_pos (by omega)]
  congr 1
theorem jfq (mask i:Nat):SetTable.runEnd mask i - i≤9:=by
 unfold SetTable.runEnd
 split <;> omega
def je9 (t:SetTable) (p:SetTable.Probe):Prop:=p.j=p.i∧p.more=SetTable.runEnd t.mask p.i - p.i
theorem jcn {t:SetTable} {p:SetTable.Probe} (h:je9 t p):∃ n,n≤10∧je9 t (seq t p n)∧((seq t p n).i,(seq t p n).perturb)=SetTable.leap t.mask p.i p.perturb:=by
 refine ⟨p.more+1,?_,?_⟩
 ·have:=jfq t.mask p.i
  rw [← h.2] at this
  omega
 ·have e:seq t p (p.more+1)={ p with j:=(SetTable.leap t.mask p.i p.perturb).1,more:=SetTable.runEnd t.mask (SetTable.leap t.mask p.i p.perturb).1 - (SetTable.leap t.mask p.i p.perturb).1,i:=(SetTable.leap t.mask p.i p.perturb).1,perturb:=(SetTable.leap t.mask p.i p.perturb).2 }:=by
   show t.advance (seq t p p.more)=_
   rw [Y4 t p.more p (Nat.le_refl _)]
   unfold SetTable.advance
   dsimp only
   rw [if_neg (by omega)]
  rw [e]
  exact ⟨⟨rfl,rfl⟩,rfl⟩
theorem jfi {t:SetTable}:∀ (n:Nat) {p:SetTable.Probe},je9 t p→∃ m,m≤10 * n∧(seq t p m).j=(qC t.mask n (p.i,p.perturb)).1
 | 0,p,h=>⟨0,Nat.le_refl _,h.1⟩
 | n+1,p,h=>by
  obtain ⟨a,ha,h1,h2⟩:=jcn h
  obtain ⟨b,hb,h3⟩:=jfi n h1
  refine ⟨a+b,by omega,?_⟩
  rw [jaW,h3,h2]
  rfl
theorem ZZ (t:SetTable) (h:Int):je9 t (t.probeStart h):=⟨rfl,rfl⟩
structure TabIn (led:Bool) (t:SetTable):Prop where
 ok:TabOk led t
 full:Full (t.mask+1)
 odd:t.mask % 2=1
 le:∀ j∈t.place.toList,j≤t.mask
 room:t.place.size≤t.mask
theorem jc7 {xs:Array Nat} {j:Nat} (h:xs[SetTable.below xs j]?=some j):j∈xs.toList:=by
 obtain ⟨hlt,e⟩:=Array.getElem?_eq_some_iff.mp h
 rw [← e]
 exact Array.getElem_mem_toList hlt
theorem jdP {led:Bool} {t:SetTable} (T:TabIn led t) {j:Nat} (h:j ∉ t.place.toList):t.slot j=.empty:=by
 unfold SetTable.slot
 dsimp only
 rw [if_neg (fun z=>h (jc7 (by simpa using z))),T.ok.none_]
 simp [SetTable.has]
theorem jeP {led:Bool} {t:SetTable} (T:TabIn led t) {j:Nat} (h:t.slot j≠.empty):∃ i,t.slot j=.live i∧i < t.place.size:=by
 unfold SetTable.slot at h ⊢
 dsimp only at h ⊢
 by_cases c:(t.place[SetTable.below t.place j]? == some j)=true
 ·rw [if_pos c]
  refine ⟨_,rfl,?_⟩
  have c':t.place[SetTable.below t.place j]?=some j:=by simpa using c
  exact (Array.getElem?_eq_some_iff.mp c').1
 ·rw [if_neg c,T.ok.none_] at h
  exact absurd (by simp [SetTable.has]) h
theorem Z2 {led:Bool} {t:SetTable} (T:TabIn led t):∃ j,j < t.mask+1∧t.slot j=.empty:=by
 by_cases h:∃ j,j < t.mask+1∧j ∉ t.place.toList
 ·obtain ⟨j,h1,h2⟩:=h
  exact ⟨j,h1,jdP T h2⟩
 ·exfalso
  have key:∀ j,∃ i,j≤t.mask→i < t.place.size∧t.place.toList[i]?=some j:=fun j=>by
   by_cases hj:j≤t.mask
   ·have hm:j∈t.place.toList:=Classical.byContradiction fun z=>h ⟨j,by omega,z⟩
    obtain ⟨i,hi,e⟩:=List.mem_iff_getElem.mp hm
    exact ⟨i,fun _=>⟨by simpa using hi,by rw [List.getElem?_eq_getElem hi,e]⟩⟩
   ·exact ⟨0,fun z=>absurd z hj⟩
  obtain ⟨f,hf⟩:=Classical.axiomOfChoice key
  obtain ⟨i,j,h1,h2,h3⟩:=Yh t.mask f fun i hi=>Nat.lt_of_lt_of_le (hf i hi).1 T.room
  have e1:=(hf i (by omega)).2
  have e2:=(hf j h2).2
  rw [h3,e2] at e1
  injection e1 with e1
  omega
theorem ZG {led:Bool} {t:SetTable} (T:TabIn led t) (h:Int):∃ N,N≤10 * (t.mask+13)∧t.slot (seq t (t.probeStart h) N).j=.empty∧∀ m,m < N→∃ i,t.slot (seq t (t.probeStart h) m).j=.live i∧i < t.place.size:=by
 obtain ⟨e,he,hs⟩:=Z2 T
 obtain ⟨n,hn,h1⟩:=J1 T.full (i:=SetTable.bits h % (t.mask+1)) (p:=SetTable.bits h) (Nat.mod_lt _ (Nat.succ_pos _)) (jbz h) he
 obtain ⟨m,hm,h2⟩:=jfi n (ZZ t h)
 have h3:(seq t (t.probeStart h) m).j=e:=by rw [h2];exact h1
 have least:∀ (k:Nat),t.slot (seq t (t.probeStart h) k).j=.empty→∃ N,N≤k∧t.slot (seq t (t.probeStart h) N).j=.empty∧∀ m,m < N→∃ i,t.slot (seq t (t.probeStart h) m).j=.live i∧i < t.place.size:=by
  intro k
  induction k using Nat.strongRecOn with
  | ind k ih=>
   intro hk
   by_cases hex:∃ m,m < k∧t.slot (seq t (t.probeStart h) m).j=.empty
   ·obtain ⟨m,hmk,hme⟩:=hex
    obtain ⟨N,a1,a2,a3⟩:=ih m hmk hme
    exact ⟨N,by omega,a2,a3⟩
   ·exact ⟨k,Nat.le_refl _,hk,fun m hmk=>jeP T fun z=>hex ⟨m,hmk,z⟩⟩
 obtain ⟨N,a1,a2,a3⟩:=least m (by rw [h3];exact hs)
 exact ⟨N,by omega,a2,a3⟩
theorem Y5 {mask i:Nat} (h:i≤mask):i≤SetTable.runEnd mask i∧SetTable.runEnd mask i≤mask:=by
 unfold SetTable.runEnd
 split <;> omega
theorem jcW (t:SetTable) (h:Int):∀ n,(seq t (t.probeStart h) n).j+(seq t (t.probeStart h) n).more≤t.mask
 | 0=>by
  have hi:SetTable.bits h % (t.mask+1)≤t.mask:=Nat.le_of_lt_succ (Nat.mod_lt _ (Nat.succ_pos _))
  have:=Y5 hi
  show SetTable.bits h % (t.mask+1)+(SetTable.runEnd t.mask (SetTable.bits h % (t.mask+1)) - SetTable.bits h % (t.mask+1))≤t.mask
  omega
 | n+1=>by
  have ih:=jcW t h n
  show (t.advance (seq t (t.probeStart h) n)).j+(t.advance (seq t (t.probeStart h) n)).more≤t.mask
  generalize seq t (t.probeStart h) n=p at *
  unfold SetTable.advance
  by_cases c:p.more > 0
  ·rw [if_pos c]
   dsimp only
   omega
  ·rw [if_neg c]
   dsimp only
   have hi:=jbd t.mask p.i p.perturb
   have:=Y5 (show (SetTable.leap t.mask p.i p.perturb).1≤t.mask by omega)
   omega
theorem Jb (t:SetTable) (p:SetTable.Probe):∀ n,(seq t p n).dummy=p.dummy
 | 0=>rfl
 | n+1=>by
  show (t.advance (seq t p n)).dummy=_
  unfold SetTable.advance
  split
  ·exact Jb t p n
  ·exact Jb t p n
theorem Kw {t:SetTable} {p0:SetTable.Probe} {hashAt:Nat→Int} {hh:Int} {N:Nat} (h0:p0.dummy=none) (hN:t.slot (seq t p0 N).j=.empty) (hL:∀ m,m < N→∃ i,t.slot (seq t p0 m).j=.live i∧i < t.place.size) :
  ∀ (f m:Nat),m≤N→N - m < f→SetTable.probe.go t hashAt hh f (seq t p0 m)=some (.empty (seq t p0 N).j none)∨∃ k i,m≤k∧k < N∧t.slot (seq t p0 k).j=.live i∧i < t.place.size∧hashAt i=hh∧SetTable.probe.go t hashAt hh f (seq t p0 m)=some (.candidate (seq t p0 k).j i (seq t p0 (k+1)))
 | 0,m,_,h=>by omega
 | f+1,m,hm,hf=>by
  unfold SetTable.probe.go
  by_cases e:m=N
  ·subst e
   rw [hN]
   exact .inl (by rw [Jb,h0])
  ·obtain ⟨i,hi,hlt⟩:=hL m (by omega)
   rw [hi]
   dsimp only
   by_cases c:(hashAt i == hh)=true
   ·rw [if_pos c]
    exact .inr ⟨m,i,Nat.le_refl _,by omega,hi,hlt,by simpa using c,rfl⟩
   ·rw [if_neg c]
    rcases Kw (hashAt:=hashAt) (hh:=hh) h0 hN hL f (m+1) (by omega) (by omega) with g | ⟨k,i',g1,g2,g3⟩
    ·exact .inl g
    ·exact .inr ⟨k,i',by omega,g2,g3⟩
theorem ZD {mask:Nat} {owner:Array (Option Nat)} {e:Nat} (he:owner.getD e (some 0)=none):∀ (n f:Nat) (p:Nat×Nat),n < f→(qC mask n p).1=e→∃ j,SetTable.layClean.free mask owner f p.1 p.2=some j∧owner.getD j (some 0)=none
 | n,0,p,h,_=>absurd h (Nat.not_lt_zero _)
 | n,f+1,p,h,hp=>by
  unfold SetTable.layClean.free
  cases hf:(List.range (SetTable.runEnd mask p.1+1 - p.1)).find? (fun k=>(owner.getD (p.1+k) (some 0)).isNone) with
  | some k=>
   refine ⟨_,rfl,?_⟩
   have:=List.find?_some hf
   simpa using this
  | none=>
   cases n with
   | zero=>
    exfalso
    have e0:p.1=e:=hp
    have h1:=List.find?_eq_none.mp hf 0 (List.mem_range.mpr (by unfold SetTable.runEnd;split <;> omega))
    rw [Nat.add_zero,e0,he] at h1
    exact h1 rfl
   | succ n=>exact ZD he n f (SetTable.leap mask p.1 p.2) (by omega) hp
structure LaidAll (mask:Nat) (owner:Array (Option Nat)) (k:Nat):Prop where
 size:owner.size=mask+1
 has:∀ m,m < k→∃ j:Nat,owner[j]?=some (some m)
 lt:∀ (j m:Nat),owner[j]?=some (some m)→m < k
 one:∀ (j j' m:Nat),owner[j]?=some (some m)→owner[j']?=some (some m)→j=j'
theorem getD_none {owner:Array (Option Nat)} {j:Nat} (h:owner.getD j (some 0)=none):owner[j]?=some none:=by
 by_cases hj:j < owner.size
 ·rw [Array.getElem?_eq_getElem hj]
  simp [Array.getD,hj] at h
  rw [h]
 ·simp [Array.getD,hj] at h
theorem LaidAll.free {mask:Nat} {owner:Array (Option Nat)} {k:Nat} (L:LaidAll mask owner k) (hk:k≤mask):∃ e,e < mask+1∧owner.getD e (some 0)=none:=by
 by_cases h:∃ e,e < mask+1∧owner.getD e (some 0)=none
 ·exact h
 ·exfalso
  have key:∀ j,∃ m,j≤mask→m < k∧owner[j]?=some (some m):=fun j=>by
   by_cases hj:j≤mask
   ·have hj':j < owner.size:=by rw [L.size];omega
    cases e:owner[j] with
    | none=>exact absurd ⟨j,by omega,by simp [Array.getD,hj',e]⟩ h
    | some m=>
     have e':owner[j]?=some (some m):=by rw [Array.getElem?_eq_getElem hj',e]
     exact ⟨m,fun _=>⟨L.lt j m e',e'⟩⟩
   ·exact ⟨0,fun z=>absurd z hj⟩
  obtain ⟨f,hf⟩:=Classical.axiomOfChoice key
  obtain ⟨i,j,h1,h2,h3⟩:=Yh mask f fun i hi=>Nat.lt_of_lt_of_le (hf i hi).1 hk
  have e1:=(hf i (by omega)).2
  have e2:=(hf j h2).2
  rw [h3] at e1
  have:=L.one i j _ e1 e2
  omega
theorem LaidAll.put {mask:Nat} {owner:Array (Option Nat)} {k j:Nat} (L:LaidAll mask owner k) (hj:owner.getD j (some 0)=none):LaidAll mask (owner.setIfInBounds j (some k)) (k+1):=by
 have hj0:=getD_none hj
 have hlt:j < owner.size:=(Array.getElem?_eq_some_iff.mp hj0).1
 have hs:∀ i,(owner.setIfInBounds j (some k))[i]?=if j=i then some (some k) else owner[i]?:=fun i=>by
  rw [Array.getElem?_setIfInBounds]
  by_cases e:j=i
  ·rw [if_pos e,if_pos e,if_pos (by omega)]
  ·rw [if_neg e,if_neg e]
 refine ⟨by rw [Array.size_setIfInBounds];exact L.size,fun m hm=>?_,fun i m h=>?_,fun i i' m h h'=>?_⟩
 ·by_cases e:m=k
  ·subst e;exact ⟨j,by rw [hs,if_pos rfl]⟩
  ·obtain ⟨i,hi⟩:=L.has m (by omega)
   refine ⟨i,?_⟩
   rw [hs,if_neg (fun z=>by subst z;rw [hj0] at hi;cases hi)]
   exact hi
 ·rw [hs] at h
  by_cases e:j=i
  ·rw [if_pos e] at h
   cases h
   omega
  ·rw [if_neg e] at h
   have:=L.lt i m h
   omega
 ·rw [hs] at h h'
  by_cases e:j=i
  ·by_cases e':j=i'
   ·omega
   ·rw [if_pos e] at h
    cases h
    rw [if_neg e'] at h'
    have:=L.lt i' k h'
    omega
  ·rw [if_neg e] at h
   by_cases e':j=i'
   ·rw [if_pos e'] at h'
    cases h'
    have:=L.lt i k h
    omega
   ·rw [if_neg e'] at h'
    exact L.one i i' m h h'
theorem Zu {mask:Nat} (F:Full (mask+1)) (hs:List Int) (hm:hs.length≤mask):∃ owner,SetTable.layClean mask hs.toArray=some owner∧LaidAll mask owner hs.length:=by
 have key:∀ (hs:List Int) (owner:Array (Option Nat)) (k:Nat),LaidAll mask owner k→k+hs.length≤mask→∃ owner',hs.foldl (fun acc h=>do
   let (owner,k) ← acc
   let j ← SetTable.layClean.free mask owner (SetTable.turns mask) (SetTable.bits h % (mask+1)) (SetTable.bits h)
   pure (owner.setIfInBounds j (some k),k+1)) (some (owner,k))=some (owner',k+hs.length)∧LaidAll mask owner' (k+hs.length):=by
  intro hs
  induction hs with
  | nil=>intro owner k L _;exact ⟨owner,rfl,L⟩
  | cons h hs ih=>
   intro owner k L hk
   rw [List.length_cons] at hk
   obtain ⟨e,he,h0⟩:=L.free (by omega)
   obtain ⟨n,hn,h1⟩:=J1 F (i:=SetTable.bits h % (mask+1)) (p:=SetTable.bits h) (Nat.mod_lt _ (Nat.succ_pos _)) (jbz h) he
   obtain ⟨j,hj,hj0⟩:=ZD (mask:=mask) h0 n (SetTable.turns mask) (SetTable.bits h % (mask+1),SetTable.bits h) (by unfold SetTable.turns;omega) h1
   obtain ⟨owner',a1,a2⟩:=ih (owner.setIfInBounds j (some k)) (k+1) (L.put hj0) (by omega)
   refine ⟨owner',?_,by rw [List.length_cons,show k+(hs.length+1)=k+1+hs.length by omega];exact a2⟩
   rw [List.foldl_cons,List.length_cons,show k+(hs.length+1)=k+1+hs.length by omega,← a1]
   congr 1
   show (do
    let j ← SetTable.layClean.free mask owner (SetTable.turns mask) (SetTable.bits h % (mask+1)) (SetTable.bits h)
    pure (owner.setIfInBounds j (some k),k+1))=_
   rw [hj]
   rfl
 have L0:LaidAll mask (Array.replicate (mask+1) none) 0:=by
  refine ⟨Array.size_replicate,fun m h=>absurd h (Nat.not_lt_zero _),fun j m h=>?_,fun j j' m h=>?_⟩
  ·rw [Array.getElem?_replicate] at h
   split at h <;> cases h
  ·rw [Array.getElem?_replicate] at h
   split at h <;> cases h
 obtain ⟨owner,a1,a2⟩:=key hs _ 0 L0 (by omega)
 rw [Nat.zero_add] at a1 a2
 refine ⟨owner,?_,a2⟩
 unfold SetTable.layClean
 rw [List.foldl_toArray]
 rw [a1]
 rfl
theorem JZ {owner:Array (Option Nat)} {l:List Nat} {j m:Nat}:(j,m)∈l.filterMap (fun j=>(owner.getD j none).map (fun k=>(j,k)))↔j∈l∧owner[j]?=some (some m):=by
 rw [List.mem_filterMap]
 constructor
 ·rintro ⟨i,hi,e⟩
  cases ho:owner.getD i none with
  | none=>rw [ho] at e;cases e
  | some k=>
   rw [ho] at e
   have e':(i,k)=(j,m):=by simpa using e
   cases e'
   refine ⟨hi,?_⟩
   by_cases hj:j < owner.size
   ·rw [Array.getElem?_eq_getElem hj]
    simp [Array.getD,hj] at ho
    rw [ho]
   ·simp [Array.getD,hj] at ho
 ·rintro ⟨hj,e⟩
  obtain ⟨hlt,e1⟩:=Array.getElem?_eq_some_iff.mp e
  exact ⟨j,hj,by simp [Array.getD,hlt,e1]⟩
theorem jdw {mask finger moves:Nat} {led plain:Bool} (F:Full (mask+1)) (hodd:mask % 2=1) (hs:List Int) (hm:hs.length≤mask):∃ t o,SetTable.laid mask finger moves led plain hs.toArray=some (t,o)∧TabIn led t∧t.mask=mask∧t.place.size=hs.length∧o.toList.Perm (List.range hs.length):=by
 obtain ⟨owner,h1,L⟩:=Zu F hs hm
 have hl:SetTable.laid mask finger moves led plain hs.toArray=some ({ mask,place:=(((List.range (mask+1)).filterMap fun j=>(owner.getD j none).map (fun k=>(j,k))).map (·.1)).toArray,dummies:=#[],finger,led,moves,plain },(((List.range (mask+1)).filterMap fun j=>(owner.getD j none).map (fun k=>(j,k))).map (·.2)).toArray):=by
  unfold SetTable.laid
  rw [h1]
  rfl
 have hper:(((List.range (mask+1)).filterMap fun j=>(owner.getD j none).map (fun k=>(j,k))).map (·.2)).Perm (List.range hs.length):=by
  refine (List.perm_ext_iff_of_nodup ?_ List.nodup_range).mpr fun m=>?_
  ·have nd:((List.range (mask+1)).filterMap fun j=>(owner.getD j none).map (fun k=>(j,k))).Pairwise (fun a b=>a.2≠b.2):=by
    rw [List.pairwise_filterMap]
    refine List.nodup_range.imp_of_mem (R:=(·≠·)) (fun {a b} _ _ hab x hx y hy hxy=>?_)
    cases ha:owner.getD a none with
    | none=>rw [ha] at hx;cases hx
    | some k=>
     rw [ha] at hx
     cases hb:owner.getD b none with
     | none=>rw [hb] at hy;cases hy
     | some k'=>
      rw [hb] at hy
      have ex:x=(a,k):=by simpa using hx.symm
      have ey:y=(b,k'):=by simpa using hy.symm
      subst ex ey
      have:k=k':=hxy
      subst this
      have f:∀ {c:Nat},owner.getD c none=some k→owner[c]?=some (some k):=fun {c} hc=>by
       by_cases hj:c < owner.size
       ·rw [Array.getElem?_eq_getElem hj]
        simp [Array.getD,hj] at hc
        rw [hc]
       ·simp [Array.getD,hj] at hc
      exact hab (L.one a b k (f ha) (f hb))
   exact List.pairwise_map.mpr nd
  ·rw [List.mem_range,List.mem_map]
   constructor
   ·rintro ⟨⟨j,k⟩,h,rfl⟩
    exact L.lt j k (JZ.mp h).2
   ·intro hm'
    obtain ⟨j,hj⟩:=L.has m hm'
    refine ⟨(j,m),JZ.mpr ⟨List.mem_range.mpr ?_,hj⟩,rfl⟩
    have:=(Array.getElem?_eq_some_iff.mp hj).1
    rw [L.size] at this
    exact this
 have hT:=jeR hl
 have hlen:((List.range (mask+1)).filterMap fun j=>(owner.getD j none).map (fun k=>(j,k))).length=hs.length:=by
  have:=hper.length_eq
  rw [List.length_map,List.length_range] at this
  exact this
 refine ⟨_,_,hl,⟨hT,F,hodd,fun j hj=>?_,?_⟩,rfl,?_,?_⟩
 ·have hj':j∈((List.range (mask+1)).filterMap fun j=>(owner.getD j none).map (fun k=>(j,k))).map (·.1):=by simpa using hj
  obtain ⟨⟨a,b⟩,h,rfl⟩:=List.mem_map.mp hj'
  have:=List.mem_range.mp (JZ.mp h).1
  show a≤mask
  omega
 ·dsimp only
  rw [List.size_toArray,List.length_map]
  exact Nat.le_trans (Nat.le_of_eq hlen) hm
 ·dsimp only
  rw [List.size_toArray,List.length_map]
  exact hlen
 ·simpa using hper
section
variable {prog:Program} {w:World} {K:Type} [DecidableEq K] {knd:KeyKind prog w K} {A:Around} {E:Value→Shared→Prop} {s:Shared}
theorem kH (n:Nat) {v:Value} (h:carriedByValue v=true):ofAClassStatement n v=pure false:=by
 cases v with
 | ref a=>simp [carriedByValue] at h
 | _=>first | rfl | (unfold ofAClassStatement;rfl)
theorem kT (n:Nat) {v:Value} (h:carriedByValue v=true):∃ b,hashByValue n v=pure b:=by
 cases v with
 | ref a=>simp [carriedByValue] at h
 | _=>first | exact ⟨_,rfl⟩ | (unfold hashByValue;exact ⟨_,rfl⟩) | (cases n <;> exact ⟨_,rfl⟩)
end
section
variable {prog:Program} {w:World} {E:Value→Shared→Prop}
theorem jeT:∀ (n:Nat) (A:Around) (d:D) (u:Value) (s:Shared) (Q:Int→Shared→Prop),d.depth≤n→A.units+n < cLine→TrAt s.heap d u→(∀ hh tk,Q hh { s with toks:=tk })→wpAny (model prog w) A (pyHash u) Q E s:=by
 intro n
 induction n with
 | zero=>
  intro A d u s Q hd hA hx h
  cases d with
  | int i=>unfold TrAt at hx;obtain ⟨t,rfl⟩:=hx;exact wpAny_pyHash_int (h _ _)
  | str i=>unfold TrAt at hx;obtain ⟨t,rfl⟩:=hx;exact wpAny_pyHash_str (h _ _)
  | tup ds=>unfold D.depth at hd;omega
 | succ n ih=>
  intro A d u s Q hd hA hx h
  cases d with
  | int i=>unfold TrAt at hx;obtain ⟨t,rfl⟩:=hx;exact wpAny_pyHash_int (h _ _)
  | str i=>unfold TrAt at hx;obtain ⟨t,rfl⟩:=hx;exact wpAny_pyHash_str (h _ _)
  | tup ds=>
   unfold TrAt at hx
   obtain ⟨a,items,rfl,⟨o,ho,hc,m,hdt⟩,hL⟩:=hx
   have hT:s.TypeIs (.ref a) "tuple":=⟨o,ho,hc⟩
   have hu:A.units < cLine:=by omega
   unfold pyHash
   first | unfold pyHashByItsType | skip
   first | refine wpAny_bind (wpAny_cRoomFor_or (.inr hu) ?_) | skip
   refine wpAny_bind (wpAny_specialOf hT F.slot_tuple_hash.lookup ?_)
   show wpAny _ _ (if (some (Value.builtin "tuple.__hash__") == some Value.none)=true then _ else _) Q E s
   rw [if_neg (by rw [beq_builtin_none];exact Bool.false_ne_true)]
   refine wpAny_bind (wpAny_specialOf hT F.slot_tuple_hash.lookup ?_)
   show wpAny _ _ (callSpecialIfBoundUnlessNone? (.ref a) "__hash__" _ >>= _) Q E s
   refine wpAny_bind (wpAny_callSpecialIfBoundUnlessNone?_slot hT F.slot_tuple_hash (wpAny_call_entry F.slot_tuple_hash hT F.entry_tuple_hash ?_ (F.args_tuple_hash_1 _)))
   show wpAny _ _ (Builtin.Tuple.tupleItemsOf (.ref a) >>= _) _ _ s
   refine wpAny_bind (wpAny_tupleItemsOf ho hdt ?_)
   refine wpAny_bind ?_
   rw [← Array.forIn_toList]
   refine wpAny_forIn_list _
    (fun jG (b:Array Int) s'=>(∀ v∈jG,v∈items.toList)∧∃ tk,s'={ s with toks:=tk })
    _ ?_ ?_ _ _ ⟨fun v hv=>hv,s.toks,rfl⟩
   ·rintro x jG b s' ⟨hm,tk,rfl⟩
    obtain ⟨e,he,hte⟩:=zR hL (hm x List.mem_cons_self)
    have hde:e.depth≤n:=by have:=qd he;unfold D.depth at hd;omega
    refine wpAny_bind (ih _ e x _ _ hde (by show A.units+1+n < cLine;omega) hte fun hh tk'=>?_)
    first
     | exact wpAny_pure ⟨fun v hv=>hm v (List.mem_cons_of_mem _ hv),tk',rfl⟩
     | exact wpAny_bind (wpAny_pure (wpAny_pure ⟨fun v hv=>hm v (List.mem_cons_of_mem _ hv),tk',rfl⟩))
   ·rintro b s' ⟨_,tk,rfl⟩
    show wpAny _ _ (retInt (Builtin.Tuple.tupleHashOf b.toList)) _ _ _
    generalize Builtin.Tuple.tupleHashOf b.toList=z
    refine wpAny_ret_mkInt ?_
    show wpAny _ _ (if (decide (-(2:Int) ^ 63≤z) && decide (z < 2 ^ 63))=true then _ else _) Q E _
    split
    ·exact wpAny_pure (h _ _)
    ·exact wpAny_bind (wpAny_rule (wpAny_pure (h _ _)))
theorem Y8:∀ (n:Nat) (A:Around) (d:D) (u:Value) (s:Shared) (Q:Bool→Shared→Prop),d.depth≤n→TrAt s.heap d u→Q true s→wpAny (model prog w) A (eqIsQuiet n u) Q E s:=by
 intro n
 induction n with
 | zero=>
  intro A d u s Q hd hx h
  cases d with
  | int i=>unfold TrAt at hx;obtain ⟨t,rfl⟩:=hx;rw [eqIsQuiet_byValue _ rfl];exact wpAny_pure h
  | str i=>unfold TrAt at hx;obtain ⟨t,rfl⟩:=hx;rw [eqIsQuiet_byValue _ rfl];exact wpAny_pure h
  | tup ds=>unfold D.depth at hd;omega
 | succ n ih=>
  intro A d u s Q hd hx h
  cases d with
  | int i=>unfold TrAt at hx;obtain ⟨t,rfl⟩:=hx;rw [eqIsQuiet_byValue _ rfl];exact wpAny_pure h
  | str i=>unfold TrAt at hx;obtain ⟨t,rfl⟩:=hx;rw [eqIsQuiet_byValue _ rfl];exact wpAny_pure h
  | tup ds=>
   unfold TrAt at hx
   obtain ⟨a,items,rfl,⟨o,ho,hc,m,hdt⟩,hL⟩:=hx
   have hT:s.TypeIs (.ref a) "tuple":=⟨o,ho,hc⟩
   unfold eqIsQuiet
   refine wpAny_bind (wpAny_specialOf hT F.slot_tuple_eq.lookup ?_)
   show wpAny _ _ (isInstance (.ref a) (.type "tuple") >>= _) _ _ s
   refine wpAny_bind (wpAny_isInstance hT isSubtype_tuple_tuple ?_)
   simp only [Bool.not_true,Bool.false_eq_true,if_false]
   refine wpAny_bind (wpAny_seqItems ho hdt ?_)
   refine wpAny_bind ?_
   show wpAny _ _ (forIn items _ _) _ _ s
   rw [← Array.forIn_toList]
   refine wpAny_forIn_list _ (fun jG r s'=>r.1=none∧s'=s∧∀ v∈jG,v∈items.toList) _ ?_ ?_ _ _ ⟨rfl,rfl,fun v hv=>hv⟩
   ·rintro v jG r s' ⟨hr,rfl,hm⟩
    obtain ⟨e,he,hte⟩:=zR hL (hm v List.mem_cons_self)
    have hde:e.depth≤n:=by have:=qd he;unfold D.depth at hd;omega
    refine wpAny_bind (ih _ e v _ _ hde hte ?_)
    simp only [Bool.not_true,Bool.false_eq_true,if_false]
    exact wpAny_pure ⟨rfl,rfl,fun u hu'=>hm u (List.mem_cons_of_mem _ hu')⟩
   ·rintro ⟨r1,r2⟩ s' ⟨hr,rfl,_⟩
    simp only at hr
    subst hr
    exact wpAny_pure h
theorem JT:∀ (n:Nat) (A:Around) (d:D) (u:Value) (s:Shared) (Q:Bool→Shared→Prop),d.depth≤n→TrAt s.heap d u→Q false s→wpAny (model prog w) A (ofAClassStatement n u) Q E s:=by
 intro n
 induction n with
 | zero=>
  intro A d u s Q hd hx h
  cases d with
  | int i=>unfold TrAt at hx;obtain ⟨t,rfl⟩:=hx;rw [kH _ rfl];exact wpAny_pure h
  | str i=>unfold TrAt at hx;obtain ⟨t,rfl⟩:=hx;rw [kH _ rfl];exact wpAny_pure h
  | tup ds=>unfold D.depth at hd;omega
 | succ n ih=>
  intro A d u s Q hd hx h
  cases d with
  | int i=>unfold TrAt at hx;obtain ⟨t,rfl⟩:=hx;rw [kH _ rfl];exact wpAny_pure h
  | str i=>unfold TrAt at hx;obtain ⟨t,rfl⟩:=hx;rw [kH _ rfl];exact wpAny_pure h
  | tup ds=>
   unfold TrAt at hx
   obtain ⟨a,items,rfl,⟨o,ho,hc,m,hdt⟩,hL⟩:=hx
   have hT:s.TypeIs (.ref a) "tuple":=⟨o,ho,hc⟩
   unfold ofAClassStatement
   refine wpAny_bind (wpAny_typeOf hT ?_)
   dsimp only
   refine wpAny_bind ?_
   refine wpAny_pure ?_
   simp only [Bool.not_true,Bool.false_eq_true,if_false]
   refine wpAny_bind (wpAny_seqItems ho hdt ?_)
   dsimp only
   refine wpAny_bind ?_
   rw [← Array.forIn_toList]
   refine wpAny_forIn_list _ (fun jG r s'=>r.1=none∧s'=s∧∀ v∈jG,v∈items.toList) _ ?_ ?_ _ _ ⟨rfl,rfl,fun v hv=>hv⟩
   ·rintro v jG r s' ⟨hr,rfl,hm⟩
    obtain ⟨e,he,hte⟩:=zR hL (hm v List.mem_cons_self)
    have hde:e.depth≤n:=by have:=qd he;unfold D.depth at hd;omega
    refine wpAny_bind (ih _ e v _ _ hde hte ?_)
    simp only [Bool.false_eq_true,if_false]
    exact wpAny_pure ⟨rfl,rfl,fun u hu'=>hm u (List.mem_cons_of_mem _ hu')⟩
   ·rintro ⟨r1,r2⟩ s' ⟨hr,rfl,_⟩
    simp only at hr
    subst hr
    exact wpAny_pure h
theorem jco:∀ (n:Nat) (A:Around) (d:D) (u:Value) (s:Shared) (Q:Bool→Shared→Prop),TrAt s.heap d u→(∀ b,Q b s)→wpAny (model prog w) A (hashByValue n u) Q E s:=by
 intro n
 induction n with
 | zero=>
  intro A d u s Q hx h
  cases d with
  | int i=>unfold TrAt at hx;obtain ⟨t,rfl⟩:=hx;obtain ⟨b,hb⟩:=kT 0 (v:=.int i t) rfl;rw [hb];exact wpAny_pure (h _)
  | str i=>unfold TrAt at hx;obtain ⟨t,rfl⟩:=hx;obtain ⟨b,hb⟩:=kT 0 (v:=.str i t) rfl;rw [hb];exact wpAny_pure (h _)
  | tup ds=>unfold TrAt at hx;obtain ⟨a,items,rfl,_⟩:=hx;unfold hashByValue;exact wpAny_pure (h _)
 | succ n ih=>
  intro A d u s Q hx h
  cases d with
  | int i=>unfold TrAt at hx;obtain ⟨t,rfl⟩:=hx;obtain ⟨b,hb⟩:=kT (n+1) (v:=.int i t) rfl;rw [hb];exact wpAny_pure (h _)
  | str i=>unfold TrAt at hx;obtain ⟨t,rfl⟩:=hx;obtain ⟨b,hb⟩:=kT (n+1) (v:=.str i t) rfl;rw [hb];exact wpAny_pure (h _)
  | tup ds=>
   unfold TrAt at hx
   obtain ⟨a,items,rfl,⟨o,ho,hc,m,hdt⟩,hL⟩:=hx
   have hT:s.TypeIs (.ref a) "tuple":=⟨o,ho,hc⟩
   unfold hashByValue
   refine wpAny_bind (wpAny_specialOf hT F.slot_tuple_hash.lookup ?_)
   refine wpAny_bind (wpAny_seqItems ho hdt ?_)
   refine wpAny_bind ?_
   show wpAny _ _ (forIn items _ _) _ _ s
   rw [← Array.forIn_toList]
   refine wpAny_forIn_list _ (fun jG r s'=>s'=s∧∀ v∈jG,v∈items.toList) _ ?_ ?_ _ _ ⟨rfl,fun v hv=>hv⟩
   ·rintro v jG r s' ⟨rfl,hm⟩
    obtain ⟨e,he,hte⟩:=zR hL (hm v List.mem_cons_self)
    refine wpAny_bind (ih _ e v _ _ hte fun b=>?_)
    cases b with
    | true=>
     simp only [Bool.not_true,Bool.false_eq_true,if_false]
     exact wpAny_pure ⟨rfl,fun u hu'=>hm u (List.mem_cons_of_mem _ hu')⟩
    | false=>
     simp only [Bool.not_false,if_true]
     refine wpAny_pure ?_
     first | exact wpAny_pure (h _) | exact h _
   ·rintro ⟨r1,r2⟩ s' ⟨rfl,_⟩
    cases r1 with
    | none=>exact wpAny_pure (h _)
    | some r=>exact wpAny_pure (h _)
end
section
variable {prog:Program} {w:World} {K:Type} [DecidableEq K] {knd:KeyKind prog w K} {A:Around} {E:Value→Shared→Prop} {s:Shared}
theorem JU {n:Nat} {led:Bool} {t:SetTable} (T:TabIn led t) (hp:t.place.size=n) (hm:n≤t.mask):t.fits n=true:=by
 unfold SetTable.fits SetTable.fill
 rw [T.ok.none_,hp]
 simpa using hm
theorem jbR {led:Bool} {t:SetTable} (T:TabIn led t) (b:Bool):TabIn led (if b=true then t else { t with plain:=false }):=by
 cases b
 ·exact ⟨⟨T.ok.led_,T.ok.none_,T.ok.up⟩,T.full,T.odd,T.le,T.room⟩
 ·exact T
theorem Z6 {t:SetTable} (b:Bool):(if b=true then t else { t with plain:=false }).mask=t.mask∧(if b=true then t else { t with plain:=false }).place=t.place∧(if b=true then t else { t with plain:=false }).dummies=t.dummies:=by cases b <;> exact ⟨rfl,rfl,rfl⟩
end
end L2
namespace PySem
end PySem
namespace L2
open PySem PySem.Spec PyProof.Rows PySem.W
theorem Jo {M:Nat} (hM:0 < M) (F:Full M) (h0:orb (2 * M) M 0=M):Full (2 * M):=by
 have hmod:∀ n x y,x % M=y % M→orb (2 * M) n x % M=orb M n y % M:=by
  intro n
  induction n with
  | zero=>intro x y e;exact e
  | succ n ih=>
   intro x y e
   refine ih _ _ ?_
   rw [Nat.mod_mod_of_dvd _ ⟨2,by omega⟩,Nat.mod_mod,Nat.add_mod,Nat.mul_mod,e,← Nat.mul_mod,← Nat.add_mod]
 have hlt:∀ n x,x < 2 * M→orb (2 * M) n x < 2 * M:=by
  intro n
  induction n with
  | zero=>intro x h;exact h
  | succ n ih=>intro x h;exact ih _ (Nat.mod_lt _ (by omega))
 have hlt1:∀ n x,x < M→orb M n x < M:=by
  intro n
  induction n with
  | zero=>intro x h;exact h
  | succ n ih=>intro x h;exact ih _ (Nat.mod_lt _ (by omega))
 have hsh:∀ n x y,(x+M) % (2 * M)=y % (2 * M)→x < 2 * M→y < 2 * M→(orb (2 * M) n x+M) % (2 * M)=orb (2 * M) n y:=by
  intro n
  induction n with
  | zero=>intro x y e hx hy;rw [← Nat.mod_eq_of_lt hy];exact e
  | succ n ih=>
   intro x y e hx hy
   refine ih _ _ ?_ (Nat.mod_lt _ (by omega)) (Nat.mod_lt _ (by omega))
   rw [Nat.mod_mod,Nat.mod_add_mod]
   have:(y * 5+1) % (2 * M)=((x+M) * 5+1) % (2 * M):=by
    rw [Nat.add_mod,Nat.mul_mod,← e,← Nat.mul_mod,← Nat.add_mod]
   rw [this,show (x+M) * 5+1=x * 5+1+M+2 * M * 2 by omega,Nat.add_mul_mod_self_left]
 have hk:∀ k,orb (2 * M) (M+k) 0=(orb (2 * M) k 0+M) % (2 * M):=by
  intro k
  rw [yG,h0]
  exact (hsh k 0 M (by rw [Nat.zero_add]) (by omega) (by omega)).symm
 refine ⟨fun e he=>?_,?_⟩
 ·obtain ⟨k,k1,k2⟩:=F.1 (e % M) (Nat.mod_lt _ hM)
  have h1:=hmod k 0 0 rfl
  rw [k2,Nat.mod_mod] at h1
  have h2:=hlt k 0 (by omega)
  have h3:=hk k
  by_cases c:orb (2 * M) k 0=e
  ·exact ⟨k,by omega,c⟩
  ·refine ⟨M+k,by omega,?_⟩
   rw [h3]
   obtain ⟨z,hz⟩:∃ z,z=orb (2 * M) k 0:=⟨_,rfl⟩
   rw [← hz] at h1 h2 c ⊢
   have z1:=Nat.div_add_mod z M
   have z2:=Nat.div_add_mod e M
   have q1:z / M < 2:=Nat.div_lt_of_lt_mul (by rw [Nat.mul_comm];exact h2)
   have q2:e / M < 2:=Nat.div_lt_of_lt_mul (by rw [Nat.mul_comm];exact he)
   have two:∀ y:Nat,y < 2→y=0∨y=1:=fun y h=>by omega
   have q3:=two _ q1
   have q4:=two _ q2
   have r1:=Nat.mod_lt z hM
   rcases q3 with q3 | q3 <;> rcases q4 with q4 | q4 <;> rw [q3] at z1 <;> rw [q4] at z2
   ·omega
   ·rw [Nat.mod_eq_of_lt (by omega)];omega
   ·rw [show z+M=e+2 * M by omega,Nat.add_mod_right,Nat.mod_eq_of_lt he]
   ·omega
 ·rw [show 2 * M=M+M by omega] at *
  have:=hk M
  rw [h0] at this
  rw [this]
  exact Nat.mod_self _
theorem jdJ:Full 1024:=Jo (M:=512) (by decide) jbm (by decide +kernel)
theorem jdI:Full 2048:=Jo (M:=1024) (by decide) jdJ (by decide +kernel)
def DTr (h:Heap) (d:D) (a:Addr):Prop:=TrAt h d (.ref a)∧d.depth≤8
theorem DTr.kept {h h':Heap} {d:D} {a:Addr} (x:DTr h d a) (k:∀ b xs,h.IsTuple b xs→h'.IsTuple b xs):DTr h' d a:=⟨TrAt.kept k x.1,x.2⟩
theorem yJ {h h':Heap} {S it:Addr} (hS:∀ o,h.get? S=some o→o.cls≠.type "tuple") (hI:∀ o,h.get? it=some o→o.cls≠.type "tuple") (k:∀ b o,b≠S→b≠it→h.get? b=some o→h'.get? b=some o):∀ b xs,h.IsTuple b xs→h'.IsTuple b xs:=by
 rintro b xs ⟨o,h1,h2,h3⟩
 exact ⟨o,k b o (fun z=>hS o (by rw [← z];exact h1) h2) (fun z=>hI o (by rw [← z];exact h1) h2) h1,h2,h3⟩
theorem yD {a:Addr} {h:Heap} {es:Array (Int×Value)} {ep:Nat} {t:SetTable} (ho:h.get? a=some { cls:=.type "set",dict:=none,data:=.set es ep t }):∀ o,h.get? a=some o→o.cls≠.type "tuple":=fun o e z=>by
 rw [ho] at e
 cases e
 injection z with z
 exact absurd z (by decide)
section
variable {prog:Program} {w:World} {A:Around} {E:Value→Shared→Prop} {s:Shared}
theorem jao {d e:D} {a b:Addr} {Q:Bool→Shared→Prop} (hu:A.units+8 < cLine) (hx:DTr s.heap d a) (hy:DTr s.heap e b) (h:Q (decide (d=e)) s):wpAny (model prog w) A (eqBool (.ref a) (.ref b)) Q E s:=by
 refine Yu 8 A d e _ _ hx.2 hu hx.1 hy.1 prog w E Q ?_
 rw [jbt]
 exact h
def ElD (h:Heap) (L:List D) (e:Int×Value):Prop:=∃ k b,e.2=.ref b∧DTr h k b∧k∈L
theorem jfV {ks:D} {a:Addr} {Q:Bool→Shared→Prop} (hk:DTr s.heap ks a) (stored:List Value) (hs:∀ v∈stored,∃ k b,v=.ref b∧DTr s.heap k b) (h:Q false s):wpAny (model prog w) A (searchCouldBeSeen (.ref a) stored) Q E s:=by
 unfold searchCouldBeSeen
 refine wpAny_bind ?_
 refine wpAny_forIn_list _ (fun jG r s'=>r.1=none∧s'=s∧∀ v∈jG,∃ k b,v=.ref b∧DTr s.heap k b) _ ?_ ?_ _ _ ⟨rfl,rfl,hs⟩
 ·rintro v jG r s' ⟨hr,rfl,hall⟩
  obtain ⟨k,b,rfl,hb⟩:=hall v List.mem_cons_self
  have go:∀ u∈jG,∃ k b,u=Value.ref b∧DTr s'.heap k b:=fun u hu'=>hall u (List.mem_cons_of_mem _ hu')
  dsimp only
  split
  ·exact wpAny_pure ⟨rfl,rfl,go⟩
  ·refine wpAny_bind (Y8 8 _ _ _ _ _ hk.2 hk.1 ?_)
   simp only [Bool.not_true,Bool.false_eq_true,if_false]
   refine wpAny_bind (Y8 8 _ _ _ _ _ hb.2 hb.1 ?_)
   simp only [Bool.not_true,Bool.false_eq_true,if_false]
   refine wpAny_bind (JT 8 _ _ _ _ _ hk.2 hk.1 ?_)
   simp only [Bool.false_eq_true,if_false]
   refine wpAny_bind (JT 8 _ _ _ _ _ hb.2 hb.1 ?_)
   simp only [Bool.false_eq_true,if_false]
   exact wpAny_pure ⟨rfl,rfl,go⟩
 ·rintro ⟨r1,r2⟩ s' ⟨hr,rfl,_⟩
  simp only at hr
  subst hr
  exact wpAny_pure h
theorem jeh {ks:D} {a x:Addr} {hh:Int} {es:Array (Int×Value)} {ep:Nat} {t:SetTable} {led:Bool} {L:List D} {Q:SetFound→Shared→Prop} (hu:A.units+8 < cLine) (hk:DTr s.heap ks x) (hn:ks ∉ L)
  (ho:s.heap.get? a=some { cls:=.type "set",dict:=none,data:=.set es ep t }) (hf:t.fits es.size=true) (T:TabIn led t) (hsz:t.place.size=es.size) (hel:∀ e∈es.toList,ElD s.heap L e) (hmask:t.mask≤2047)
  (h:∀ j,t.slot j=.empty→j≤t.mask→Q (.free j false) s):wpAny (model prog w) A (setSearch a (.ref x) hh (adding:=true)) Q E s:=by
 obtain ⟨N,hN,hNe,hNl⟩:=ZG T hh
 have key:∀ (fuel m:Nat) (st:Option SetTable.Probe),m≤N→N - m < fuel→st.getD (t.probeStart hh)=seq t (t.probeStart hh) m→wpAny (model prog w) A (setSearchFrom a (.ref x) hh true fuel st) Q E s:=by
  intro fuel
  induction fuel with
  | zero=>intro m st _ h0;omega
  | succ fuel ih=>
   intro m st hm hfu hst
   unfold setSearchFrom
   refine wpAny_bind (wpAny_setState_of ho rfl hf ?_)
   dsimp only
   have hg:t.gaveWay=false:=by
    unfold SetTable.gaveWay
    rw [T.odd]
    rfl
   rw [hg]
   simp only [Bool.false_eq_true,if_false]
   rw [hst]
   unfold SetTable.probe
   have hP:=fun hashAt=>Kw (hashAt:=hashAt) (hh:=hh) (p0:=t.probeStart hh) rfl hNe hNl (10 * SetTable.turns t.mask) m hm (by unfold SetTable.turns;omega)
   split
   ·next met hmet=>
    rcases hP _ with g | ⟨k,i,g1,g2,g3,g4,g5,g6⟩
    ·rw [g] at hmet
     cases hmet
     exact wpAny_pure (h _ hNe (by have:=jcW t hh N;omega))
    ·rw [g6] at hmet
     cases hmet
     dsimp only
     have hi:i < es.size:=by omega
     obtain ⟨k',b,eb,hkb,hkL⟩:=hel es[i] (Array.getElem_mem_toList hi)
     have hne:k'≠ks:=fun z=>hn (by rw [← z];exact hkL)
     have hgi:es[i]?=some es[i]:=Array.getElem?_eq_getElem hi
     have hel':∀ v∈((es.filter (·.1 == hh)).toList.map (·.2)),∃ k b,v=Value.ref b∧DTr s.heap k b:=fun v hv=>by
      obtain ⟨e,he,rfl⟩:=List.mem_map.mp hv
      have he':e∈es.toList:=by
       have:=Array.mem_toList_iff.mp he
       exact Array.mem_toList_iff.mpr (Array.mem_filter.mp this).1
      obtain ⟨k2,b2,e2,h2,_⟩:=hel e he'
      exact ⟨k2,b2,e2,h2⟩
     cases hled:t.led
     case' true=>simp only [Bool.not_true,Bool.false_eq_true,if_false]
     case' false=>
      simp only [Bool.not_false,if_true]
      refine wpAny_bind (jfV hk _ hel' ?_)
      simp only [Bool.false_eq_true,if_false]
     all_goals
      rw [hgi]
      generalize es[i]=e at *
      obtain ⟨e1,e2⟩:=e
      dsimp only at eb
      subst eb
      dsimp only
      refine wpAny_bind (wpAny_holding (jao hu hkb hk ?_))
      rw [decide_eq_false hne]
      refine wpAny_bind (wpAny_setState_of ho rfl hf ?_)
      dsimp only
      simp only [Bool.and_false,Bool.false_eq_true,if_false]
      have hsm:t.sameMemory t.moves t.mask=some true:=by
       unfold SetTable.sameMemory
       simp
      rw [hsm]
      dsimp only
      simp only [if_true]
      rw [g3]
      dsimp only
      rw [hgi]
      dsimp only
      refine wpAny_bind ?_
      unfold isSame
      dsimp only
      simp only [beq_self_eq_true,if_true]
      refine wpAny_pure ?_
      refine wpAny_bind (wpAny_pure ?_)
      simp only [if_true]
      exact ih (k+1) _ (by omega) (by omega) rfl
   ·next hmet=>
    rcases hP _ with g | ⟨k,i,g1,g2,g3,g4,g5,g6⟩
    ·rw [g] at hmet;exact absurd hmet (by simp)
    ·rw [g6] at hmet;exact absurd hmet (by simp)
 exact key 100000 0 none (Nat.zero_le _) (by omega) rfl
def MskD (n mask:Nat):Prop:=(mask=7∧n≤4)∨(mask=31∧n≤18)∨(mask=127∧n≤76)∨(mask=511∧n≤306)∨(mask=2047∧n≤1228)
def ElsD (h:Heap) (L:List (D×Addr)) (es:Array (Int×Value)):Prop:=(es.toList.map (·.2)).Perm (L.map fun p=>Value.ref p.2)∧∀ p∈L,DTr h p.1 p.2
theorem ElsD.el {h:Heap} {L:List (D×Addr)} {es:Array (Int×Value)} (x:ElsD h L es):∀ e∈es.toList,ElD h (L.map (·.1)) e:=fun e he=>by
 have:=x.1.mem_iff.mp (List.mem_map_of_mem (f:=(·.2)) he)
 obtain ⟨p,hp,e2⟩:=List.mem_map.mp this
 exact ⟨p.1,p.2,e2.symm,x.2 p hp,List.mem_map_of_mem hp⟩
theorem ElsD.kept {h h':Heap} {L:List (D×Addr)} {es:Array (Int×Value)} (x:ElsD h L es) (k:∀ b xs,h.IsTuple b xs→h'.IsTuple b xs):ElsD h' L es:=⟨x.1,fun p hp=>(x.2 p hp).kept k⟩
theorem ElsD.more {h:Heap} {L:List (D×Addr)} {es es1:Array (Int×Value)} {ks:D} {x:Addr} {hh:Int} {p:Nat} (y:ElsD h L es) (hk:DTr h ks x) (hes:es1.toList=es.toList.take p++(hh,Value.ref x) :: es.toList.drop p):ElsD h (L++[(ks,x)]) es1:=by
 refine ⟨?_,fun q hq=>?_⟩
 ·rw [hes,List.map_append,List.map_cons,List.map_append,List.map_cons,List.map_nil]
  refine List.perm_middle.trans (List.Perm.trans ?_ (List.perm_append_comm (l₁:=[Value.ref x])))
  refine List.Perm.cons _ ?_
  rw [← List.map_append,List.take_append_drop]
  exact y.1
 ·rcases List.mem_append.mp hq with hq | hq
  ·exact y.2 q hq
  ·rw [List.mem_singleton.mp hq];exact hk
def DSetAt (h:Heap) (a:Addr) (led:Bool) (L:List (D×Addr)):Prop:=∃ (es:Array (Int×Value)) (ep:Nat) (t:SetTable),h.get? a=some { cls:=.type "set",dict:=none,data:=.set es ep t }∧ElsD h L es∧es.size=L.length∧TabIn led t∧t.place.size=es.size∧MskD es.size t.mask
theorem MskD.le {n mask:Nat} (h:MskD n mask):n≤mask∧n+1≤mask∧mask≤2047:=by unfold MskD at h;omega
theorem jdR {ks:D} {a x:Addr} {hh:Int} {led:Bool} {L:List (D×Addr)} {Q:Bool→Shared→Prop} (hu:A.units+8 < cLine) (hk:DTr s.heap ks x) (hn:ks ∉ L.map (·.1)) (hS:DSetAt s.heap a led L) (hroom:L.length+1≤1001)
  (h:∀ h',Heap.SameBut a s.heap h'→DSetAt h' a led (L++[(ks,x)])→Q true { s with heap:=h' }):wpAny (model prog w) A (setAddHashed a (.ref x) hh) Q E s:=by
 obtain ⟨es,ep,t,ho,hel,hsz,T,hpl,M⟩:=hS
 obtain ⟨m1,m2,m3⟩:=M.le
 have hf:=JU T hpl m1
 unfold setAddHashed setAddHashedIn
 refine wpAny_holding (wpAny_bind (wpAny_setState_of ho rfl hf ?_))
 dsimp only
 have hbs:byScan (.ref x) es=false:=by unfold byScan;rfl
 rw [hbs]
 simp only [Bool.false_eq_true,if_false]
 refine wpAny_bind (jeh hu hk hn ho hf T hpl hel.el (by omega) fun j hj hjm=>?_)
 dsimp only
 refine wpAny_bind (wpAny_setState_of ho rfl hf ?_)
 dsimp only
 have hne:t.place[SetTable.below t.place j]?≠some j:=by
  intro z
  unfold SetTable.slot at hj
  dsimp only at hj
  rw [if_pos (by rw [z];simp)] at hj
  cases hj
 have hput:=jfw T.ok hne
 have hpm:(t.put j).1.mask=t.mask:=rfl
 have hpp:(t.put j).1.place=SetTable.insertAt t.place (SetTable.below t.place j) j:=rfl
 have hpz:(t.put j).1.place.size=es.size+1:=by
  rw [hpp,← Array.length_toList,SetTable.toList_insertAt,List.length_append,List.length_cons,List.length_take,List.length_drop]
  have:=(zK T.ok.up j).1
  rw [Array.length_toList]
  omega
 have hTp:TabIn led (t.put j).1:=by
  refine ⟨hput,by rw [hpm];exact T.full,by rw [hpm];exact T.odd,fun i hi=>?_,by rw [hpm,hpz];exact m2⟩
  rw [hpp,SetTable.toList_insertAt] at hi
  rcases List.mem_append.mp hi with hi | hi
  ·exact T.le i (List.mem_of_mem_take hi)
  ·rcases List.mem_cons.mp hi with rfl | hi
   ·exact hjm
   ·exact T.le i (List.mem_of_mem_drop hi)
 have hp2:(t.put j).2=SetTable.below t.place j:=rfl
 generalize t.put j=PT at *
 obtain ⟨t1,p⟩:=PT
 dsimp only at hpm hpp hpz hTp hp2 hput ⊢
 have hes:(SetTable.insertAt es p (hh,Value.ref x)).toList=es.toList.take p++(hh,Value.ref x) :: es.toList.drop p:=SetTable.toList_insertAt _ _ _
 have hesz:(SetTable.insertAt es p (hh,Value.ref x)).size=es.size+1:=by
  rw [← Array.length_toList,hes,List.length_append,List.length_cons,List.length_take,List.length_drop,Array.length_toList]
  have:=(zK T.ok.up j).1
  omega
 have hel1:ElsD s.heap (L++[(ks,x)]) (SetTable.insertAt es p (hh,Value.ref x)):=hel.more hk hes
 generalize SetTable.insertAt es p (hh,Value.ref x)=es1 at *
 have fin:∀ t2:SetTable,TabIn led t2→t2.mask=t.mask→t2.place.size=es.size+1→t2.dummies=#[]→wpAny (model prog w) A (do
   storeSet a es1 t2
   if (!false && t2.tooFull)=true then setRelay a (SetTable.grown (es.size+1))
   pure true) Q E s:=by
  intro t2 T2 hm2 hz2 hd2
  refine wpAny_bind (wpAny_storeSet_of ho rfl ?_ (by rw [hesz];exact fits_of_scanBound (by show es.size+1 < 4096;omega)))
  have sb1:=Heap.SameBut.update s.heap a (Obj.putSet es1 t2)
  have hg:(s.heap.update a (Obj.putSet es1 t2)).get? a=some { cls:=.type "set",dict:=none,data:=.set es1 (ep+1) t2 }:=by
   have:=Heap.get?_update_self (Obj.putSet es1 t2) ho (by rw [putSet_of es1 t2 rfl];rfl)
   rw [putSet_of es1 t2 rfl] at this
   exact this
  generalize s.heap.update a (Obj.putSet es1 t2)=h1 at *
  have kt1:∀ b xs,s.heap.IsTuple b xs→h1.IsTuple b xs:=yJ (it:=a) (yD ho) (yD ho) fun b o hb _ e=>(sb1.2 b hb).trans e
  have hel2:ElsD h1 (L++[(ks,x)]) es1:=hel1.kept kt1
  have hL:(L++[(ks,x)]).length=es.size+1:=by rw [List.length_append,hsz];rfl
  cases hful:t2.tooFull with
  | false=>
   simp only [Bool.not_false,Bool.and_false,Bool.false_eq_true,if_false]
   refine wpAny_bind (wpAny_pure (wpAny_pure (h h1 sb1 ⟨es1,ep+1,t2,hg,hel2,by rw [hesz,hL],T2,by rw [hz2,hesz],?_⟩)))
   unfold SetTable.tooFull SetTable.fill at hful
   rw [hd2,hz2,hm2] at hful
   simp at hful
   rw [hesz,hm2]
   unfold MskD at M ⊢
   omega
  | true=>
   simp only [Bool.not_false,Bool.and_self,if_true]
   have hful':t.mask * 3≤(es.size+1) * 5:=by
    unfold SetTable.tooFull SetTable.fill at hful
    rw [hd2,hz2,hm2] at hful
    simpa using hful
   obtain ⟨mk,hmk,hfull,hodd,hgt,hM⟩:∃ mk,SetTable.sizeAbove (SetTable.grown (es.size+1))=mk+1∧Full (mk+1)∧mk % 2=1∧es.size+1≤mk∧MskD (es.size+1) mk:=by
    unfold MskD at M
    have hc:es.size+1=5∨es.size+1=19∨es.size+1=77∨es.size+1=307:=by omega
    rcases hc with c | c | c | c
    ·rw [c];exact ⟨31,by decide +kernel,jgc,rfl,by decide,.inr (.inl ⟨rfl,by decide⟩)⟩
    ·rw [c];exact ⟨127,by decide +kernel,jeV,rfl,by decide,.inr (.inr (.inl ⟨rfl,by decide⟩))⟩
    ·rw [c];exact ⟨511,by decide +kernel,jbm,rfl,by decide,.inr (.inr (.inr (.inl ⟨rfl,by decide⟩)))⟩
    ·rw [c];exact ⟨2047,by decide +kernel,jdI,rfl,by decide,.inr (.inr (.inr (.inr ⟨rfl,by decide⟩)))⟩
   have hf1:t2.fits es1.size=true:=JU T2 (by rw [hz2,hesz]) (by rw [hesz,hm2];exact m2)
   unfold setRelay
   refine wpAny_bind (wpAny_bind (wpAny_setState_of (s:={ s with heap:=h1 }) hg rfl hf1 ?_))
   dsimp only
   have hsl:¬ SetTable.sizeAbove (SetTable.grown (es.size+1)) > sizeLine:=by
    rw [hmk,sizeLine_eq]
    have:=hM.le
    omega
   simp only [if_neg hsl]
   have hlen:(es1.toList.map (·.1)).length=es.size+1:=by rw [List.length_map,Array.length_toList,hesz]
   obtain ⟨t3,o,l1,T3,l3,l4,l5⟩:=jdw (finger:=t2.finger) (moves:=t2.movedTo mk) (led:=t2.led) (plain:=t2.plain) hfull hodd (es1.toList.map (·.1)) (by rw [hlen];exact hgt)
   have e2:t2.relaid (es1.map (·.1)) (SetTable.grown (es.size+1))=some (t3,o):=by
    unfold SetTable.relaid
    rw [hmk,Nat.add_sub_cancel]
    have:es1.map (·.1)=(es1.toList.map (·.1)).toArray:=by rw [← Array.toList_map,Array.toArray_toList]
    rw [this]
    exact l1
   rw [e2]
   rw [hlen] at l4 l5
   have hper:(o.filterMap (es1[·]?)).toList.Perm es1.toList:=by
    rw [Array.toList_filterMap]
    refine (l5.filterMap _).trans (List.Perm.of_eq ?_)
    apply List.ext_getElem?
    intro i
    have key:∀ n,n≤es1.size→(List.range n).filterMap (fun i=>es1[i]?)=es1.toList.take n:=by
     intro n
     induction n with
     | zero=>intro _;rfl
     | succ n ih=>
      intro hn
      rw [List.range_succ,List.filterMap_append,ih (by omega),List.take_succ]
      congr 1
      simp [show n < es1.size by omega]
    rw [key _ (by omega),← hesz,← Array.length_toList,List.take_length]
   have hsz3:(o.filterMap (es1[·]?)).size=es1.size:=by rw [← Array.length_toList,hper.length_eq,Array.length_toList]
   refine wpAny_bind ?_
   show wpAny (model prog w) A (if ((o.filterMap (es1[·]?)).size != es1.size)=true then _ else _) _ E _
   rw [if_neg (by rw [hsz3];simp)]
   refine wpAny_pure ?_
   dsimp only
   refine wpAny_storeSet_of (s:={ s with heap:=h1 }) hg rfl ?_ (by rw [hsz3,hesz];exact fits_of_scanBound (by show es.size+1 < 4096;omega))
   generalize o.filterMap (es1[·]?)=es3 at *
   have sb2:=Heap.SameBut.update h1 a (Obj.putSet es3 t3)
   have hg3:(h1.update a (Obj.putSet es3 t3)).get? a=some { cls:=.type "set",dict:=none,data:=.set es3 (ep+1+1) t3 }:=by
    have:=Heap.get?_update_self (Obj.putSet es3 t3) hg (by rw [putSet_of es3 t3 rfl];rfl)
    rw [putSet_of es3 t3 rfl] at this
    exact this
   rw [T2.ok.led_] at T3
   have kt2:=yJ (it:=a) (yD hg) (yD hg) fun b o hb _ e=>(sb2.2 b hb).trans e
   have hel3:ElsD h1 (L++[(ks,x)]) es3:=⟨(hper.map _).trans hel2.1,hel2.2⟩
   exact wpAny_pure (h _ (sb1.trans sb2) ⟨es3,ep+1+1,t3,hg3,hel3.kept kt2,by rw [hsz3,hesz,hL],T3,by rw [l4,hsz3,hesz],by rw [hsz3,hesz,l3];exact hM⟩)
 have hd1:t1.dummies=#[]:=hTp.ok.none_
 cases hpn:t1.plain with
 | false=>
  simp only [Bool.false_eq_true,if_false]
  try refine wpAny_bind (wpAny_pure ?_)
  try simp only [if_true]
  exact fin t1 hTp hpm hpz hd1
 | true=>
  simp only [if_true]
  refine wpAny_bind (jco 8 _ _ _ _ _ hk.1 fun b=>?_)
  obtain ⟨q1,q2,q3⟩:=Z6 (t:=t1) b
  exact fin _ (jbR hTp b) (by rw [q1];exact hpm) (by rw [q2];exact hpz) (by rw [q3];exact hd1)
end
section
variable {prog:Program} {w:World} {A:Around} {E:Value→Shared→Prop} {R:Result→Shared→Prop}
theorem J3 {h:Heap} {it l:Addr} {i:Nat} (hit:h.IsListIter it l i):∀ o,h.get? it=some o→o.cls≠.type "tuple":=fun o e z=>by
 obtain ⟨oi,z1,z2,_⟩:=hit
 rw [z1] at e
 cases e
 rw [z] at z2
 injection z2 with z2
 exact absurd z2 (by decide)
theorem DSetAt.not {h:Heap} {a:Addr} {led:Bool} {L:List (D×Addr)} (x:DSetAt h a led L):∀ o,h.get? a=some o→o.cls≠.type "tuple":=by
 obtain ⟨es,ep,t,e,_⟩:=x
 exact yD e
theorem DSetAt.but {h h':Heap} {a:Addr} {led:Bool} {L:List (D×Addr)} (x:DSetAt h a led L) (k:∀ o,h.get? a=some o→h'.get? a=some o) (kt:∀ b xs,h.IsTuple b xs→h'.IsTuple b xs):DSetAt h' a led L:=by
 obtain ⟨es,ep,t,e,h1,r⟩:=x
 exact ⟨es,ep,t,k _ e,h1.kept kt,r⟩
def DupsAt (h:Heap) (its:List Value) (kss:List (D×Addr)):Prop:=its=kss.map (fun p=>Value.ref p.2)∧∀ p∈kss,DTr h p.1 p.2
theorem DupsAt.kept {h h':Heap} {its:List Value} {kss:List (D×Addr)} (x:DupsAt h its kss) (k:∀ b xs,h.IsTuple b xs→h'.IsTuple b xs):DupsAt h' its kss:=⟨x.1,fun p hp=>(x.2 p hp).kept k⟩
theorem dset_loop {S it l:Addr} {led:Bool} {its:List Value} {kss:List (D×Addr)} (hh:A.handled=none) (hu:A.in1.units+8 < cLine) (nd:(kss.map (·.1)).Nodup) (hSl:S≠l) (hSi:S≠it) (hli:l≠it) (hz:kss.length≤1000) :
  ∀ (k i:Nat) (s:Shared),i+k=kss.length→s.heap.IsListIter it l i→s.heap.IsList l its.toArray→DupsAt s.heap its kss→DSetAt s.heap S led (kss.take i)→
   (∀ h' tk,(∀ b o,b≠S→b≠it→s.heap.get? b=some o→h'.get? b=some o)→DSetAt h' S led kss→R (.ok (.ret .none)) { s with heap:=h',toks:=tk })→
   codeAny (model prog w) A (.builtin "set.update.loop" ⟨[.ref S,.ref it],[]⟩) R s:=by
 intro k
 induction k with
 | zero=>
  intro i s hk hit ht hT hS hR
  have hl:its.length=kss.length:=by rw [hT.1,List.length_map]
  refine codeAny_builtin F.entry_set_update_loop ?_
  rw [Around.under_plainId F.plain_set_update_loop _]
  show wpAny _ A.in1 (pyNext (.ref it) >>= _) _ _ s
  refine wpAny_bind (wpAny_pyNext_list_end (A:=A.in1) hh hit ht (by simp;omega) fun h1 he1=>?_)
  show wpAny _ A.in1 (ret Value.none) _ _ _
  refine wpAny_pure ?_
  rw [show kss.take i=kss from List.take_of_length_le (by omega)] at hS
  refine hR h1 s.toks (fun b o _ hb e=>he1 b o hb e) ?_
  exact hS.but (he1 S · hSi) (yJ hS.not (J3 hit) fun b o _ hb e=>he1 b o hb e)
 | succ k ih=>
  intro i s hk hit ht hT hS hR
  have hl:its.length=kss.length:=by rw [hT.1,List.length_map]
  have hlt:i < kss.length:=by omega
  have hgi:its.toArray[i]?=some its[i]:=by simp [hl,hlt]
  have hkb:=hT.2 kss[i] (List.getElem_mem hlt)
  have et:its[i]=.ref kss[i].2:=by
   have:=hT.1
   subst this
   simp
  generalize eb:kss[i].2=b at *
  refine codeAny_builtin F.entry_set_update_loop ?_
  rw [Around.under_plainId F.plain_set_update_loop _]
  show wpAny _ A.in1 (pyNext (.ref it) >>= _) _ _ s
  refine wpAny_bind (wpAny_pyNext_list_item hit ht hgi fun h1 hit1 hs1=>?_)
  have hitc:=J3 hit
  have hSc:=hS.not
  have ht1:h1.IsList l its.toArray:=ht.extBut hs1.extBut hli
  have k1:∀ b o,b≠it→s.heap.get? b=some o→h1.get? b=some o:=fun b o hb e=>(hs1.2 b hb).trans e
  have kt1:∀ b xs,s.heap.IsTuple b xs→h1.IsTuple b xs:=yJ hSc hitc fun b o _ hb e=>k1 b o hb e
  have hT1:DupsAt h1 its kss:=hT.kept kt1
  have hkb1:DTr h1 kss[i].1 b:=hkb.kept kt1
  have hS1:DSetAt h1 S led (kss.take i):=hS.but (k1 S · hSi) kt1
  rw [et]
  show wpAny _ A.in1 (holding [Value.ref b] (setAdd S (.ref b)) >>= _) _ _ _
  refine wpAny_bind (wpAny_holding ?_)
  unfold setAdd
  refine wpAny_holding ?_
  refine wpAny_bind (jeT 8 _ kss[i].1 _ { s with heap:=h1 } _ hkb1.2 hu hkb1.1 fun hh tk=>?_)
  have hnew:kss[i].1 ∉ (kss.take i).map (·.1):=by
   intro hm
   obtain ⟨p,hp,e⟩:=List.mem_map.mp hm
   obtain ⟨j,hj,e'⟩:=List.mem_iff_getElem.mp hp
   rw [List.length_take] at hj
   rw [List.getElem_take] at e'
   have hj':j < (kss.map (·.1)).length:=by rw [List.length_map];omega
   have hi':i < (kss.map (·.1)).length:=by rw [List.length_map];omega
   have:=(List.getElem_inj nd (i:=j) (j:=i) (h₀:=hj') (h₁:=hi')).mp (by rw [List.getElem_map,List.getElem_map,e',e])
   omega
  refine jdR (s:={ s with heap:=h1,toks:=tk }) hu hkb1 hnew hS1 (by rw [List.length_take];omega) fun h2 hs2 hS2=>?_
  have e2:kss.take (i+1)=kss.take i++[(kss[i].1,b)]:=by rw [List.take_succ,List.getElem?_eq_getElem hlt,← eb];rfl
  rw [← e2] at hS2
  have hb2:∀ b o,b≠S→h1.get? b=some o→h2.get? b=some o:=fun b o hb e=>(hs2.2 b hb).trans e
  refine wpAny_pure ⟨plainId_quiet F.plain_set_update_loop _,ih (i+1) _ (by omega) ?_ ?_ (hT1.kept (yJ hS1.not (J3 hit1) fun b o hb _ e=>hb2 b o hb e)) hS2 fun h' tk hk' hS'=>hR h' tk (fun b o b1 b2 e=>hk' b o b1 b2 (hb2 b o b1 (k1 b o b2 e))) hS'⟩
  ·obtain ⟨oi,z1,z2⟩:=hit1
   exact ⟨oi,hb2 it oi hSi.symm z1,z2⟩
  ·obtain ⟨oi,z1,z2⟩:=ht1
   exact ⟨oi,hb2 l oi hSl.symm z1,z2⟩
end
end L2
namespace PySem
section
variable {prog:Program} {w:World} {A:Around} {E:Value→Shared→Prop} {s:Shared}
theorem set_of_trees {l:Addr} {its:List Value} {kss:List (L2.D×Addr)} {nl:Nat} {sl:Array (Option Value)} {dd:Option Addr} {Q:Value→Shared→Prop} (hh:A.handled=none) (hol:s.heap.get? l=some { cls:=.type "list",dict:=dd,data:=.seq its.toArray nl,slots:=sl }) (hu:A.units+11 < cLine) (hi:L2.DupsAt s.heap its kss) (nd:(kss.map (·.1)).Nodup) (hb:kss.length≤1000)
  (h:∀ (h':Heap) (tk:Nat),L2.DSetAt h' s.heap.objs.size (L2.ledOf w) kss→(∀ b o,s.heap.get? b=some o→h'.get? b=some o)→Q (.ref s.heap.objs.size) { s with heap:=h',toks:=tk }) :
  wpAny (model prog w) A (call (.type "set") [.ref l]) Q E s:=by
 obtain ⟨c,tl,hmro⟩:=F.called_set.mro
 have hmade:=F.called_set.made
 have hsub:=F.called_set.sub
 refine wpAny_call (codeAny_of_tree ?_)
 show wpAny _ _ (callAny (.type "set") _) _ _ _
 refine wpAny_pure ⟨Code.quiet_builtin _ (by decide +kernel),codeAny_builtin F.entry_type_call ?_⟩
 rw [Around.under_plain (weight_type_call_type "set" [.ref l] []) rfl]
 have h1:=F.called_set.notType
 have h2:=F.called_set.canCreate
 have hct:=F.typeCall_set_1 (.ref l)
 repeat (any_goals (first | assumption | wp_step))
 refine codeAny_mono (Y3 (.ref l) (E:=E) (Q₁:=fun obj s₁=>obj=.ref s.heap.objs.size∧s₁={ s with heap:=s.heap.push { cls:=.type "set",dict:=none,data:=.set #[] 0 (.fresh 0 0 (L2.ledOf w)) } }) ⟨rfl,rfl⟩) fun r s₁ hr=>?_
 cases r with
 | error e=>exact hr
 | ok fl=>
  cases fl with
  | ret obj=>
   obtain ⟨rfl,rfl⟩:=hr
   have hS:(s.heap.push { cls:=.type "set",dict:=none,data:=.set #[] 0 (.fresh 0 0 (L2.ledOf w)) }).get? s.heap.objs.size=some { cls:=.type "set",dict:=none,data:=.set #[] 0 (.fresh 0 0 (L2.ledOf w)) }:=Heap.get?_push_size _ rfl
   have hT:Shared.TypeIs { s with heap:=s.heap.push { cls:=.type "set",dict:=none,data:=.set #[] 0 (.fresh 0 0 (L2.ledOf w)) } } (.ref s.heap.objs.size) "set":=⟨_,hS,rfl⟩
   have hli:=F.called_set.init.lookup
   have hbi:=F.called_set.init.bind (.ref s.heap.objs.size)
   repeat (any_goals (first | assumption | wp_step))
   refine codeAny_mono (codeAny_call_builtin (R:=wants (fun r s₂=>r=.none∧∃ h' tk,s₂={ s with heap:=h',toks:=tk }∧L2.DSetAt h' s.heap.objs.size (L2.ledOf w) kss∧
     (∀ b o,s.heap.get? b=some o→h'.get? b=some o)) E) F.called_set.init.plain F.entry_set_init (check_set_init_1 hT ?_)) fun r₂ s₂ hr₂=>?_
   ·have hol':(s.heap.push { cls:=.type "set",dict:=none,data:=.set #[] 0 (.fresh 0 0 (L2.ledOf w)) }).get? l=some { cls:=.type "list",dict:=dd,data:=.seq its.toArray nl,slots:=sl }:=Heap.get?_push_of_some _ hol
    have hsls:=F.sub_list_set
    have hslf:=F.sub_list_frozenset
    have hne:(Value.type "list" == Value.type "dict")=false:=by decide
    have hl1:(s.heap.push { cls:=.type "set",dict:=none,data:=.set #[] 0 (.fresh 0 0 (L2.ledOf w)) }).IsList l its.toArray:=⟨_,hol',rfl,nl,rfl⟩
    unfold Builtin.«set.__init__» noKeywords Builtin.Frozenset.updateFrom
    generalize hPI:pyIter=PI
    wp_walk
    subst hPI
    refine wpAny_pyIter_list hl1 ?_
    refine wpAny_bind (wpAny_runValue ?_)
    have hlS:l < s.heap.objs.size:=Heap.lt_size hol
    have hh3:A.in1.in1.handled=none:=by simp [hh]
    have lt1:s.heap.objs.size < (s.heap.push { cls:=.type "set",dict:=none,data:=.set #[] 0 (.fresh 0 0 (L2.ledOf w)) }).objs.size:=Heap.lt_size hS
    refine L2.dset_loop (its:=its) (kss:=kss) (led:=L2.ledOf w) hh3 (by show A.units+1+1+1+8 < cLine;omega) nd (Nat.ne_of_gt hlS) (Nat.ne_of_lt lt1) (Nat.ne_of_lt (Nat.lt_trans hlS lt1)) hb kss.length 0 _ (by omega) ?_ ?_ ?_ ?_ ?_
    ·exact ⟨_,Heap.get?_push_size _ rfl,rfl,rfl⟩
    ·exact hl1.push _
    ·exact hi.kept fun b xs ⟨o,z1,z2⟩=>⟨o,Heap.get?_push_of_some _ (Heap.get?_push_of_some _ z1),z2⟩
    ·refine ⟨#[],0,.fresh 0 0 (L2.ledOf w),?_,⟨.refl _,fun p hp=>absurd hp (by simp)⟩,rfl,⟨⟨rfl,rfl,List.Pairwise.nil⟩,L2.full8,(by show 7 % 2=1;decide),(fun j hj=>by cases hj),Nat.zero_le _⟩,rfl,.inl ⟨rfl,Nat.zero_le _⟩⟩
     exact Heap.get?_push_of_some _ hS
    ·intro h' tk hk hS'
     show wpAny _ _ _ _ _ _
     refine wpAny_pure ?_
     show wpAny _ _ (ret Value.none) _ _ _
     refine wpAny_pure ⟨rfl,h',tk,rfl,hS',fun b o e=>?_⟩
     have hb0:=Heap.lt_size e
     exact hk b o (Nat.ne_of_lt hb0) (Nat.ne_of_lt (Nat.lt_trans hb0 lt1)) (Heap.get?_push_of_some _ (Heap.get?_push_of_some _ e))
   ·cases r₂ with
    | error e=>exact hr₂
    | ok fl₂=>
     cases fl₂ with
     | ret r=>
      obtain ⟨rfl,h',tk,rfl,hS',hk'⟩:=hr₂
      repeat (any_goals (first | assumption | wp_step))
      exact h _ _ hS' hk'
     | _=>exact hr₂.elim
  | _=>exact hr.elim
end
end PySem
namespace Tim
open PySem PyProof.Rows
abbrev GT:Type:=Option (Option Nat)×Nat×Nat
def jfT:Value→Option Int
 | .int n _=>some n
 | _=>none
@[reducible] def intKind:PyProof.Rows.KeyKind where
 α:=Int
 blt a b:=decide (a < b)
 irrefl a:=decide_eq_false (Int.lt_irrefl a)
 trans a b c h1 h2:=decide_eq_true (Int.lt_trans (of_decide_eq_true h1) (of_decide_eq_true h2))
 negTrans a b c h:=by
  have:=of_decide_eq_true h
  by_cases x:a < b
  ·exact .inl (decide_eq_true x)
  ·exact .inr (decide_eq_true (by omega))
 total a b h1 h2:=by
  have:=of_decide_eq_false h1
  have:=of_decide_eq_false h2
  omega
 keyOf:=jfT
 dflt:=0
end Tim
namespace L2
open PySem PySem.Spec PyProof.Rows PySem.W
theorem Zq:1000≤(sizeLine:Nat):=by rw [sizeLine_eq];decide
section
variable {X:Cx} {pins:List (Addr×Obj)} {σ:St} {H:Hp} {s:Shared}
mutual
theorem JB (I:Inv X pins σ H s):∀ {d:D} {x:V} {u:Value},Held H d x→RelV x u→TrAt s.heap d u
 | .int i,x,u,h,r=>by unfold Held at h;subst h;obtain ⟨t,rfl⟩:=r;unfold TrAt;exact ⟨t,rfl⟩
 | .str i,x,u,h,r=>by unfold Held at h;subst h;obtain ⟨t,rfl⟩:=r;unfold TrAt;exact ⟨t,rfl⟩
 | .tup ds,x,u,h,r=>by
  unfold Held at h
  obtain ⟨a,xs,rfl,ha,hxs⟩:=h
  cases r
  obtain ⟨its,rva,ta,_⟩:=I.tuple (SqT.of ha)
  unfold TrAt
  exact ⟨a,its.toArray,rfl,ta,by simpa using heldL_tr I hxs rva⟩
theorem heldL_tr (I:Inv X pins σ H s):∀ {ds:List D} {xs:List V} {us:List Value},HeldL H ds xs→Vals xs us→TrAtL s.heap ds us
 | [],xs,us,h,r=>by unfold HeldL at h;subst h;cases r;unfold TrAtL;rfl
 | d :: ds,xs,us,h,r=>by
  unfold HeldL at h
  obtain ⟨v,q,rfl,h1,h2⟩:=h
  cases r with
  | cons h r=>unfold TrAtL;exact ⟨_,_,rfl,JB I h1 h,heldL_tr I h2 r⟩
end
end
theorem qo {α β:Type} {f:α→β} {m l:List β} (p:m.Perm l):∀ {ps:List α},ps.map f=m→∃ qs:List α,qs.Perm ps∧qs.map f=l:=by
 induction p with
 | nil=>intro ps e;exact ⟨ps,.refl _,e⟩
 | cons x _ ih=>
  intro ps e
  cases ps with
  | nil=>cases e
  | cons y ps=>
   rw [List.map_cons] at e
   injection e with e1 e2
   obtain ⟨qs,h1,h2⟩:=ih e2
   exact ⟨y :: qs,h1.cons y,by rw [List.map_cons,h2,e1]⟩
 | swap x y l=>
  intro ps e
  match ps,e with
  | a :: b :: ps,e=>
   simp only [List.map_cons,List.cons.injEq] at e
   obtain ⟨e1,e2,e3⟩:=e
   exact ⟨b :: a :: ps,.swap _ _ _,by simp only [List.map_cons,e1,e2,e3]⟩
 | trans _ _ ih1 ih2=>
  intro ps e
  obtain ⟨qs,h1,h2⟩:=ih1 e
  obtain ⟨rs,h3,h4⟩:=ih2 h2
  exact ⟨rs,h3.trans h1,h4⟩
theorem ZX {h:Heap}:∀ {qs:List (D×Addr)},(∀ q∈qs,TrAt h q.1 (.ref q.2))→TrAtL h (qs.map (·.1)) (qs.map fun p=>Value.ref p.2)
 | [],_=>by unfold TrAtL;rfl
 | q :: qs,hq=>by
  rw [List.map_cons,List.map_cons]
  unfold TrAtL
  exact ⟨_,_,rfl,hq q List.mem_cons_self,ZX fun r hr=>hq r (List.mem_cons_of_mem _ hr)⟩
theorem Ko:∀ {as:List Addr} {us:List Value},Vals (as.map V.ref) us→us=as.map Value.ref
 | [],us,r=>by cases r;rfl
 | a :: as,us,r=>by
  cases r with
  | cons h r=>cases h;rw [Ko r];rfl
theorem Ku:∀ (as:List Addr),Vals (as.map V.ref) (as.map Value.ref)
 | []=>.nil
 | a :: as=>.cons rfl (Ku as)
abbrev jdS (w:World) (v:Addr) (as:List Addr):HO:=.ext fun h=>∃ es ep t,h.get? v=some { cls:=.type "set",dict:=none,data:=.set es ep t }∧(es.toList.map (·.2)).Perm (as.map Value.ref)∧t.fits es.size=true∧TabOk (ledOf w) t
theorem kW {X:Cx} {w:World} (hc:X.calm=true) (hu:X.A.units+11 < cLine) (h2:X.w=w:=by rfl):qH X (.type "set") (fun xs H Q=>∃ (p:Addr) (ps:List (D×Addr)),xs=[.ref p]∧SqL X.K H p ((ps.map (·.2)).map V.ref)∧(∀ q∈ps,Held H q.1 (.ref q.2)∧q.1.depth≤8)∧(ps.map (·.1)).Nodup∧ps.length≤1000∧
  ∀ v,H v=none→Q (.ref v) (upd H v (jdS w v (ps.map (·.2))))):=by
 subst h2
 intro pins s σ H xs us Q I r h
 obtain ⟨p,ps,rfl,hq,hk,nd,hz,q⟩:=h
 obtain ⟨u,rfl,rx⟩:=yb r
 cases rx
 obtain ⟨its,rv,⟨⟨c1,d1,t1,l1⟩,n1,o1,z1,z2,z3⟩,hz1⟩:=I.list hq
 simp only at z1 z2 z3
 subst z1 z2 z3
 have hits:=Ko rv
 have T:DupsAt s.heap its ps:=⟨by rw [hits,List.map_map];rfl,fun q hq=>⟨JB I (hk q hq).1 rfl,(hk q hq).2⟩⟩
 refine PySem.set_of_trees (I.ok.hd hc) o1 hu T nd hz fun h' tk hS hk=>?_
 obtain ⟨es,ep,t,e,hE,hsz,T',hpl,M⟩:=hS
 refine ⟨.ref s.heap.objs.size,_,I.laid (t':=tk) hk (Nat.le_refl _) (show ObjOk X.prog X.w _ _ _ (jdS X.w s.heap.objs.size (ps.map (·.2))) from ⟨⟨es,ep,t,e,by rw [List.map_map];exact hE.1,JU T' hpl M.le.1,T'.ok⟩,⟨_,e⟩,fun h1 h2 x k=>by obtain ⟨es,ep,t,x1,x2⟩:=x;exact ⟨es,ep,t,k _ x1,x2⟩⟩),rfl,q _ (I.hok.fresh (Nat.le_refl _))⟩
theorem SortT.perm {ds es:List D} {n:Nat} (x:SortT ds n) (p:es.Perm ds):SortT es n:=⟨⟨fun d hd e he=>x.cmp d (p.mem_iff.mp hd) e (p.mem_iff.mp he),fun d hd=>x.dep d (p.mem_iff.mp hd),fun d hd=>x.tup d (p.mem_iff.mp hd)⟩,fun d hd=>x.fst d (p.mem_iff.mp hd)⟩
theorem kC {X:Cx} {w:World} {n:Nat} (hc:X.calm=true) (hu:X.A.units+3+n < cLine) (h2:X.w=w:=by rfl):qH X (.builtin "sorted") (fun xs H Q=>∃ (p:Addr) (ps:List (D×Addr)),xs=[.ref p]∧H p=some (jdS w p (ps.map (·.2)))∧(∀ q∈ps,Held H q.1 (.ref q.2))∧SortT (ps.map (·.1)) n∧ps.length≤1000∧
  ∀ (l:Addr) (qs:List (D×Addr)),H l=none→qs.Perm ps→(qs.map (·.1)).Pairwise (fun a b=>dLt b a=false)→Q (.ref l) (upd H l (.lst ((qs.map (·.2)).map V.ref)))):=by
 subst h2
 intro pins s σ H xs us Q I r h
 obtain ⟨p,ps,rfl,hp,hk,hS,most,q⟩:=h
 obtain ⟨u,rfl,rx⟩:=yb r
 cases rx
 obtain ⟨⟨es,ep,t,ho,hel,hf,ht⟩,_⟩:=I.hok p _ hp
 have hz:es.size=ps.length:=by
  have:=hel.length_eq
  rw [List.length_map,Array.length_toList,List.length_map,List.length_map] at this
  exact this
 refine Calls.call_function_entry kind_sorted plain_sorted entry_sorted (args_sorted1 _) ?_
 unfold Builtin.«sorted»
 refine wpAny_bind (m:=checkCount "sorted" 1 1 _) (wpAny_pure (wpAny_bind (ZL (A:=X.A.in1) (show X.A.in1.handled=none from I.ok.hd hc) ho hf ht (by omega) fun h' d' vals hv hkp=>?_)))
 have hv':vals.Perm (ps.map fun p=>Value.ref p.2):=hv.trans (by rw [List.map_map] at hel;exact hel)
 obtain ⟨ps1,p1,e1⟩:=qo (f:=fun p:D×Addr=>Value.ref p.2) hv'.symm rfl
 have hl:vals.length=ps.length:=by rw [hv'.length_eq,List.length_map]
 have I1:Inv X pins σ H { s with heap:=h',drawn:=d' }:=I.drawn hkp
 refine wpAny_bind (wpAny_newList ?_ (by rw [hl];exact Nat.le_trans most Zq))
 have hoL:(h'.push (seqObj "list" vals.toArray 0)).get? h'.objs.size=some (seqObj "list" vals.toArray 0):=Heap.get?_push_size _ rfl
 have kt:∀ b xs,h'.IsTuple b xs→(h'.push (seqObj "list" vals.toArray 0)).IsTuple b xs:=fun b xs ⟨o,z1,z2⟩=>⟨o,Heap.get?_push_of_some _ z1,z2⟩
 have hT:∀ q∈ps,TrAt (h'.push (seqObj "list" vals.toArray 0)) q.1 (.ref q.2):=fun q hq=>(JB I1 (u:=.ref q.2) (hk q hq) rfl).kept kt
 have hI:TrAtL (h'.push (seqObj "list" vals.toArray 0)) (ps1.map (·.1)) vals:=by
  have:=ZX (qs:=ps1) fun q hq=>hT q (p1.mem_iff.mp hq)
  rw [e1] at this
  exact this
 refine wpAny_bind (wpAny_holding (wpAny_call_entry slot_list_sort ⟨_,hoL,rfl⟩ entry_list_sort (Y1 (n:=n) hoL hI (hS.perm (p1.map _)) (by show X.A.units+1+1+n < cLine;omega) (by omega) fun out ms a0 a1 a2 a3=>⟨_,rfl,wpAny_pure ⟨_,rfl,?_⟩⟩) (args_list_sort _)))
 obtain ⟨qs,q1,q2⟩:=qo (f:=fun p:D×Addr=>Value.ref p.2) a0.symm e1
 have em:ms=qs.map (·.1):=trL_inj a1 (by
  have:=ZX (qs:=qs) fun q hq=>hT q (p1.mem_iff.mp (q1.mem_iff.mp hq))
  rw [q2] at this
  exact this)
 rw [em] at a3
 obtain ⟨e,he⟩:=sortedHeap_at (out:=out) hoL
 refine ⟨.ref h'.objs.size,_,I1.laid (t':=s.toks) (a:=h'.objs.size) (fun b o hb=>?_) (Nat.le_refl _) (show ObjOk X.prog X.w _ _ _ (.lst ((qs.map (·.2)).map V.ref)) from ⟨?_,_,e,Ku _,?_⟩),rfl,q _ qs (I1.hok.fresh (Nat.le_refl _)) (q1.trans p1) a3⟩
 ·have hlt:=Heap.lt_size hb
  rw [sortedHeap_old (Nat.ne_of_lt hlt) (by rw [size_push'];exact Nat.lt_succ_of_lt hlt)]
  exact Heap.get?_push_of_some _ hb
 ·rw [List.length_map,List.length_map,(q1.trans p1).length_eq]
  exact Nat.le_trans most Zq
 ·have:((qs.map (·.2)).map Value.ref).toArray=out:=by
   rw [List.map_map]
   show (qs.map fun p=>Value.ref p.2).toArray=out
   rw [q2,Array.toArray_toList]
  rw [this]
  exact he
mutual
def D.py:D→PyData
 | .int i=>.int i
 | .str x=>.str x
 | .tup ds=>.tuple (D.pyL ds)
def D.pyL:List D→List PyData
 | []=>[]
 | d :: ds=>D.py d :: D.pyL ds
end
mutual
def OkD:D→Prop
 | .int i=>i.natAbs < 10 ^ 39
 | .str x=>∀ c∈x.cps.toList,97≤c∧c≤122
 | .tup ds=>OkDL ds
def OkDL:List D→Prop
 | []=>True
 | d :: ds=>OkD d∧OkDL ds
end
def sgn (d:D):List Nat:=d.py.shown.cps.toList
def jn:List (List Nat)→List Nat
 | []=>[]
 | [t]=>t
 | t :: u :: r=>t++44 :: 32 :: jn (u :: r)
theorem km (x y:Str):(x++y).cps.toList=x.cps.toList++y.cps.toList:=by
 show (x.cps++y.cps).toList=_
 simp
theorem jbf:∀ ts:List Str,(Str.join ", " ts).cps.toList=jn (ts.map fun t=>t.cps.toList)
 | []=>rfl
 | [t]=>by
  show (Str.join ", " [t]).cps.toList=t.cps.toList
  first | rfl | simp [Str.join]
 | t :: u :: r=>by
  rw [join_cons_cons,km,km,signs_sep,jbf (u :: r)]
  simp only [List.map_cons,jn,List.append_assoc,List.cons_append,List.nil_append]
theorem yC (i:Int):sgn (.int i)=(toString i).toList.map Char.toNat:=by
 show ((toString i:String):Str).cps.toList=_
 rw [signs_ofString]
theorem ja2:∀ ds:List D,(PyData.shownAll (D.pyL ds)).length=ds.length
 | []=>rfl
 | d :: ds=>by
  show (_ :: PyData.shownAll (D.pyL ds)).length=_
  rw [List.length_cons,ja2 ds];rfl
theorem ja1:∀ ds:List D,(PyData.shownAll (D.pyL ds)).map (fun t=>t.cps.toList)=ds.map sgn
 | []=>rfl
 | d :: ds=>by
  show (_ :: PyData.shownAll (D.pyL ds)).map _=_
  rw [List.map_cons,ja1 ds];rfl
def jdO (n:Nat):List Nat:=if n=1 then [44,41] else [41]
theorem qJ (ds:List D):sgn (.tup ds)=40 :: (jn (ds.map sgn)++jdO ds.length):=by
 show (tupleText (PyData.shownAll (D.pyL ds))).cps.toList=_
 unfold tupleText
 rw [km,km,signs_lparen,jbf,ja1,ja2]
 unfold jdO
 by_cases h:ds.length=1
 ·rw [if_pos h,if_pos (by rw [h];rfl)]
  rfl
 ·rw [if_neg h,if_neg (by simpa using h)]
  rfl
theorem Jq {c:Nat} (h1:97≤c) (h2:c≤122):Builtin.Str.reprChar 39 c=[c]:=by
 unfold Builtin.Str.reprChar
 have hp:Unicode.isPrintable c=true:=by
  have:∀ c,c < 128→97≤c∧c≤122→Unicode.isPrintable c=true:=by decide +kernel
  exact this c (by omega) ⟨h1,h2⟩
 simp only [beq_iff_eq,Bool.or_eq_true]
 rw [if_neg (by omega),if_neg (by omega),if_neg (by omega),if_neg (by omega),if_pos hp]
theorem yc:∀ (l:List Nat) (acc:Array Nat),(∀ c∈l,97≤c∧c≤122)→(l.foldl (fun out c=>out++(Builtin.Str.reprChar 39 c).toArray) acc).toList=acc.toList++l
 | [],acc,_=>by simp
 | c :: l,acc,h=>by
  rw [List.foldl_cons,Jq (h c List.mem_cons_self).1 (h c List.mem_cons_self).2,yc l _ fun d hd=>h d (List.mem_cons_of_mem _ hd)]
  simp
theorem qK {x:Str} (h:∀ c∈x.cps.toList,97≤c∧c≤122):sgn (.str x)=39 :: (x.cps.toList++[39]):=by
 show (reprText x).cps.toList=_
 have hq:reprQuote x=39:=by
  unfold reprQuote
  have:x.cps.contains 39=false:=by
   rw [Array.contains_eq_mem,decide_eq_false_iff_not]
   intro hm
   have:=h 39 (Array.mem_toList_iff.mpr hm)
   omega
  rw [this];rfl
 unfold reprText
 rw [hq]
 show ((x.cps.foldl (fun out c=>out++(Builtin.Str.reprChar 39 c).toArray) #[39]).push 39).toList=_
 rw [Array.toList_push,← Array.foldl_toList,yc _ _ h]
 rfl
theorem JM {P:Nat→Prop}:∀ {a b p q:List Nat},(∀ c∈a,P c)→(∀ c∈b,P c)→(∀ c r,p=c :: r→¬ P c)→(∀ c r,q=c :: r→¬ P c)→a++p=b++q→a=b∧p=q
 | [],[],p,q,_,_,_,_,e=>⟨rfl,e⟩
 | [],c :: b,p,q,_,hb,hp,_,e=>absurd (hb c List.mem_cons_self) (hp c (b++q) e)
 | c :: a,[],p,q,ha,_,_,hq,e=>absurd (ha c List.mem_cons_self) (hq c (a++p) e.symm)
 | c :: a,d :: b,p,q,ha,hb,hp,hq,e=>by
  rw [List.cons_append,List.cons_append] at e
  injection e with e1 e2
  obtain ⟨h1,h2⟩:=JM (fun x hx=>ha x (List.mem_cons_of_mem _ hx)) (fun x hx=>hb x (List.mem_cons_of_mem _ hx)) hp hq e2
  exact ⟨by rw [e1,h1],h2⟩
def je8 (p:List Nat):Prop:=∀ c r,p=c :: r→c=41∨c=44
def YF (c:Nat):Prop:=c=45∨(48≤c∧c≤57)
theorem qc (i:Int):∀ c∈sgn (.int i),YF c:=by
 intro c hc
 have:=fun h=>int_text_free' c h i (by rw [signs_ofString,← yC];exact hc)
 unfold YF
 by_cases h1:c=45
 ·exact .inl h1
 ·by_cases h2:48≤c∧c≤57
  ·exact .inr h2
  ·exact absurd ⟨h1,by omega⟩ this
theorem yE {m n:Nat} (h:(Nat.repr m).toList=(Nat.repr n).toList):m=n:=by
 rw [Nat.toList_repr,Nat.toList_repr] at h
 rw [← Nat.ofDigitChars_ten_toDigits (n:=m),h,Nat.ofDigitChars_ten_toDigits]
theorem J6 (i:Int):∃ c r,sgn (.int i)=c :: r:=by
 rw [yC]
 cases i with
 | ofNat m=>
  show ∃ c r,(Nat.repr m).toList.map Char.toNat=c :: r
  rw [Nat.toList_repr]
  cases h:Nat.toDigits 10 m with
  | nil=>have:=Nat.ofDigitChars_ten_toDigits (n:=m);exact absurd h (by simp)
  | cons c r=>exact ⟨_,_,rfl⟩
 | negSucc m=>
  show ∃ c r,("-"++Nat.repr (m+1):String).toList.map Char.toNat=c :: r
  rw [String.toList_append]
  exact ⟨_,_,rfl⟩
theorem yW {i j:Int} (h:sgn (.int i)=sgn (.int j)):i=j:=by
 rw [yC,yC] at h
 have h:(toString i).toList=(toString j).toList:=by
  have:=congrArg (List.map Char.ofNat) h
  simpa [List.map_map,Function.comp_def] using this
 have neg:∀ m n:Nat,(Nat.repr m).toList≠("-"++Nat.repr (n+1):String).toList:=by
  intro m n e
  rw [String.toList_append,Nat.toList_repr] at e
  have hm:'-'∈Nat.toDigits 10 m:=by rw [e];exact List.mem_append_left _ (by decide)
  exact absurd (Nat.isDigit_of_mem_toDigits (by decide) (by decide) hm) (by decide)
 cases i with
 | ofNat m=>
  cases j with
  | ofNat n=>exact congrArg _ (yE h)
  | negSucc n=>exact absurd h (neg m n)
 | negSucc m=>
  cases j with
  | ofNat n=>exact absurd h.symm (neg n m)
  | negSucc n=>
   have h:("-"++Nat.repr (m+1):String).toList=("-"++Nat.repr (n+1):String).toList:=h
   rw [String.toList_append,String.toList_append] at h
   have:=yE (List.append_cancel_left h)
   have:m=n:=by omega
   rw [this]
theorem Y2 (d:D) (h:OkD d):∃ c r,sgn d=c :: r∧c≠41:=by
 cases d with
 | int i=>
  obtain ⟨c,r,e⟩:=J6 i
  refine ⟨c,r,e,?_⟩
  have:=qc i c (by rw [e];exact List.mem_cons_self)
  unfold YF at this
  omega
 | str x=>unfold OkD at h;exact ⟨39,_,qK h,by decide⟩
 | tup ds=>exact ⟨40,_,qJ ds,by decide⟩
theorem yK (t:List Nat) (r:List (List Nat)):jn (t :: r)=t++(if r=[] then [] else 44 :: 32 :: jn r):=by
 cases r with
 | nil=>simp [jn]
 | cons u r=>simp [jn]
def jd7 (t:List Nat):Prop:=∃ r,t=41 :: r∨t=44 :: 41 :: r
theorem KL {p:List Nat} (h:je8 p):∀ c r,p=c :: r→¬ YF c:=fun c r e z=>by
 have:=h c r e
 unfold YF at z
 omega
theorem Kr {t:List Nat} {r:List (List Nat)} (h:jd7 t):je8 ((if r=[] then [] else 44 :: 32 :: jn r)++t):=by
 intro c q e
 split at e
 ·obtain ⟨z,h | h⟩:=h
  ·rw [h] at e;injection e with e;exact .inl e.symm
  ·rw [h] at e;injection e with e;exact .inr e.symm
 ·injection e with e;exact .inr e.symm
mutual
theorem jcT:∀ (d e:D) (p q:List Nat),OkD d→OkD e→je8 p→je8 q→sgn d++p=sgn e++q→d=e∧p=q
 | .int i,.int j,p,q,_,_,hp,hq,h=>by
  obtain ⟨h1,h2⟩:=JM (qc i) (qc j) (KL hp) (KL hq) h
  exact ⟨by rw [yW h1],h2⟩
 | .int i,.str y,p,q,_,hy,hp,hq,h=>by
  unfold OkD at hy
  obtain ⟨c,r,e⟩:=J6 i
  have hc:=qc i c (by rw [e];exact List.mem_cons_self)
  rw [e,qK hy,List.cons_append,List.cons_append] at h
  injection h with h
  unfold YF at hc;omega
 | .int i,.tup es,p,q,_,hy,hp,hq,h=>by
  obtain ⟨c,r,e⟩:=J6 i
  have hc:=qc i c (by rw [e];exact List.mem_cons_self)
  rw [e,qJ,List.cons_append,List.cons_append] at h
  injection h with h
  unfold YF at hc;omega
 | .str x,.int j,p,q,hx,_,hp,hq,h=>by
  unfold OkD at hx
  obtain ⟨c,r,e⟩:=J6 j
  have hc:=qc j c (by rw [e];exact List.mem_cons_self)
  rw [e,qK hx,List.cons_append,List.cons_append] at h
  injection h with h
  unfold YF at hc;omega
 | .str x,.str y,p,q,hx,hy,hp,hq,h=>by
  unfold OkD at hx hy
  rw [qK hx,qK hy,List.cons_append,List.cons_append] at h
  injection h with _ h
  rw [List.append_assoc,List.append_assoc] at h
  obtain ⟨h1,h2⟩:=JM (P:=fun c=>97≤c∧c≤122) hx hy (fun c r e=>by injection e with e;omega) (fun c r e=>by injection e with e;omega) h
  injection h2 with _ h2
  exact ⟨by rw [Str.ext' (Array.toList_inj.mp h1)],h2⟩
 | .str x,.tup es,p,q,hx,_,hp,hq,h=>by
  unfold OkD at hx
  rw [qK hx,qJ,List.cons_append,List.cons_append] at h
  injection h with h
  omega
 | .tup ds,.int j,p,q,_,_,hp,hq,h=>by
  obtain ⟨c,r,e⟩:=J6 j
  have hc:=qc j c (by rw [e];exact List.mem_cons_self)
  rw [e,qJ,List.cons_append,List.cons_append] at h
  injection h with h
  unfold YF at hc;omega
 | .tup ds,.str y,p,q,_,hy,hp,hq,h=>by
  unfold OkD at hy
  rw [qK hy,qJ,List.cons_append,List.cons_append] at h
  injection h with h
  omega
 | .tup ds,.tup es,p,q,hx,hy,hp,hq,h=>by
  unfold OkD at hx hy
  rw [qJ,qJ,List.cons_append,List.cons_append] at h
  injection h with _ h
  rw [List.append_assoc,List.append_assoc] at h
  have et:∀ n p,jd7 (jdO n++p):=fun n p=>by
   unfold jdO jd7
   split
   ·exact ⟨p,.inr rfl⟩
   ·exact ⟨p,.inl rfl⟩
  cases ds with
  | nil=>
   cases es with
   | nil=>exact ⟨rfl,List.append_cancel_left h⟩
   | cons e es=>
    unfold OkDL at hy
    obtain ⟨c,r,e1,e2⟩:=Y2 e hy.1
    rw [List.map_cons,yK,e1] at h
    injection h with h
    exact absurd h.symm e2
  | cons d ds=>
   cases es with
   | nil=>
    unfold OkDL at hx
    obtain ⟨c,r,e1,e2⟩:=Y2 d hx.1
    rw [List.map_cons,yK,e1] at h
    injection h with h
    exact absurd h e2
   | cons e es=>
    obtain ⟨h1,h2⟩:=shL_inj (d :: ds) (e :: es) _ _ hx hy (by simp) (by simp) (et _ _) (et _ _) h
    rw [h1] at h2
    exact ⟨by rw [h1],List.append_cancel_left h2⟩
theorem shL_inj:∀ (ds es:List D) (t u:List Nat),OkDL ds→OkDL es→ds≠[]→es≠[]→jd7 t→jd7 u→jn (ds.map sgn)++t=jn (es.map sgn)++u→ds=es∧t=u
 | [],_,_,_,_,_,h,_,_,_,_=>absurd rfl h
 | _ :: _,[],_,_,_,_,_,h,_,_,_=>absurd rfl h
 | d :: ds,e :: es,t,u,hx,hy,_,_,ht,hu,h=>by
  unfold OkDL at hx hy
  rw [List.map_cons,List.map_cons,yK,yK,List.append_assoc,List.append_assoc] at h
  obtain ⟨h1,h2⟩:=jcT d e _ _ hx.1 hy.1 (Kr ht) (Kr hu) h
  cases ds with
  | nil=>
   cases es with
   | nil=>exact ⟨by rw [h1],h2⟩
   | cons e2 es=>
    simp only [List.map_nil,List.map_cons,if_true,List.nil_append,reduceCtorEq,if_false] at h2
    obtain ⟨r,z | z⟩:=ht
    ·rw [z] at h2;simp at h2
    ·rw [z] at h2;simp at h2
  | cons d2 ds=>
   cases es with
   | nil=>
    simp only [List.map_nil,List.map_cons,if_true,List.nil_append,reduceCtorEq,if_false] at h2
    obtain ⟨r,z | z⟩:=hu
    ·rw [z] at h2;simp at h2
    ·rw [z] at h2;simp at h2
   | cons e2 es=>
    have h2':44 :: 32 :: (jn ((d2 :: ds).map sgn)++t)=44 :: 32 :: (jn ((e2 :: es).map sgn)++u):=by
     simpa only [List.map_cons,reduceCtorEq,if_false,List.cons_append] using h2
    injection h2' with _ h3
    injection h3 with _ h3
    obtain ⟨h4,h5⟩:=shL_inj (d2 :: ds) (e2 :: es) t u hx.2 hy.2 (by simp) (by simp) ht hu h3
    exact ⟨by rw [h1,h4],h5⟩
end
theorem jbU {d e:D} (hd:OkD d) (he:OkD e) (h:d.py.shown=e.py.shown):d=e:=
 (jcT d e [] [] hd he (fun c r z=>by cases z) (fun c r z=>by cases z) (by unfold sgn;rw [h])).1
mutual
theorem YR {h:Heap}:∀ {d:D} {v:Value},TrAt h d v→∃ as,Reads h v d.py as
 | .int i,v,x=>by unfold TrAt at x;obtain ⟨t,rfl⟩:=x;exact ⟨_,.int i t⟩
 | .str i,v,x=>by unfold TrAt at x;obtain ⟨t,rfl⟩:=x;exact ⟨_,.str i t⟩
 | .tup ds,v,x=>by
  unfold TrAt at x
  obtain ⟨a,its,rfl,⟨o,h1,h2,n,h3⟩,hL⟩:=x
  obtain ⟨as,r⟩:=trL_reads hL
  exact ⟨as,.tuple h1 h2 h3 r⟩
theorem trL_reads {h:Heap}:∀ {ds:List D} {vs:List Value},TrAtL h ds vs→∃ as,ReadsAll h vs (D.pyL ds) as
 | [],vs,x=>by unfold TrAtL at x;subst x;exact ⟨_,.nil⟩
 | d :: ds,vs,x=>by
  unfold TrAtL at x
  obtain ⟨v,r,rfl,h1,h2⟩:=x
  obtain ⟨as,a1⟩:=YR h1
  obtain ⟨bs,a2⟩:=trL_reads h2
  exact ⟨_,.cons a1 a2⟩
end
mutual
theorem Jl:∀ (d:D),OkD d→d.py.showable=true
 | .int i,h=>by
  unfold OkD at h
  show decide (i.natAbs.log2 < 1920)=true
  refine decide_eq_true ?_
  rcases Nat.eq_zero_or_pos i.natAbs with z | z
  ·rw [z];decide
  ·exact (Nat.log2_lt (by omega)).mpr (Nat.lt_trans h (by decide))
 | .str x,h=>rfl
 | .tup ds,h=>by unfold OkD at h;exact pyL_showable ds h
theorem pyL_showable:∀ (ds:List D),OkDL ds→PyData.showableAll (D.pyL ds)=true
 | [],_=>rfl
 | d :: ds,h=>by
  unfold OkDL at h
  show (d.py.showable && PyData.showableAll (D.pyL ds))=true
  rw [Jl d h.1,pyL_showable ds h.2];rfl
end
mutual
theorem Kv:∀ (d:D),d.py.hasDict=false
 | .int i=>rfl
 | .str x=>rfl
 | .tup ds=>pyL_noDict ds
theorem pyL_noDict:∀ (ds:List D),PyData.hasDictAll (D.pyL ds)=false
 | []=>rfl
 | d :: ds=>by
  show (d.py.hasDict || PyData.hasDictAll (D.pyL ds))=false
  rw [Kv d,pyL_noDict ds];rfl
end
mutual
theorem Y9:∀ (d:D),d.py.depth=d.depth
 | .int i=>rfl
 | .str x=>rfl
 | .tup ds=>by
  show PyData.depthAll (D.pyL ds)+1=_
  rw [pyL_depth ds]
  exact (D.depth.eq_3 ds).symm
theorem pyL_depth:∀ (ds:List D),PyData.depthAll (D.pyL ds)=D.depthL ds
 | []=>rfl
 | d :: ds=>by
  show max d.py.depth (PyData.depthAll (D.pyL ds))=_
  rw [Y9 d,pyL_depth ds]
  exact (D.depthL.eq_2 d ds).symm
end
mutual
def D.big:D→Nat
 | .int _=>40
 | .str x=>x.length+2
 | .tup ds=>D.bigL ds+3
def D.bigL:List D→Nat
 | []=>0
 | d :: ds=>D.big d+2+D.bigL ds
end
mutual
theorem jaV:∀ (d:D),OkD d→(sgn d).length≤d.big
 | .int i,h=>by
  unfold OkD at h
  have:=int_text_length_le10 (k:=39) (by decide) h
  rw [yC,List.length_map,String.length_toList]
  unfold D.big
  omega
 | .str x,h=>by
  unfold OkD at h
  rw [qK h]
  unfold D.big
  rw [List.length_cons,List.length_append,Array.length_toList]
  show x.cps.size+1+1≤x.cps.size+2
  omega
 | .tup ds,h=>by
  unfold OkD at h
  rw [qJ]
  unfold D.big jdO
  have:=sgnL_big ds h
  rw [List.length_cons,List.length_append]
  split <;> simp only [List.length_cons,List.length_nil] <;> omega
theorem sgnL_big:∀ (ds:List D),OkDL ds→(jn (ds.map sgn)).length≤D.bigL ds
 | [],_=>Nat.zero_le _
 | d :: ds,h=>by
  unfold OkDL at h
  have h1:=jaV d h.1
  have h2:=sgnL_big ds h.2
  rw [List.map_cons,yK]
  unfold D.bigL
  rw [List.length_append]
  split
  ·rw [List.length_nil];omega
  ·rw [List.length_cons,List.length_cons];omega
end
theorem Z3 {d:D} (h:OkD d) (hb:d.big≤100000):d.py.shown.length≤sizeLine:=by
 have:=jaV d h
 unfold sgn at this
 rw [Array.length_toList] at this
 rw [sizeLine_eq]
 show d.py.shown.cps.size≤_
 omega
theorem jcs {X:Cx} (hg:X.A.guards=some []) (hu:X.A.units+10 < cLine):qH X (.builtin "repr") (fun xs H Q=>∃ (a:Addr) (d:D),xs=[.ref a]∧Held H d (.ref a)∧d.depth≤8∧OkD d∧d.big≤100000∧Q (.str d.py.shown) H):=by
 intro pins s σ H xs us Q I r h
 obtain ⟨a,d,rfl,hh,hd,hok,hb,q⟩:=h
 obtain ⟨u,rfl,rx⟩:=yb r
 cases rx
 obtain ⟨as,rd⟩:=YR (JB I hh rfl)
 refine repr_of_reads' rd (Jl d hok) (PyData.noDict_hsm (Kv d)) hg (by rw [Y9];omega) (fun _ _ e=>e) (fun h' u tk hk=>?_) (Z3 hok hb)
 exact ⟨.str d.py.shown,H,I.kept hk,⟨u,rfl⟩,q⟩
theorem jcc {X:Cx}:MtR X "dict.setdefault" (fun x xs H Q=>∃ (d:Addr) (kvs:List (Key×V)) (k:Key) (v:V),x=.ref d∧xs=[kV k,v]∧H d=some (.dK kvs)∧kvs.length < sizeLine∧
  ((∃ v0,jT kvs k=some v0∧Q v0 H)∨(jT kvs k=none∧Q v (upd H d (.dK (qI kvs k v)))))):=by
 intro pins s σ H x xs v us Q I rx rs h
 obtain ⟨d,kvs,k,y,rfl,rfl,hd,hz,q⟩:=h
 cases rx
 cases rs with
 | cons rk rs=>
 cases rs with
 | cons ry rs=>
 cases rs
 obtain ⟨z,lo,vs,rel,dd⟩:=jfk I.hok hd
 refine call_meetsIn PySem.F.slot_dict_setdefault dd.typeIs PySem.F.entry_dict_setdefault (PySem.F.args_dict_setdefault_3 _ _ _) (kt_meets_setdefault (jY X.prog X.w) d (Zv rk) lo _) ⟨vs,dd,by rw [← rel.length];exact z,fun w' hw=>?_,fun hw h' dd' hs=>?_⟩
 ·rcases q with ⟨v0,hv,q⟩ | ⟨hv,q⟩
  ·obtain ⟨w2,hw2,rw2⟩:=RelO.some_of (v:=v0) (o:=valueAt vs k) (by rw [← hv];exact rel.val k)
   rw [hw] at hw2
   cases hw2
   exact ⟨v0,H,I.tok _,rw2,q⟩
  ·have:valueAt vs k=none:=RelO.none_of (by rw [← hv];exact rel.val k)
   rw [hw] at this
   cases this
 ·rcases q with ⟨v0,hv,q⟩ | ⟨hv,q⟩
  ·obtain ⟨w2,hw2,rw2⟩:=RelO.some_of (v:=v0) (o:=valueAt vs k) (by rw [← hv];exact rel.val k)
   rw [hw] at hw2
   cases hw2
  ·have he:∃ q,h'.get? d=some q:=let ⟨q,_,_,hq,_⟩:=dd';⟨q,hq⟩
   have hl:(qI kvs k y).length≤sizeLine:=by have:=qP kvs k y;omega
   exact ⟨y,_,jbr I (by rw [hd];exact True.intro) hs he (jdT hl lo (rel.put k ry) dd'),ry,q⟩
theorem Ke {X:Cx} (hc:X.calm=true):qH X (.builtin "sum") (fun xs H Q=>∃ (p:Addr) (ns:List Int),xs=[.ref p]∧SqL X.K H p (ns.map V.int)∧Q (.int ns.sum) H):=by
 intro pins s σ H xs us Q I r h
 obtain ⟨p,ns,rfl,hq,q⟩:=h
 obtain ⟨u,rfl,ru⟩:=yb r
 cases ru
 obtain ⟨its,rv,hp,hz⟩:=I.list hq
 have hI:IntsAre its ns:=Zz rv
 obtain ⟨xs,ex⟩:=hI.allInts.items
 refine sum_intListG (I.ok.hd hc) (by rw [← ex];exact hp.isList) fun h' tk t' hk=>⟨.int ns.sum,H,I.kept hk,⟨t',?_⟩,q⟩
 have e1:numsOf its=ns:=hI.numsOf
 have e2:numsOf (intItems xs).toList=numsOf its:=by rw [← ex]
 rw [nums_intItems] at e2
 rw [preSum_eq,List.take_of_length_le (by simp),e2,e1]
theorem je1:bootBuiltins "repr" = some (.builtin "repr"):=by decide +kernel
variable {X:Cx} {pins:List (Addr×Obj)} {s:Shared} {σ:St} {H:Hp}
theorem Vals.back:∀ {xs:List V} {us:List Value} {i:Nat} {u:Value},Vals xs us→us[i]?=some u→∃ x,xs[i]?=some x∧RelV x u
 | _,_,_,_,.nil,e=>by simp at e
 | _,_,0,_,.cons r _,e=>by simp at e;subst e;exact ⟨_,rfl,r⟩
 | _,_,i+1,_,.cons _ t,e=>by simp only [List.getElem?_cons_succ] at e ⊢;exact Vals.back t e
open Classical in
theorem isIn (I:Inv X pins σ H s) {n:Nat} {A:Around} {d:D} {ds:List D} {x:V} {v:Value} {xs:List V} {its:List Value} (hd:D.depthL ds≤n) (hA:A.units+n < cLine) (hx:Held H d x) (hxs:HeldL H ds xs) (rx:RelV x v) (rv:Vals xs its) :
  ∃ f:Value→Bool,(∀ u∈its,SeqAt.EqAt A s u v (f u))∧its.any f=decide (d∈ds):=by
 have l1:=hxs.length
 have l3:=rv.length
 have one:∀ (j:Nat) u,its[j]?=some u→∃ d' x',ds[j]?=some d'∧Held H d' x'∧RelV x' u:=by
  intro j u e
  obtain ⟨x',h1,h2⟩:=rv.back e
  have hj:j < ds.length:=by
   have:=(List.getElem?_eq_some_iff.mp h1).1
   omega
  obtain ⟨x'',g1,g2⟩:=hxs.get (List.getElem?_eq_getElem hj)
  rw [g1] at h1
  cases h1
  exact ⟨_,_,List.getElem?_eq_getElem hj,g2,h2⟩
 refine ⟨fun u=>decide (∃ x',RelV x' u∧Held H d x'),fun u hu=>?_,?_⟩
 ·obtain ⟨j,hj,e⟩:=List.mem_iff_getElem.mp hu
  obtain ⟨d',x',h1,h2,h3⟩:=one j u (List.getElem?_eq_some_iff.mpr ⟨hj,e⟩)
  have key:=jbp I n A d' d x' x u v (by have:=D.depthL_get h1;omega) hA h2 hx h3 rx
  have:dEq d' d=decide (∃ x',RelV x' u∧Held H d x'):=by
   rw [jbt]
   by_cases h:d'=d
   ·subst h
    rw [decide_eq_true rfl,decide_eq_true ⟨x',h3,h2⟩]
   ·rw [decide_eq_false h,decide_eq_false]
    rintro ⟨x2,g1,g2⟩
    rw [RelV.inj g1 h3] at g2
    exact h (yM h2 g2)
  rw [this] at key
  exact key
 ·apply Bool.eq_iff_iff.mpr
  rw [List.any_eq_true,decide_eq_true_iff]
  constructor
  ·rintro ⟨u,hu,h⟩
   obtain ⟨x2,g1,g2⟩:=of_decide_eq_true h
   obtain ⟨j,hj,e⟩:=List.mem_iff_getElem.mp hu
   obtain ⟨d',x',h1,h2,h3⟩:=one j u (List.getElem?_eq_some_iff.mpr ⟨hj,e⟩)
   rw [RelV.inj g1 h3] at g2
   rw [yM g2 h2]
   exact List.mem_iff_getElem?.mpr ⟨j,h1⟩
  ·intro h
   obtain ⟨j,hj⟩:=List.mem_iff_getElem?.mp h
   obtain ⟨x',g1,g2⟩:=hxs.get hj
   obtain ⟨u,g3,g4⟩:=rv.get g1
   exact ⟨u,List.mem_iff_getElem?.mpr ⟨j,g3⟩,decide_eq_true ⟨x',g4,g2⟩⟩
theorem jb1 (n:Nat) (hu:X.A.units+1+n < cLine):OpR X (compareOp .NotIn) (fun x y H Q=>∃ p xs d ds,y=.ref p∧H p=some (.lst xs)∧D.depthL ds≤n∧Held H d x∧HeldL H ds xs∧Q (.bl (!decide (d∈ds))) H):=by
 intro pins s σ H x y v u Q I rx ry h
 obtain ⟨p,xs,d,ds,rfl,hp,hd,hx,hxs,q⟩:=h
 cases ry
 obtain ⟨its,r,pl,hz⟩:=I.list (SqL.of hp)
 obtain ⟨f,h1,h2⟩:=isIn I (A:=X.A.in1) hd (by show X.A.units+1+n < cLine;exact hu) hx hxs rx r
 refine SeqAt.notIn_listAt f pl.isList (fun w hw=>h1 w (by simpa using hw)) ⟨.bl _,H,I,rfl,?_⟩
 rw [show its.toArray.any f=its.any f by simp,h2]
 exact q
theorem jdl (n:Nat) (hu:X.A.units+1+n < cLine):OpR X (compareOp .In) (fun x y H Q=>∃ p xs d ds,y=.ref p∧H p=some (.lst xs)∧D.depthL ds≤n∧Held H d x∧HeldL H ds xs∧Q (.bl (decide (d∈ds))) H):=by
 intro pins s σ H x y v u Q I rx ry h
 obtain ⟨p,xs,d,ds,rfl,hp,hd,hx,hxs,q⟩:=h
 cases ry
 obtain ⟨its,r,pl,hz⟩:=I.list (SqL.of hp)
 obtain ⟨f,h1,h2⟩:=isIn I (A:=X.A.in1) hd (by show X.A.units+1+n < cLine;exact hu) hx hxs rx r
 refine SeqAt.in_listAt f pl.isList (fun w hw=>h1 w (by simpa using hw)) ⟨.bl _,H,I,rfl,?_⟩
 rw [show its.toArray.any f=its.any f by simp,h2]
 exact q
end L2
namespace LW
open PySem L2
theorem zv {n:Nat} (h:n≤1000):n≤sizeLine:=Nat.le_of_lt (jx h)
theorem sm {n:Nat} (h:n.ble 1000=true):n≤sizeLine:=zv (Nat.le_of_ble_eq_true h)
theorem yL {H:Hp} {x:Int} {v:V} (h:Held H (.int x) v):v=.int x:=by unfold Held at h;exact h
theorem zp {H:Hp} {ds:List D} {v:V} (h:Held H (.tup ds) v):∃ a xs,v=.ref a∧H a=some (.tup xs)∧HeldL H ds xs:=by unfold Held at h;exact h
theorem jR {H:Hp} {vs:List V} (h:HeldL H [] vs):vs=[]:=by unfold HeldL at h;exact h
theorem jA {H:Hp} {d:D} {ds:List D} {vs:List V} (h:HeldL H (d :: ds) vs):∃ v r,vs=v :: r∧Held H d v∧HeldL H ds r:=by unfold HeldL at h;exact h
structure Ti where
 x:D
 y:D
 c:Int
def Ti.toD (t:Ti):D:=.tup [t.x,t.y,.int t.c]
def Ti.key (t:Ti):Str:=t.toD.py.shown
def Ti.turn (t:Ti):Ti:=⟨t.y,t.x,-1 - t.c⟩
structure TiOk (t:Ti):Prop where
 ok:OkD t.toD
 dep:t.toD.depth≤8
 big:t.toD.big≤100000
theorem Ti.toD_inj {t u:Ti} (h:t.toD=u.toD):t=u:=by
 unfold Ti.toD at h
 injection h with h
 injection h with h1 h
 injection h with h2 h
 injection h with h3 _
 injection h3 with h3
 cases t;cases u
 simp only at h1 h2 h3
 subst h1 h2 h3
 rfl
theorem jeS {t u:Ti} (ht:TiOk t) (hu:TiOk u) (h:t.key=u.key):t=u:=Ti.toD_inj (jbU ht.ok hu.ok h)
theorem jbe {t u:Ti} (ht:TiOk t) (hu:TiOk u):t.key=u.key↔t=u:=⟨jeS ht hu,fun e=>by rw [e]⟩
theorem kf {H:Hp} {t:Ti} {v:V} (h:Held H t.toD v):∃ a vx vy,v=.ref a∧H a=some (.tup [vx,vy,.int t.c])∧Held H t.x vx∧Held H t.y vy:=by
 obtain ⟨a,xs,rfl,ha,h1⟩:=zp h
 obtain ⟨v1,r1,rfl,e1,h2⟩:=jA h1
 obtain ⟨v2,r2,rfl,e2,h3⟩:=jA h2
 obtain ⟨v3,r3,rfl,e3,h4⟩:=jA h3
 cases jR h4
 cases yL e3
 exact ⟨a,v1,v2,rfl,ha,e1,e2⟩
theorem qw {H:Hp} {t:Ti} {a:Addr} {vx vy:V} (ha:H a=some (.tup [vx,vy,.int t.c])) (hx:Held H t.x vx) (hy:Held H t.y vy):Held H t.toD (.ref a):=jF ha (jg hx (jg hy (jg j3 ji)))
def jaT:Sp:=fun vs H Q _=>∃ (v:V) (t:Ti),vs=[v]∧Held H t.toD v∧TiOk t∧Q (.str t.key) H
def YX:Sp:=fun vs H Q _=>∃ (v:V) (t:Ti),vs=[v]∧Held H t.toD v∧∀ (p:Addr) (H':Hp),Same H H'→H p=none→Held H' t.turn.toD (.ref p)→Q (.ref p) H'
end LW
namespace L2
open PySem
def jg4 (K:W.Frag) (ta:TE):TT:=fun σ H Q=>ta σ H fun x H'=>∃ k,je6 K x H' k∧Q k H'
theorem Kj {X:Cx} {a:Expr} {ta:TE} {K:W.Frag} (ha:QE X a ta) (h:X.K=K:=by rfl) (he:∀ whole,isTrue a X.env whole=(do let v ← whole;standAt a.pos;holding [v] (truthy v)):=by intro _;rfl):QT X a (jg4 K ta):=by subst h;exact ⟨jc4 ha.h he⟩
theorem jfn {K:W.Frag} {H:Hp} {p:Addr} {xs:List V} (h:H p=some (.lst xs)):je6 K (.ref p) H (!xs.isEmpty):=.inl ⟨xs,SqL.of h,rfl⟩
theorem jg3 (xs:List V):qG xs (some 1) none=xs.drop 1:=by
 unfold qG HT.sIx
 cases xs with
 | nil=>simp
 | cons x xs=>simp
theorem jgh (xs:List V):qG xs none (some 1)=xs.take 1:=by
 unfold qG HT.sIx
 cases xs with
 | nil=>simp
 | cons x xs=>simp
end L2
namespace LW
open PySem L2
def top (i:Nat):Stmt:=PySem.Challenge.pw_outlineward_k51_papers.main.body.getD i (.Pass ⟨0,0,0,0⟩)
abbrev Ju:Stmt:=top 4
abbrev qL:Stmt:=top 1
abbrev zT:Stmt:=top 7
section
variable {P:Program} {w:World} {K:W.Frag} {mg:Str→Option Value} {base:Heap}
theorem jfS {f:Addr} {fd:FuncData} (F:Fun K "key_of" "key_of" Ju f fd) (Z_repr:mg "repr" = none):FnOk P w K mg base CX0 1 f fd ["tie"] jaT:=by
 have sc:FnScope ["tie"] ["tie"] (jk Ju):=fQ
 refine F.okZ sc (fun vs H Q E h=>?_) (fun cdv A outer s H vs Q E hr h=>?_)
 ·obtain ⟨v,t,rfl,_⟩:=h
  rfl
 obtain ⟨v,t,rfl,ht,hok,q⟩:=h
 refine ⟨_,(jl (ju (jM (jcs hr.gd (Nat.lt_of_le_of_lt (Nat.add_le_add_left (by decide:10≤64) _) hr.units)) (by rfl) Z_repr je1 (ja (zpv 0) jc)))),?_⟩
 try dsimp only [kZ]
 obtain ⟨a,vx,vy,rfl,ha,hx,hy⟩:=kf ht
 exact ⟨_,rfl,a,t.toD,rfl,ht,hok.dep,hok.ok,hok.big,q⟩
theorem jb2 {f:Addr} {fd:FuncData} (F:Fun K "turned_tie" "turned_tie" qL f fd):FnOk P w K mg base CX0 1 f fd ["tie"] YX:=by
 have sc:FnScope ["tie","x","y","c"] ["tie"] (jk qL):=fQ
 refine F.okZ sc (fun vs H Q E h=>?_) (fun cdv A outer s H vs Q E hr h=>?_)
 ·obtain ⟨v,t,rfl,_⟩:=h
  rfl
 obtain ⟨v,t,rfl,ht,q⟩:=h
 refine ⟨_,(jf (yr (zpv 0) (yt rfl (jU (jt (i:=1) sc.nd rfl oQ) (jU (jt (i:=2) sc.nd rfl oQ) (jU (jt (i:=3) sc.nd rfl oQ) zB)))))
   (jl (ju (jo (ja (zpv 2) (ja (zpv 1) (ja (jj kP (zC zD jb) (zpv 3)) jc))))))),?_⟩
 try dsimp only [kZ]
 obtain ⟨a,vx,vy,rfl,ha,hx,hy⟩:=kf ht
 refine ⟨_,rfl,a,_,rfl,SqT.of ha,rfl,_,_,rfl,_,_,rfl,_,_,rfl,rfl,?_⟩
 refine kD (σ':=[some (.ref a),some vx,some vy,some (.int t.c)]) rfl ?_
 refine ⟨_,rfl,_,rfl,_,rfl,_,rfl,_,_,rfl,rfl,sm rfl,fun p hp=>?_⟩
 have s1:=je hp (.tup [vy,vx,V.int (-1 - t.c)])
 exact q p _ s1 hp (qw (t:=t.turn) jd (hy.mono s1) (hx.mono s1))
end
abbrev tsD (ts:List Ti):List D:=ts.map Ti.toD
def ql (ts:List Ti):Bool:=!ts.isEmpty && decide (ts.map Ti.y=(ts.drop 1++ts.take 1).map Ti.x)
def Y0:Sp:=fun vs H Q _=>∃ (l:Addr) (xs:List V) (ts:List Ti),vs=[.ref l]∧H l=some (.lst xs)∧HeldL H (tsD ts) xs∧ts.length≤100∧(∀ t∈ts,t.toD.depth≤8)∧∀ H',Same H H'→Q (.bl (ql ts)) H'
theorem jJ {H:Hp}:∀ {ds ds':List D} {vs vs':List V},HeldL H ds vs→HeldL H ds' vs'→HeldL H (ds++ds') (vs++vs')
 | [],_,_,_,h1,h2=>by cases jR h1;exact h2
 | d :: ds,_,_,_,h1,h2=>by
  obtain ⟨v,r,rfl,e,h1⟩:=jA h1
  exact jg e (jJ h1 h2)
theorem ZB {H:Hp} {ds:List D} {vs:List V} (h:HeldL H ds vs):HeldL H (ds.drop 1) (vs.drop 1):=by
 cases ds with
 | nil=>cases jR h;exact ji
 | cons d ds=>obtain ⟨v,r,rfl,e,h1⟩:=jA h;exact h1
theorem ZA {H:Hp} {ds:List D} {vs:List V} (h:HeldL H ds vs):HeldL H (ds.take 1) (vs.take 1):=by
 cases ds with
 | nil=>cases jR h;exact ji
 | cons d ds=>obtain ⟨v,r,rfl,e,h1⟩:=jA h;exact jg e ji
theorem qe {ds:List D} {n:Nat} (h:∀ d∈ds,d.depth≤n):D.depthL ds≤n:=by
 induction ds with
 | nil=>exact Nat.zero_le _
 | cons d ds ih=>
  unfold D.depthL
  exact Nat.max_le.mpr ⟨h d List.mem_cons_self,ih fun e he=>h e (List.mem_cons_of_mem _ he)⟩
theorem jbQ {t:Ti} (h:t.toD.depth≤8):t.x.depth≤8∧t.y.depth≤8:=by
 unfold Ti.toD at h
 simp only [D.depth,D.depthL] at h
 omega
theorem zI {K:W.Frag} {H:Hp} {l p:Addr} {xs:List V} {ts:List Ti} {j:Int} {g:Ti→D} {gg:TG} {Q:VK} (hgg:gg=j4 0) (hp:H p=none) (hl:H l=some (.lst xs)) (hL:HeldL H (tsD ts) xs) (hz:ts.length≤100)
  (hg:∀ (t:Ti) (G:Hp) (v:V),Held G t.toD v→∃ a as y,v=.ref a∧G a=some (.tup as)∧atI as j=some y∧Held G (g t) y)
  (q:∀ (G:Hp) (ys:List V),Same H G→G p=some (.lst ys)→HeldL G (ts.map g) ys→Q (.ref p) G):qj (Itl K l) p gg yx (tOp (jc3 K) (ya 0) (tC (V.int j))) Q [none] (upd H p (.lst [])):=by
 subst hgg
 have hlen:=hL.length
 rw [List.length_map] at hlen
 refine zc (xs:=xs) (fun i σ' G'=>∃ u3,σ'=[u3]∧Same H G'∧∃ ys,G' p=some (.lst ys)∧HeldL G' ((ts.take i).map g) ys) ⟨none,rfl,je hp _,_,jd,ji⟩ ?_ ?_ ?_
 ·rintro i σ' G' _ ⟨u3,rfl,sG',_⟩
  exact SqL.of (sG' _ _ hl)
 ·rintro i x σ' G' hx ⟨u3,rfl,sG',ys,hy,hY⟩
  have hi:i < ts.length:=by have:=(List.getElem?_eq_some_iff.mp hx).1;omega
  obtain ⟨v,e1,e2⟩:=hL.get (j:=i) (d:=ts[i].toD) (by rw [List.getElem?_map,List.getElem?_eq_getElem hi];rfl)
  rw [hx] at e1
  cases e1
  obtain ⟨a,as,y,rfl,ha,hat,hG⟩:=hg ts[i] G' x (e2.mono sG')
  have hyl:=hY.length
  rw [List.length_map,List.length_take] at hyl
  unfold j4 yx
  refine zm ?_
  refine ⟨_,rfl,a,_,_,_,rfl,rfl,SqT.of ha,hat,ys,hy,jx (by omega),_,rfl,?_,_,jd,?_⟩
  ·intro c o e
   rw [jm (js e hp)]
   exact sG' _ _ e
  ·rw [List.take_succ,List.getElem?_eq_getElem hi,List.map_append]
   have tk:TK G' (upd G' p (.lst (ys++[y]))):=TK.upd hy (fun xs z=>by cases z)
   exact jJ (tk.heldL hY) (jg (tk.held hG) ji)
 ·rintro σ' G' ⟨u3,rfl,sG',ys,hy,hY⟩
  rw [← hlen,List.take_length] at hY
  exact q _ _ sG' hy hY
section
variable {P:Program} {w:World} {K:W.Frag} {mg:Str→Option Value} {base:Heap}
theorem jb9 {f:Addr} {fd:FuncData} (F:Fun K "closes" "closes" zT f fd):FnOk P w K mg base CX0 1 f fd ["ties"] Y0:=by
 have sc:FnScope ["ties"] ["ties"] (jk zT):=fQ
 refine F.okZ sc (fun vs H Q E h=>?_) (fun cdv A outer s H vs Q E hr h=>?_)
 ·obtain ⟨l,xs,ts,rfl,_⟩:=h
  rfl
 obtain ⟨l,xs,ts,rfl,hl,hL,hz,hd,q⟩:=h
 refine ⟨_,(jf (jN (KZ (Kj (K:=K) (zpv 0))) (jl (ju qu)) jD)
   (jl (ju (qt (jeD 8 (Nat.lt_of_le_of_lt (by rw [Nat.add_assoc];exact Nat.add_le_add_left (by decide:1+8≤64) _) hr.units)) (kF ["tie"] [] rfl (jS (sc:=jk zT) (N:=["ties"]) rfl rfl (by decide +kernel)) (jK (zpv 0)) (fun s H ex=>⟨(jt (i:=0) (show List.Nodup (["tie"]:List Str) by decide +kernel) rfl oQ),jV,(jh (qQ (K:=K)) (zpv 0) jb (fun _ _=>rfl))⟩)) (kF ["tie"] [] rfl (jS (sc:=jk zT) (N:=["ties"]) rfl rfl (by decide +kernel)) (jK (jj qz (qb yB (zpv 0) (qq jb) qr) (qb yB (zpv 0) qr (qq jb)))) (fun s H ex=>⟨(jt (i:=0) (show List.Nodup (["tie"]:List Str) by decide +kernel) rfl oQ),jV,(jh (qQ (K:=K)) (zpv 0) jb (fun _ _=>rfl))⟩)) (jB _))))),?_⟩
 refine kD (σ':=[some (.ref l)]) rfl ?_
 try dsimp only [kZ]
 have hlen:=hL.length
 rw [List.length_map] at hlen
 refine ⟨_,rfl,_,jfn hl,?_⟩
 have nv:∀ G,SqL K G l xs↔SqL K G l xs:=fun _=>Iff.rfl
 cases hx:xs with
 | nil=>
  subst hx
  have:ts=[]:=List.length_eq_zero_iff.mp (by simpa using hlen)
  subst this
  exact zm (q H (fun _ _ e=>e))
 | cons x0 xr=>
  have ne:ts.isEmpty=false:=by
   cases ts with
   | nil=>rw [hx] at hlen;simp at hlen
   | cons _ _=>rfl
  refine Zx ?_
  have gy:∀ (t:Ti) (G:Hp) (v:V),Held G t.toD v→∃ a as y,v=.ref a∧G a=some (.tup as)∧atI as 1=some y∧Held G t.y y:=fun t G v h=>by
   obtain ⟨a,vx,vy,rfl,ha,h1,h2⟩:=kf h
   exact ⟨a,_,vy,rfl,ha,rfl,h2⟩
  have gx:∀ (t:Ti) (G:Hp) (v:V),Held G t.toD v→∃ a as y,v=.ref a∧G a=some (.tup as)∧atI as 0=some y∧Held G t.x y:=fun t G v h=>by
   obtain ⟨a,vx,vy,rfl,ha,h1,h2⟩:=kf h
   exact ⟨a,_,vx,rfl,ha,rfl,h1⟩
  refine ⟨_,rfl,l,rfl,⟨_,SqL.of hl⟩,fun p hp=>?_⟩
  refine zI (g:=Ti.y) rfl hp hl hL hz gy fun G1 ys s1 e1 hY=>?_
  have n1:p≠l:=fun z=>by rw [z,hl] at hp;cases hp
  refine ⟨_,rfl,_,rfl,l,_,rfl,SqL.of (s1 _ _ hl),fun p2 hp2=>?_⟩
  rw [jg3]
  have s2:=je hp2 (.lst (xs.drop 1))
  have e2:upd G1 p2 (.lst (xs.drop 1)) p2=some (.lst (xs.drop 1)):=jd
  generalize upd G1 p2 (.lst (xs.drop 1))=G2 at *
  refine ⟨_,rfl,_,rfl,l,_,rfl,SqL.of (s2 _ _ (s1 _ _ hl)),fun p3 hp3=>?_⟩
  rw [jgh]
  have s3:=je hp3 (.lst (xs.take 1))
  have e3:upd G2 p3 (.lst (xs.take 1)) p3=some (.lst (xs.take 1)):=jd
  generalize upd G2 p3 (.lst (xs.take 1))=G3 at *
  refine ⟨p2,p3,_,_,rfl,rfl,s3 _ _ e2,e3,zv (by rw [List.length_drop,List.length_take];omega),fun p4 hp4=>?_⟩
  have s4:=je hp4 (.lst (xs.drop 1++xs.take 1))
  have e4:upd G3 p4 (.lst (xs.drop 1++xs.take 1)) p4=some (.lst (xs.drop 1++xs.take 1)):=jd
  generalize upd G3 p4 (.lst (xs.drop 1++xs.take 1))=G4 at *
  have s14:=s1.trans (s2.trans (s3.trans s4))
  have hL4:HeldL G4 (tsD (ts.drop 1++ts.take 1)) (xs.drop 1++xs.take 1):=by
   unfold tsD
   rw [List.map_append,List.map_drop,List.map_take]
   exact jJ (ZB (hL.mono s14)) (ZA (hL.mono s14))
  refine ⟨p4,rfl,⟨_,SqL.of e4⟩,fun p5 hp5=>?_⟩
  refine zI (g:=Ti.x) rfl hp5 e4 hL4 (by rw [List.length_append,List.length_drop,List.length_take];omega) gx fun G5 zs s5 e5 hZ=>?_
  refine ⟨p,p5,ys,zs,_,_,rfl,rfl,s5 _ _ (s4 _ _ (s3 _ _ (s2 _ _ e1))),e5,qe (fun d hd'=>?_),hY.mono (s2.trans (s3.trans (s4.trans s5))),hZ,?_⟩
  ·obtain ⟨t,ht,rfl⟩:=List.mem_map.mp hd'
   exact (jbQ (hd t ht)).2
  ·have:=q G5 (s14.trans s5)
   unfold ql at this
   rw [ne] at this
   exact this
end
end LW
namespace L2
open PySem PySem.Spec PyProof.Rows PySem.W
def SetAtS (prog:Program) (w:World) (h:Heap) (a:Addr) (led:Bool) (σ:List Str):Prop:=∃ (es:Array (Int×Value)) (ep:Nat) (t:SetTable),
 h.get? a=some { cls:=.type "set",dict:=none,data:=.set es ep t }∧ElemsOf (PySem.strKind prog w) es.toList∧(∃ l:List Str,StrsAre (es.toList.map (·.2)) l∧l.Perm σ)∧es.size < scanBound∧t.fits es.size=true∧TabOk led t
end L2
namespace PySem
end PySem
namespace L2
open PySem PySem.Spec PySem.Calls PyProof.Rows PySem.W
end L2
namespace PySem
end PySem
namespace L2
open PySem PySem.Spec PySem.Calls PyProof.Rows PySem.W
end L2
namespace PySem.F
end PySem.F
namespace L2
open PySem PySem.Spec PyProof.Rows PySem.W
section
variable {prog:Program} {w:World} {A:Around} {E:Value→Shared→Prop} {s:Shared}
theorem SetAtS.type {h:Heap} {a:Addr} {led:Bool} {σ:List Str} (x:SetAtS prog w h a led σ):∃ es ep t,h.get? a=some (yg es ep t)∧t.fits es.size=true:=by
 obtain ⟨es,ep,t,e,_,_,_,hf,_⟩:=x
 exact ⟨es,ep,t,e,hf⟩
end
theorem jab {X:Cx} {K:W.Frag} (h:X.K=K:=by rfl):OpR X (compareOp .In) (rIn K false):=by subst h;exact Kz
theorem lt_trans {a b c:List Nat} (h1:ltCps a b=true) (h2:ltCps b c=true):ltCps a c=true:=by
 induction a generalizing b c with
 | nil=>cases c with
  | nil=>cases b <;> simp [ltCps] at h1 h2
  | cons _ _=>rfl
 | cons x a ih=>
  cases b with
  | nil=>simp [ltCps] at h1
  | cons y b=>cases c with
   | nil=>simp [ltCps] at h2
   | cons z c=>
    simp only [ltCps,Bool.or_eq_true,Bool.and_eq_true,decide_eq_true_eq,beq_iff_eq] at h1 h2 ⊢
    rcases h1 with h1 | ⟨h1,h1'⟩
    ·rcases h2 with h2 | ⟨h2,h2'⟩
     ·left;omega
     ·left;omega
    ·rcases h2 with h2 | ⟨h2,h2'⟩
     ·left;omega
     ·right;exact ⟨by omega,ih h1' h2'⟩
end L2
namespace LW
open PySem L2
abbrev qZ:Stmt:=top 8
abbrev kL:Stmt:=top 6
def HdAt (H:Hp) (a:Addr) (ks:List Str):Prop:=∃ kvs,H a=some (.dK kvs)∧∀ k:Str,(jT kvs (.inr k)).isSome=decide (k∈ks)
def NdAt (H:Hp) (a:Addr) (cs:List (List Str×Str)):Prop:=∃ kvs,H a=some (.dK kvs)∧∀ k:Str,match jT kvs (.inr k) with
 | none=>∀ c∈cs,c.2≠k
 | some v=>∃ l gs,v=.ref l∧H l=some (.lst gs)∧gs.length=(cs.filter fun c=>decide (c.2=k)).length∧∀ (i:Nat) c,(cs.filter fun c=>decide (c.2=k))[i]?=some c→∃ g,gs[i]?=some (.ref g)∧H g=some (.lst (c.1.map V.str))
def isIn (ks ws:List Str) (k:Str):Bool:=decide (k∈ks) || decide (k∈ws)
def yN (ks ws:List Str) (cs:List (List Str×Str)) (k:Str):Bool:=isIn ks ws k || (cs.filter fun c=>decide (c.2=k)).any fun c=>c.1.all (isIn ks ws)
def Kt:Sp:=fun vs H Q _=>∃ (v:V) (t:Ti) (hd wl nd:Addr) (ks ws:List Str) (cs:List (List Str×Str)),vs=[v,.ref hd,.ref wl,.ref nd]∧Held H t.toD v∧TiOk t∧HdAt H hd ks∧H wl=some (.lst (ws.map V.str))∧NdAt H nd cs∧(∀ c∈cs,c.1.length≤100)∧
 ∀ H',Same H H'→Q (.bl (yN ks ws cs t.key)) H'
theorem Yp (k:Str) (ws:List Str):inV (.str k) (ws.map V.str)=decide (k∈ws):=by
 unfold inV
 induction ws with
 | nil=>simp
 | cons x ws ih=>
  rw [List.map_cons,List.any_cons,ih]
  show (decide (x=k) || _)=_
  by_cases h:x=k
  ·subst h;simp
  ·have h':k≠x:=fun z=>h z.symm
   simp [h,h']
theorem KO (ws:List Str):(ws.map V.str).all yO=true:=by
 rw [List.all_eq_true]
 intro x hx
 obtain ⟨y,_,rfl⟩:=List.mem_map.mp hx
 rfl
theorem HdAt.mono {H H':Hp} {a:Addr} {ks:List Str} (h:HdAt H a ks) (s:Same H H'):HdAt H' a ks:=by
 obtain ⟨kvs,h1,h2⟩:=h
 exact ⟨kvs,s _ _ h1,h2⟩
theorem HdAt.get {H:Hp} {a:Addr} {ks:List Str} (h:HdAt H a ks) (k:Str):∃ o,DGet H a (.str k) o∧o.isSome=decide (k∈ks):=by
 obtain ⟨kvs,h1,h2⟩:=h
 exact ⟨_,.inl ⟨kvs,.inr k,Rd.of h1,rfl,rfl⟩,h2 k⟩
section
variable {P:Program} {w:World} {K:W.Frag} {mg:Str→Option Value} {base:Heap}
theorem jeJ {f:Addr} {fd:FuncData} (F:Fun K "at_hand" "at_hand" qZ f fd) (B:Free0 mg) (F_key_of:Fn P w K mg base 1 "key_of" ["tie"] jaT):FnOk P w K mg base CX0 2 f fd ["tie","held","way","needed"] Kt:=by
 have sc:FnScope ["tie","held","way","needed","key","guards"] ["tie","held","way","needed"] (jk qZ):=fQ
 refine F.okZ sc (fun vs H Q E h=>?_) (fun cdv A outer s H vs Q E hr h=>?_)
 ·obtain ⟨v,t,hd,wl,nd,ks,ws,cs,rfl,_⟩:=h
  rfl
 obtain ⟨v,t,hd,wl,nd,ks,ws,cs,rfl,ht,hok,hH,hW,hN,hg,q⟩:=h
 have hu:(A.deeper (PyProof.Rows.envOfC "at_hand" (jk qZ) s.heap.objs.size f cdv)).units+1 < cLine:=by have:=hr.units;omega
 refine ⟨_,(jf (jp (i:=4) sc.nd rfl oQ (jw F_key_of hr (ja (zpv 0) jc)))
   (jf (jN (yV (jd8 (jaG hu (zpv 4) (zpv 1))) (zM (jq Kz (zpv 4) (zpv 2) rfl))).pt (jl (ju qu)) jD)
   (jf (yq PassesOwn.never rfl (jK (jbH hu (zpv 3) (zpv 4) (jC jc) ⟨rfl,rfl,rfl,rfl⟩)) (jt (i:=5) sc.nd rfl oQ) (jl (jN (yp (jM (ZN rfl) (by rfl) B.all_ jd2 (ja (kF ["guard"] [1,2] rfl (jS (sc:=jk qZ) (N:=["tie","held","way","needed","key","guards"]) rfl rfl (by decide +kernel)) (jK (zpv 5)) (fun s H ex=>⟨(jt (i:=0) (show List.Nodup (["guard","held","way"]:List Str) by decide +kernel) rfl oQ),jV,(jfl (jeb (jaG hu (zpv 0) (zpv 1))) (K1 (qt (jab (K:=K)) (zpv 0) (zpv 2) rfl)))⟩)) jc))) (jl (ju qu)) jD)))
   (jl (ju qu))))),?_⟩
 refine kD (σ':=[some v,some (.ref hd),some (.ref wl),some (.ref nd),none,none]) rfl ?_
 try dsimp only [kZ]
 refine jbi ?_
 intro _ _ _
 refine ⟨_,rfl,v,t,rfl,ht,hok,?_⟩
 refine kD (σ':=[some v,some (.ref hd),some (.ref wl),some (.ref nd),some (.str t.key),none]) rfl ?_
 obtain ⟨o,ho,eo⟩:=hH.get t.key
 refine ⟨_,rfl,_,rfl,hd,o,rfl,ho,_,rfl,?_⟩
 have qy:isIn ks ws t.key=true→Q (.bl true) H:=fun e=>by
  have:=q H (fun _ _ e=>e)
  unfold yN at this
  rw [e] at this
  exact this
 refine j6 (fun c=>zm (qy (by unfold isIn;rw [← eo,c];rfl))) (fun c1=>?_)
 refine ⟨_,rfl,_,rfl,wl,_,rfl,.inl (SqL.of hW),rfl,KO ws,_,rfl,?_⟩
 refine j6 (fun c=>qy (by
  have c:inV (.str t.key) (ws.map V.str)=true:=c
  rw [Yp] at c
  unfold isIn;rw [c,Bool.or_true])) (fun c2=>?_)
 have no:isIn ks ws t.key=false:=by
  have c2:¬ inV (.str t.key) (ws.map V.str)=true:=c2
  rw [Yp] at c2
  unfold isIn
  rw [← eo,Bool.eq_false_iff.mpr c1,Bool.eq_false_iff.mpr c2]
  rfl
 obtain ⟨kvs,hN1,hN2⟩:=hN
 refine ⟨_,rfl,nd,rfl,.inl ⟨kvs,Rd.of hN1⟩,_,rfl,sm rfl,fun p hp=>?_⟩
 have s1:=je hp (.lst [])
 have e1:upd H p (.lst []) p=some (.lst []):=jd
 generalize upd H p (.lst [])=H1 at *
 refine ⟨_,.inl ⟨kvs,.inr t.key,Rd.of (s1 _ _ hN1),rfl,rfl⟩,?_⟩
 have hk:=hN2 t.key
 have main:∃ (l:Addr) (gs:List V),(jT kvs (.inr t.key)).getD (.ref p)=.ref l∧H1 l=some (.lst gs)∧gs.length=(cs.filter fun c=>decide (c.2=t.key)).length∧∀ (i:Nat) c,(cs.filter fun c=>decide (c.2=t.key))[i]?=some c→∃ g,gs[i]?=some (.ref g)∧H1 g=some (.lst (c.1.map V.str)):=by
  cases hv:jT kvs (.inr t.key) with
  | none=>
   rw [hv] at hk
   have e:(cs.filter fun c=>decide (c.2=t.key))=[]:=List.filter_eq_nil_iff.mpr fun c hc z=>hk c hc (of_decide_eq_true z)
   rw [e]
   exact ⟨p,[],rfl,e1,rfl,fun i c z=>by simp at z⟩
  | some v0=>
   rw [hv] at hk
   obtain ⟨l,gs,rfl,h1,h2,h3⟩:=hk
   refine ⟨l,gs,rfl,s1 _ _ h1,h2,fun i c z=>?_⟩
   obtain ⟨g,z1,z2⟩:=h3 i c z
   exact ⟨g,z1,s1 _ _ z2⟩
 obtain ⟨l,gs,el,hl,hlen,hit⟩:=main
 have hC:∀ c∈(cs.filter fun c=>decide (c.2=t.key)),c.1.length≤100:=fun c hc=>hg c (List.mem_filter.mp hc).1
 have qn:∀ G,Same H G→Q (.bl ((cs.filter fun c=>decide (c.2=t.key)).any fun c=>c.1.all (isIn ks ws))) G:=fun G sG=>by
  have:=q G sG
  unfold yN at this
  rw [no] at this
  exact this
 generalize (cs.filter fun c=>decide (c.2=t.key))=C at *
 rw [el]
 refine ⟨l,rfl,⟨_,SqL.of hl⟩,?_⟩
 refine J9 (xs:=gs) (fun i σ G=>∃ u5,σ=[some v,some (.ref hd),some (.ref wl),some (.ref nd),some (.str t.key),u5]∧Same H1 G∧(C.take i).any (fun c=>c.1.all (isIn ks ws))=false) ⟨none,rfl,(fun _ _ e=>e),rfl⟩ ?_ ?_ ?_
 ·rintro i σ G _ ⟨u5,rfl,sG,_⟩
  exact SqL.of (sG _ _ hl)
 ·rintro i x σ G hx ⟨u5,rfl,sG,hany⟩
  have hi:i < C.length:=by have:=(List.getElem?_eq_some_iff.mp hx).1;omega
  obtain ⟨g,g1,g2⟩:=hit i C[i] (List.getElem?_eq_getElem hi)
  rw [hx] at g1
  cases g1
  have hc100:=hC C[i] (List.getElem_mem hi)
  have etk:C.take (i+1)=C.take i++[C[i]]:=by rw [List.take_succ,List.getElem?_eq_getElem hi];rfl
  have hCm:=List.getElem_mem hi
  generalize C[i]=c at *
  refine gQ ?_
  refine ⟨_,rfl,g,rfl,⟨_,SqL.of (sG _ _ g2)⟩,fun p2 hp2=>?_⟩
  have hH1:=(hH.mono s1).mono sG
  refine zc (xs:=c.1.map V.str) (fun j σ' G'=>∃ u,σ'=[u,some (.ref hd),some (.ref wl)]∧Same G G'∧G' p2=some (.lst (((c.1.take j).map (isIn ks ws)).map V.bl))) ⟨none,rfl,je hp2 _,jd⟩ ?_ ?_ ?_
  ·rintro j σ' G' _ ⟨u,rfl,sG',_⟩
   exact SqL.of (sG' _ _ (sG _ _ g2))
  ·rintro j y σ' G' hy ⟨u,rfl,sG',hG'⟩
   have hj:j < c.1.length:=by have:=(List.getElem?_eq_some_iff.mp hy).1;rw [List.length_map] at this;exact this
   rw [List.getElem?_map,List.getElem?_eq_getElem hj] at hy
   cases hy
   unfold j4 yx
   refine zm ?_
   obtain ⟨o2,ho2,eo2⟩:=(hH1.mono sG').get c.1[j]
   refine ⟨_,rfl,_,rfl,hd,o2,rfl,ho2,_,rfl,?_⟩
   have step:∀ b:Bool,b=isIn ks ws c.1[j]→∃ ys,G' p2=some (.lst ys)∧ys.length < sizeLine∧∃ u,[some (V.str c.1[j]),some (.ref hd),some (.ref wl)]=[u,some (.ref hd),some (.ref wl)]∧Same G (upd G' p2 (.lst (ys++[.bl b])))∧upd G' p2 (.lst (ys++[.bl b])) p2=some (.lst (((c.1.take (j+1)).map (isIn ks ws)).map V.bl)):=by
    intro b hb
    refine ⟨_,hG',jx (by rw [List.length_map,List.length_map,List.length_take];omega),_,rfl,?_,?_⟩
    ·intro d o e
     rw [jm (js e hp2)]
     exact sG' _ _ e
    ·rw [jd,List.take_succ,List.getElem?_eq_getElem hj,hb,List.map_append,List.map_append]
     rfl
   refine j6 (fun cc=>step true ?_) (fun cc=>?_)
   ·unfold isIn;rw [← eo2,cc];rfl
   ·refine ⟨_,rfl,_,rfl,wl,_,rfl,.inl (SqL.of (sG' _ _ (sG _ _ (s1 _ _ hW)))),rfl,KO ws,step _ ?_⟩
    show inV _ _=_
    rw [Yp]
    unfold isIn
    rw [← eo2,Bool.eq_false_iff.mpr cc,Bool.false_or]
  ·rintro σ' G' ⟨u,rfl,sG',hG'⟩
   rw [List.length_map,List.take_length] at hG'
   refine ⟨p2,_,rfl,SqL.of hG',_,rfl,?_⟩
   have ea:(c.1.map (isIn ks ws)).all id=c.1.all (isIn ks ws):=by rw [List.all_map];rfl
   refine j6 (fun cc=>?_) (fun cc=>?_)
   ·have cc:(c.1.map (isIn ks ws)).all id=true:=cc
    rw [ea] at cc
    have:=qn G' (s1.trans (sG.trans sG'))
    rw [List.any_eq_true.mpr ⟨c,hCm,cc⟩] at this
    exact this
   ·have cc:¬ (c.1.map (isIn ks ws)).all id=true:=cc
    rw [ea] at cc
    refine ⟨_,rfl,sG.trans sG',?_⟩
    rw [etk,List.any_append,hany,Bool.false_or,List.any_cons,List.any_nil,Bool.or_false]
    exact Bool.eq_false_iff.mpr cc
 ·rintro σ G ⟨u5,rfl,sG,hany⟩
  rw [hlen,List.take_length] at hany
  have:=qn G (s1.trans sG)
  rw [hany] at this
  exact this
end
def Jk (ks ws:List Str) (cs:List (List Str×Str)) (ts:List Ti):Bool:=ql ts && (decide ((ts.map Ti.c).sum < 0) && ts.all fun t=>yN ks ws cs t.key)
def jcQ:Sp:=fun vs H Q _=>∃ (tl hd wl nd:Addr) (xs:List V) (ts:List Ti) (ks ws:List Str) (cs:List (List Str×Str)),vs=[.ref tl,.ref hd,.ref wl,.ref nd]∧H tl=some (.lst xs)∧HeldL H (tsD ts) xs∧ts.length≤100∧(∀ t∈ts,TiOk t)∧HdAt H hd ks∧H wl=some (.lst (ws.map V.str))∧NdAt H nd cs∧(∀ c∈cs,c.1.length≤100)∧
 ∀ H',Same H H'→Q (.bl (Jk ks ws cs ts)) H'
theorem NdAt.mono {H H':Hp} {a:Addr} {cs:List (List Str×Str)} (h:NdAt H a cs) (s:Same H H'):NdAt H' a cs:=by
 obtain ⟨kvs,h1,h2⟩:=h
 refine ⟨kvs,s _ _ h1,fun k=>?_⟩
 have:=h2 k
 cases hv:jT kvs (.inr k) with
 | none=>rw [hv] at this;exact this
 | some v=>
  rw [hv] at this
  obtain ⟨l,gs,e,z1,z2,z3⟩:=this
  refine ⟨l,gs,e,s _ _ z1,z2,fun i c z=>?_⟩
  obtain ⟨g,y1,y2⟩:=z3 i c z
  exact ⟨g,y1,s _ _ y2⟩
theorem qD {H:Hp} {ns:List Int}:∀ {vs:List V},HeldL H (ns.map D.int) vs→vs=ns.map V.int:=by
 induction ns with
 | nil=>intro vs h;exact jR h
 | cons n ns ih=>
  intro vs h
  obtain ⟨v,r,rfl,e,h2⟩:=jA (show HeldL H (D.int n :: ns.map D.int) vs from h)
  cases yL e
  rw [ih h2,List.map_cons]
section
variable {P:Program} {w:World} {K:W.Frag} {mg:Str→Option Value} {base:Heap}
theorem jeG {f:Addr} {fd:FuncData} (F:Fun K "ring_holds" "ring_holds" kL f fd) (B:Free0 mg) (Z_sum:mg "sum" = none) (F_closes:Fn P w K mg base 1 "closes" ["ties"] Y0) (F_at_hand:Fn P w K mg base 2 "at_hand" ["tie","held","way","needed"] Kt):FnOk P w K mg base CX0 3 f fd ["ties","held","way","needed"] jcQ:=by
 have sc:FnScope ["ties","held","way","needed"] ["ties","held","way","needed"] (jk kL):=fQ
 refine F.okZ sc (fun vs H Q E h=>?_) (fun cdv A outer s H vs Q E hr h=>?_)
 ·obtain ⟨tl,hd,wl,nd,xs,ts,ks,ws,cs,rfl,_⟩:=h
  rfl
 obtain ⟨tl,hd,wl,nd,xs,ts,ks,ws,cs,rfl,hT,hL,hz,hok,hH,hW,hN,hg,q⟩:=h
 refine ⟨_,(jl (ju (K2 (jw F_closes hr (ja (zpv 0) jc)) (K2 (qt ja5 (jM (Ke rfl) (by rfl) Z_sum jav (ja (kF ["tie"] [] rfl (jS (sc:=jk kL) (N:=["ties","held","way","needed"]) rfl rfl (by decide +kernel)) (jK (zpv 0)) (fun s H ex=>⟨(jt (i:=0) (show List.Nodup (["tie"]:List Str) by decide +kernel) rfl oQ),jV,(jh (qQ (K:=K)) (zpv 0) jb (fun _ _=>rfl))⟩)) jc)) jb (jB _)) (K1 (jM (ZN rfl) (by rfl) B.all_ jd2 (ja (kF ["tie"] [1,2,3] rfl (jS (sc:=jk kL) (N:=["ties","held","way","needed"]) rfl rfl (by decide +kernel)) (jK (zpv 0)) (fun s H ex=>⟨(jt (i:=0) (show List.Nodup (["tie","held","way","needed"]:List Str) by decide +kernel) rfl oQ),jV,(jw F_at_hand hr (ja (zpv 0) (ja (zpv 1) (ja (zpv 2) (ja (zpv 3) jc)))))⟩)) jc))))))),?_⟩
 refine kD (σ':=[some (.ref tl),some (.ref hd),some (.ref wl),some (.ref nd)]) rfl ?_
 try dsimp only [kZ]
 have hlen:=hL.length
 rw [List.length_map] at hlen
 refine ⟨_,rfl,tl,xs,ts,rfl,hT,hL,hz,fun t ht=>(hok t ht).dep,fun H1 s1=>⟨_,rfl,?_⟩⟩
 have q1:∀ G,Same H1 G→Q (.bl (Jk ks ws cs ts)) G:=fun G sG=>q G (s1.trans sG)
 unfold Jk at q1
 cases hcl:ql ts with
 | false=>rw [hcl] at q1;exact Zx (q1 H1 fun _ _ e=>e)
 | true=>
  rw [hcl] at q1
  refine zm ?_
  refine ⟨_,rfl,tl,rfl,⟨_,SqL.of (s1 _ _ hT)⟩,fun p hp=>?_⟩
  refine zI (g:=fun t=>.int t.c) rfl hp (s1 _ _ hT) (hL.mono s1) hz (fun t G v h=>?_) fun G1 ys s2 e1 hY=>?_
  ·obtain ⟨a,vx,vy,rfl,ha,h1,h2⟩:=kf h
   exact ⟨a,_,_,rfl,ha,rfl,j3⟩
  have hY':ys=(ts.map Ti.c).map V.int:=qD (by rw [List.map_map];exact hY)
  subst hY'
  refine ⟨p,_,rfl,SqL.of e1,_,_,rfl,rfl,_,rfl,?_⟩
  refine j6 (fun c=>?_) (fun c=>?_)
  ·have s12:=s1.trans s2
   have c:decide ((ts.map Ti.c).sum < 0)=true:=c
   rw [c] at q1
   refine ⟨_,rfl,tl,rfl,⟨_,SqL.of (s12 _ _ hT)⟩,fun p2 hp2=>?_⟩
   refine zc (xs:=xs) (fun j σ' G'=>∃ u,σ'=[u,some (.ref hd),some (.ref wl),some (.ref nd)]∧Same G1 G'∧G' p2=some (.lst (((ts.take j).map fun t=>yN ks ws cs t.key).map V.bl))) ⟨none,rfl,je hp2 _,jd⟩ ?_ ?_ ?_
   ·rintro j σ' G' _ ⟨u,rfl,sG',_⟩
    exact SqL.of (sG' _ _ (s12 _ _ hT))
   ·rintro j x σ' G' hx ⟨u,rfl,sG',hG'⟩
    have hj:j < ts.length:=by have:=(List.getElem?_eq_some_iff.mp hx).1;omega
    obtain ⟨v,e3,e4⟩:=hL.get (j:=j) (d:=ts[j].toD) (by rw [List.getElem?_map,List.getElem?_eq_getElem hj];rfl)
    rw [hx] at e3
    cases e3
    have sA:=s12.trans sG'
    unfold j4 yx
    refine zm ?_
    refine ⟨_,rfl,_,rfl,_,rfl,_,rfl,x,ts[j],hd,wl,nd,ks,ws,cs,rfl,e4.mono sA,hok _ (List.getElem_mem hj),hH.mono sA,sA _ _ hW,hN.mono sA,hg,fun G2 s5=>?_⟩
    refine ⟨_,s5 _ _ hG',jx (by rw [List.length_map,List.length_map,List.length_take];omega),_,rfl,?_,?_⟩
    ·intro d o e
     rw [jm (js e hp2)]
     exact s5 _ _ (sG' _ _ e)
    ·rw [jd,List.take_succ,List.getElem?_eq_getElem hj,List.map_append,List.map_append]
     rfl
   ·rintro σ' G' ⟨u,rfl,sG',hG'⟩
    rw [← hlen,List.take_length] at hG'
    refine ⟨p2,_,rfl,SqL.of hG',?_⟩
    have ea:(ts.map fun t=>yN ks ws cs t.key).all id=ts.all fun t=>yN ks ws cs t.key:=by rw [List.all_map];rfl
    rw [ea]
    exact q1 G' (s2.trans sG')
  ·have c:decide ((ts.map Ti.c).sum < 0)=false:=Bool.eq_false_iff.mpr c
   rw [c] at q1
   exact q1 G1 s2
end
abbrev ko:Stmt:=top 5
abbrev Cla:Type:=List Ti×Ti
def clD (c:Cla):D:=.tup [.tup (tsD c.1),c.2.toD]
def clK (c:Cla):List Str×Str:=(c.1.map Ti.key,c.2.key)
structure ClaOk (c:Cla):Prop where
 gs:∀ t∈c.1,TiOk t
 t:TiOk c.2
 few:c.1.length≤100
def YZ:Sp:=fun vs H Q _=>∃ (l:Addr) (xs:List V) (cls:List Cla),vs=[.ref l]∧H l=some (.lst xs)∧HeldL H (cls.map clD) xs∧cls.length≤900∧(∀ c∈cls,ClaOk c)∧∀ (d:Addr) (H':Hp),Same H H'→H d=none→NdAt H' d (cls.map clK)→Q (.ref d) H'
abbrev fl (cs:List (List Str×Str)) (k:Str):List (List Str×Str):=cs.filter fun c=>decide (c.2=k)
structure NV (H G:Hp) (kvs:List (Key×V)) (cs:List (List Str×Str)):Prop where
 no:∀ k:Str,jT kvs (.inr k)=none→∀ c∈cs,c.2≠k
 yes:∀ (k:Str) v,jT kvs (.inr k)=some v→∃ l gs,v=.ref l∧H l=none∧G l=some (.lst gs)∧gs.length=(fl cs k).length∧∀ (i:Nat) c,(fl cs k)[i]?=some c→∃ g,gs[i]?=some (.ref g)∧G g=some (.lst (c.1.map V.str))∧∀ (k2:Str) l2,jT kvs (.inr k2)=some (.ref l2)→g≠l2
 one:∀ (k k2:Str) l,jT kvs (.inr k)=some (.ref l)→jT kvs (.inr k2)=some (.ref l)→k=k2
theorem NV.at {H G:Hp} {d:Addr} {kvs:List (Key×V)} {cs:List (List Str×Str)} (N:NV H G kvs cs) (hd:G d=some (.dK kvs)):NdAt G d cs:=by
 refine ⟨kvs,hd,fun k=>?_⟩
 cases hv:jT kvs (.inr k) with
 | none=>exact N.no k hv
 | some v=>
  obtain ⟨l,gs,e,_,h1,h2,h3⟩:=N.yes k v hv
  refine ⟨l,gs,e,h1,h2,fun i c z=>?_⟩
  obtain ⟨g,z1,z2,_⟩:=h3 i c z
  exact ⟨g,z1,z2⟩
theorem NV.new {H G G1:Hp} {d p:Addr} {kvs:List (Key×V)} {cs:List (List Str×Str)} {key:Str} (N:NV H G kvs cs) (hd:G d=some (.dK kvs)) (hv:jT kvs (.inr key)=none) (hp:G p=none) (hHp:H p=none) (e1:G1 p=some (.lst [])) (k:∀ b o,b≠d→G b=some o→G1 b=some o):NV H G1 (qI kvs (.inr key) (.ref p)) cs:=by
 have pv:∀ j:Str,jT (qI kvs (.inr key) (.ref p)) (.inr j)=if j=key then some (.ref p) else jT kvs (.inr j):=fun j=>by
  rw [JI]
  by_cases h:j=key
  ·rw [if_pos h,if_pos (by rw [h])]
  ·rw [if_neg h,if_neg (fun z=>h (by injection z))]
 have nd:∀ l xs,G l=some (.lst xs)→l≠d:=fun l xs e z=>by rw [z,hd] at e;cases e
 refine ⟨fun j hj=>?_,fun j v hj=>?_,fun j j2 l h1 h2=>?_⟩
 ·rw [pv] at hj
  split at hj
  ·cases hj
  ·exact N.no j hj
 ·rw [pv] at hj
  split at hj
  ·rename_i ej
   cases hj
   have e:fl cs j=[]:=List.filter_eq_nil_iff.mpr fun c hc z=>N.no key hv c hc (by rw [← ej];exact of_decide_eq_true z)
   rw [e]
   exact ⟨p,[],rfl,hHp,e1,rfl,fun i c z=>by simp at z⟩
  ·obtain ⟨l,gs,e,h0,h1,h2,h3⟩:=N.yes j v hj
   refine ⟨l,gs,e,h0,k _ _ (nd _ _ h1) h1,h2,fun i c z=>?_⟩
   obtain ⟨g,z1,z2,z3⟩:=h3 i c z
   refine ⟨g,z1,k _ _ (nd _ _ z2) z2,fun j2 l2 hj2=>?_⟩
   rw [pv] at hj2
   split at hj2
   ·cases hj2
    intro z;rw [z,hp] at z2;cases z2
   ·exact z3 j2 l2 hj2
 ·have no:∀ j,jT kvs (.inr j)=some (.ref p)→False:=fun j hj=>by
   obtain ⟨l,gs,e,_,h1,_⟩:=N.yes j _ hj
   cases e
   rw [hp] at h1;cases h1
  rw [pv] at h1 h2
  split at h1 <;> split at h2
  ·rename_i a b;rw [a,b]
  ·cases h1;exact (no _ h2).elim
  ·cases h2;exact (no _ h1).elim
  ·exact N.one j j2 l h1 h2
theorem NV.more {H G G3:Hp} {d l p2:Addr} {kvs kv0:List (Key×V)} {cs:List (List Str×Str)} {key:Str} {gs:List V} {ks:List Str} (N:NV H G kvs cs) (hd:G d=some (.dK kv0)) (hv:jT kvs (.inr key)=some (.ref l)) (hl:G l=some (.lst gs)) (hp2:G p2=none) (k:∀ b o,b≠l→b≠d→G b=some o→G3 b=some o)
  (e1:G3 l=some (.lst (gs++[.ref p2]))) (e2:G3 p2=some (.lst (ks.map V.str))):NV H G3 kvs (cs++[(ks,key)]):=by
 have nd:∀ l xs,G l=some (.lst xs)→l≠d:=fun l xs e z=>by rw [z,hd] at e;cases e
 have fa:∀ j,fl (cs++[(ks,key)]) j=fl cs j++if key=j then [(ks,key)] else []:=fun j=>by
  unfold fl
  rw [List.filter_append]
  congr 1
  by_cases h:key=j
  ·rw [if_pos h,List.filter_cons,if_pos (decide_eq_true h),List.filter_nil]
  ·rw [if_neg h,List.filter_cons,if_neg (by simpa using h),List.filter_nil]
 refine ⟨fun j hj c hc=>?_,fun j v hj=>?_,N.one⟩
 ·rcases List.mem_append.mp hc with hc | hc
  ·exact N.no j hj c hc
  ·cases List.mem_singleton.mp hc
   intro z
   rw [← z,hv] at hj;cases hj
 ·obtain ⟨l',gs',e,h0,h1,h2,h3⟩:=N.yes j v hj
  subst e
  rw [fa]
  by_cases h:key=j
  ·subst h
   rw [hv] at hj
   cases hj
   rw [hl] at h1
   cases h1
   rw [if_pos rfl]
   refine ⟨l,_,rfl,h0,e1,by rw [List.length_append,List.length_append,h2];rfl,fun i c z=>?_⟩
   rcases Nat.lt_or_ge i (fl cs key).length with hi | hi
   ·rw [List.getElem?_append_left hi] at z
    obtain ⟨g,z1,z2,z3⟩:=h3 i c z
    exact ⟨g,by rw [List.getElem?_append_left (by omega)];exact z1,k _ _ (z3 key l hv) (nd _ _ z2) z2,z3⟩
   ·rw [List.getElem?_append_right hi] at z
    have hi0:i - (fl cs key).length=0:=by
     have:=(List.getElem?_eq_some_iff.mp z).1
     simp only [List.length_cons,List.length_nil] at this
     omega
    rw [hi0] at z
    cases z
    refine ⟨p2,by rw [List.getElem?_append_right (by omega),show i - gs.length=0 by omega];rfl,e2,fun k2 l2 hk2 z=>?_⟩
    obtain ⟨l3,g3,e3,_,y1,_⟩:=N.yes k2 _ hk2
    cases e3
    rw [← z,hp2] at y1;cases y1
  ·rw [if_neg h,List.append_nil]
   have nl:l'≠l:=fun z=>h (N.one key j l hv (by rw [← z];exact hj))
   refine ⟨l',gs',rfl,h0,k _ _ nl (nd _ _ h1) h1,h2,fun i c z=>?_⟩
   obtain ⟨g,z1,z2,z3⟩:=h3 i c z
   exact ⟨g,z1,k _ _ (z3 key l hv) (nd _ _ z2) z2,z3⟩
theorem jas {H:Hp} {c:Cla} {v:V} (h:Held H (clD c) v):∃ a b gs vt,v=.ref a∧H a=some (.tup [.ref b,vt])∧H b=some (.tup gs)∧HeldL H (tsD c.1) gs∧Held H c.2.toD vt:=by
 obtain ⟨a,xs,rfl,ha,h1⟩:=zp h
 obtain ⟨v1,r1,rfl,e1,h2⟩:=jA h1
 obtain ⟨v2,r2,rfl,e2,h3⟩:=jA h2
 cases jR h3
 obtain ⟨b,gs,rfl,hb,hgs⟩:=zp e1
 exact ⟨a,b,gs,v2,rfl,ha,hb,hgs,e2⟩
section
variable {P:Program} {w:World} {K:W.Frag} {mg:Str→Option Value} {base:Heap}
theorem jb7 {f:Addr} {fd:FuncData} (F:Fun K "guards_by_tie" "guards_by_tie" ko f fd) (B:Free0 mg) (F_key_of:Fn P w K mg base 1 "key_of" ["tie"] jaT):FnOk P w K mg base CX0 2 f fd ["clauses"] YZ:=by
 have sc:FnScope ["clauses","told","guards","tie"] ["clauses"] (jk ko):=fQ
 refine F.okZ sc (fun vs H Q E h=>?_) (fun cdv A outer s H vs Q E hr h=>?_)
 ·obtain ⟨l,xs,cls,rfl,_⟩:=h
  rfl
 obtain ⟨l,xs,cls,rfl,hl,hL,hz,hok,q⟩:=h
 refine ⟨_,(jf (jp (i:=1) sc.nd rfl oQ jbG)
   (jf (yq PassesOwn.never rfl (jK (zpv 0)) (yt rfl (jU (jt (i:=2) sc.nd rfl oQ) (jU (jt (i:=3) sc.nd rfl oQ) zB))) (jl (jZ (kN PySem.F.plainAttrs_list PySem.F.slot_list_append PySem.F.type_list_append jO (kN PySem.F.plainAttrs_dict PySem.F.slot_dict_setdefault PySem.F.type_dict_setdefault jcc (zpv 1) (ja (jw F_key_of hr (ja (zpv 3) jc)) (ja (jC jc) jc))) (ja (kF ["guard"] [] rfl (jS (sc:=jk ko) (N:=["clauses","told","guards","tie"]) rfl rfl (by decide +kernel)) (jd9 (zpv 2)) (fun s H ex=>⟨(jt (i:=0) (show List.Nodup (["guard"]:List Str) by decide +kernel) rfl oQ),jV,(jw F_key_of hr (ja (zpv 0) jc))⟩)) jc)))))
   (jl (ju (zpv 1))))),?_⟩
 try dsimp only [kZ]
 refine jdD ?_
 intro _ _
 have hlen:=hL.length
 rw [List.length_map] at hlen
 refine kD (σ':=[some (.ref l),none,none,none]) rfl ?_
 intro d hd
 have s1:=je hd (.dK [])
 have e1:upd H d (.dK []) d=some (.dK []):=jd
 generalize upd H d (.dK [])=H1 at *
 refine gQ ?_
 refine ⟨_,rfl,l,rfl,⟨_,SqL.of (s1 _ _ hl)⟩,?_⟩
 refine J9 (xs:=xs) (fun i σ G=>∃ u2 u3 kvs,σ=[some (.ref l),some (.ref d),u2,u3]∧Same H G∧G d=some (.dK kvs)∧kvs.length≤i∧NV H G kvs ((cls.take i).map clK)) ⟨none,none,[],rfl,s1,e1,Nat.le_refl _,fun k _ c hc=>(by cases hc),fun k v h=>(by cases h),fun k k2 l h=>(by cases h)⟩ ?_ ?_ ?_
 ·rintro i σ G _ ⟨u2,u3,kvs,rfl,sG,_⟩
  exact SqL.of (sG _ _ hl)
 ·rintro i x σ G hx ⟨u2,u3,kvs,rfl,sG,hGd,hkz,N⟩
  have hi:i < cls.length:=by have:=(List.getElem?_eq_some_iff.mp hx).1;omega
  obtain ⟨v,e3,e4⟩:=hL.get (j:=i) (d:=clD cls[i]) (by rw [List.getElem?_map,List.getElem?_eq_getElem hi];rfl)
  rw [hx] at e3
  cases e3
  have etk:(cls.take (i+1)).map clK=(cls.take i).map clK++[clK cls[i]]:=by rw [List.take_succ,List.getElem?_eq_getElem hi,List.map_append];rfl
  have hc:=hok cls[i] (List.getElem_mem hi)
  generalize cls[i]=c at *
  obtain ⟨a,b,gs,vt,rfl,ha,hb,hgs,ht⟩:=jas e4
  refine ⟨a,_,rfl,SqT.of (sG _ _ ha),rfl,_,_,rfl,_,_,rfl,rfl,?_⟩
  refine kD (σ':=[some (.ref l),some (.ref d),some (.ref b),some vt]) rfl ?_
  have ok1:kvs.length < sizeLine:=jx (by omega)
  refine ⟨_,rfl,.inr (.inr (.inl ⟨rfl,.inl ⟨kvs,hGd⟩⟩)),_,rfl,vt,c.2,rfl,ht.mono sG,hc.t,sm rfl,fun p hp=>?_⟩
  have s2:=je hp (.lst [])
  have e2:upd G p (.lst []) p=some (.lst []):=jd
  generalize upd G p (.lst [])=G1 at *
  refine ⟨d,kvs,.inr c.2.key,.ref p,rfl,rfl,s2 _ _ hGd,ok1,?_⟩
  have hHp:H p=none:=sG.free hp
  have spl:∃ (lo:Addr) (G2:Hp) (kvs2:List (Key×V)) (gs2:List V),Same H G2∧(∀ b o,b≠d→G1 b=some o→G2 b=some o)∧G2 d=some (.dK kvs2)∧kvs2.length≤i+1∧NV H G2 kvs2 ((cls.take i).map clK)∧jT kvs2 (.inr c.2.key)=some (.ref lo)∧G2 lo=some (.lst gs2)∧gs2.length≤i∧H lo=none∧
    ((jT kvs (.inr c.2.key)=some (.ref lo)∧G1=G2)∨(jT kvs (.inr c.2.key)=none∧p=lo∧upd G1 d (.dK (qI kvs (.inr c.2.key) (.ref p)))=G2)):=by
   have N1:NV H G1 kvs ((cls.take i).map clK):=by
    refine ⟨N.no,fun k v hk=>?_,N.one⟩
    obtain ⟨l1,gs1,y1,y2,y3,y4,y5⟩:=N.yes k v hk
    refine ⟨l1,gs1,y1,y2,s2 _ _ y3,y4,fun j c' z=>?_⟩
    obtain ⟨g,z1,z2,z3⟩:=y5 j c' z
    exact ⟨g,z1,s2 _ _ z2,z3⟩
   have fle:∀ k,(fl ((cls.take i).map clK) k).length≤i:=fun k=>Nat.le_trans (List.length_filter_le _ _) (by rw [List.length_map,List.length_take];omega)
   cases hv:jT kvs (.inr c.2.key) with
   | some v0=>
    obtain ⟨l1,gs1,y1,y2,y3,y4,_⟩:=N.yes _ v0 hv
    subst y1
    exact ⟨l1,G1,kvs,gs1,sG.trans s2,(fun b o _ e=>e),s2 _ _ hGd,by omega,N1,hv,s2 _ _ y3,by rw [y4];exact fle _,y2,.inl ⟨rfl,rfl⟩⟩
   | none=>
    have npd:p≠d:=fun z=>by rw [z,hGd] at hp;cases hp
    have kp:∀ b o,b≠d→G1 b=some o→upd G1 d (.dK (qI kvs (.inr c.2.key) (.ref p))) b=some o:=fun b o hb e=>by rw [jm hb];exact e
    refine ⟨p,_,qI kvs (.inr c.2.key) (.ref p),[],fun b o e=>?_,kp,jd,by have:=qP kvs (.inr c.2.key) (.ref p);omega,?_,by rw [JI,if_pos rfl],kp _ _ npd e2,Nat.zero_le _,hHp,.inr ⟨rfl,rfl,rfl⟩⟩
    ·exact kp _ _ (fun z=>by rw [z,hd] at e;cases e) (s2 _ _ (sG _ _ e))
    ·exact N.new hGd hv hp hHp (kp _ _ npd e2) fun b o hb e=>kp _ _ hb (s2 _ _ e)
  obtain ⟨lo,G2,kvs2,gs2,sH2,k12,hG2d,hk2,N2,hv2,hlo,hg2,hHlo,spl⟩:=spl
  rcases spl with ⟨h,hG⟩ | ⟨h,hpl,hG⟩
  case' inl=>
   refine .inl ⟨_,h,?_⟩
   rw [hG]
  case' inr=>
   refine .inr ⟨h,?_⟩
   rw [hG,hpl]
  all_goals
   have hb2:G2 b=some (.tup gs):=sH2 _ _ hb
   have hgl:=hgs.length
   rw [List.length_map] at hgl
   have hfew:=hc.few
   refine ⟨.inl ⟨rfl,_,SqL.of hlo⟩,_,rfl,b,rfl,⟨_,SqT.of hb2⟩,fun p2 hp2=>?_⟩
   refine jdW (xs:=gs) (fun j σ' G'=>∃ u,σ'=[u]∧Same G2 G'∧G' p2=some (.lst (((c.1.take j).map Ti.key).map V.str))) ⟨none,rfl,je hp2 _,jd⟩ ?_ ?_ ?_
   ·rintro j σ' G' _ ⟨u,rfl,sG',_⟩
    exact SqT.of (sG' _ _ hb2)
   ·rintro j x σ' G' hx ⟨u,rfl,sG',hG'⟩
    have hj:j < c.1.length:=by have:=(List.getElem?_eq_some_iff.mp hx).1;omega
    obtain ⟨v,e5,e6⟩:=hgs.get (j:=j) (d:=c.1[j].toD) (by rw [List.getElem?_map,List.getElem?_eq_getElem hj];rfl)
    rw [hx] at e5
    cases e5
    unfold j4 yx
    refine zm ?_
    refine ⟨_,rfl,x,c.1[j],rfl,e6.mono (sH2.trans sG'),hc.gs _ (List.getElem_mem hj),_,hG',jx (by rw [List.length_map,List.length_map,List.length_take];omega),_,rfl,?_,?_⟩
    ·intro b o e
     rw [jm (js e hp2)]
     exact sG' _ _ e
    ·rw [jd,List.take_succ,List.getElem?_eq_getElem hj,List.map_append,List.map_append]
     rfl
   ·rintro σ' G' ⟨u,rfl,sG',hG'⟩
    rw [← hgl,List.take_length] at hG'
    have n2:p2≠lo:=fun z=>by rw [z,hlo] at hp2;cases hp2
    refine ⟨lo,gs2,.ref p2,rfl,rfl,sG' _ _ hlo,jx (by omega),?_⟩
    refine ⟨_,_,kvs2,rfl,fun b o e=>?_,?_,hk2,?_⟩
    ·rw [jm (js e hHlo)]
     exact sG' _ _ (sH2 _ _ e)
    ·rw [jm (fun z=>by rw [z,hlo] at hG2d;cases hG2d)]
     exact sG' _ _ hG2d
    ·rw [etk]
     exact N2.more hG2d hv2 hlo hp2 (fun b o hb _ e=>by rw [jm hb];exact sG' _ _ e) jd (by rw [jm n2];exact hG')
 ·rintro σ G ⟨u2,u3,kvs,rfl,sG,hGd,hkz,N⟩
  rw [← hlen,List.take_length] at N
  exact ⟨_,rfl,q d G sG hd (N.at hGd)⟩
end
end LW
namespace L2
open PySem PySem.Spec PyProof.Rows PySem.W
theorem jap {X:Cx} {scope:Scope} {own:List Str} {fr:List Nat} {kx vx tg iter:Expr} {ifs:List Expr} {pos:Pos} {wi:TI} {g:TG} {tt:TT} {tk tv:TE} {use:Option (Value→Sem Unit)} (hc:X.calm=true) (O:CompOk X scope fr) (hi:PI X tg iter wi)
  (hb:∀ s H ex,PG (blk X scope own fr s H ex) tg g∧PTs (blk X scope own fr s H ex) ifs tt∧PE (blk X scope own fr s H ex) kx tk∧PE (blk X scope own fr s H ex) vx tv)
  (hs:∀ x,foldedSetIterable iter X.env x=pure x) {pins:List (Addr×Obj)} {s:Shared} {σ:St} {H:Hp} {Q:VK} {R:Value→Shared→Prop} (I:Inv X pins σ H s) (h:ZY own fr wi g tt tk tv σ H Q) (hx:∀ e s',X.xe e s'↔False)
  (fin:∀ (p C:Addr) (H':Hp) (s':Shared) (m:Str→Option Value),s'.heap.Ns C m→H' C=none→C≠X.env.locals→(∀ x c,X.env.cells.lookup x=some c→c≠C)→X.s₀.heap.objs.size≤C→(∀ p∈X.pn++pins,p.1≠C)→Inv X pins σ H' s'→(∀ h',Heap.SameBut C s'.heap h'→Inv X pins σ H' { s' with heap:=h' })→Q (.ref p) H'→
   compPost (model X.prog X.w) X.A X.xe use R (.ref p) C (.ok .next) s') :
  wpAny (model X.prog X.w) X.A (comprehension (.DictComp kx vx [⟨tg,iter,ifs,0⟩] scope pos) scope X.env (firstIterPos [⟨tg,iter,ifs,0⟩] pos) newDict false (eval iter X.env) use) R X.xe s:=by
 have hsome:∀ x∈scope.names,x.2=.free→(X.env.cells.lookup x.1).isSome=true:=fun x hx' e=>by
  obtain ⟨c,hc⟩:=I.ok.has x.1 (O.frees x hx' e)
  rw [hc];rfl
 have no:∀ (E:Value→Shared→Prop) (x:Value) (s':Shared),X.xe x s'→E x s':=fun E x s' z=>((hx x s').mp z).elim
 refine wpAny_comprehension_free (cl:=zz X.env.cells scope.names []) rfl hs (ym hsome) O.kind O.loc ?_
 refine thn (hi pins s σ H _ I h) fun v s1 h1=>thn h1 fun itv s2 h2=>?_
 obtain ⟨it,fp,tn,J,H2,e,I2,T,st2,f2,q2⟩:=h2
 subst e
 unfold newDict
 refine wpAny_newObj_type ?_
 have nw:H2 s2.heap.objs.size=none:=I2.fresh
 obtain ⟨W,⟨m0,w0⟩,turn⟩:=q2 _ nw
 generalize hp:s2.heap.objs.size=p at *
 have I3:Inv X pins σ (upd H2 p (.dK [])) { s2 with heap:=s2.heap.push { cls:=.type "dict",data:=.dict #[] } }:=by
  have:=I2.laid (a:=s2.heap.objs.size) (o:=.dK []) (t':=s2.toks) (fun _ _ q=>Heap.get?_push_of_some { cls:=.type "dict",data:=.dict #[] } q) (Nat.le_refl _) (ZJ s2.heap I2.big)
  rw [hp] at this
  exact this
 have lt2:∀ b∈fp,b < s2.heap.objs.size:=fun b hb=>by
  obtain ⟨o,ho,_⟩:=T.obj _ _ st2 b hb
  exact Heap.lt_size ho
 have fpn:∀ b∈fp,(upd H2 p (.dK [])) b=none:=fun b hb=>by
  rw [jm (by rw [← hp];exact Nat.ne_of_lt (lt2 b hb))]
  exact (f2 b hb).1
 generalize hs3:({ s2 with heap:=s2.heap.push { cls:=.type "dict",data:=.dict #[] } }:Shared)=s3 at *
 have sz3:s3.heap.objs.size=p+1:=by
  rw [← hs3]
  show (s2.heap.push _).objs.size=_
  rw [Heap.size_push,hp]
 have st3:tn 0 s3.heap:=T.keep 0 _ _ st2 fun b hb o e=>by
  rw [← hs3]
  exact Heap.get?_push_of_some _ e
 refine wpAny_newFunctionEnv O.nocell (by intro y hy;simp at hy) (fun h4 hns4 hsb4=>?_) O.kind
 have k4:∀ b o,s3.heap.get? b=some o→h4.get? b=some o:=fun b o e=>hsb4.extBut b o (Nat.ne_of_lt (Heap.lt_size e)) (Heap.get?_push_of_some _ e)
 have hns4':h4.Ns s3.heap.objs.size fun _=>none:=by
  have z:(fun x:Str=>([]:List (Str×Value)).reverse.lookup x)=fun _=>none:=by funext x;rfl
  rw [z] at hns4
  exact hns4
 have fo:∀ b∈fp,yU X pins (upd H2 p (.dK [])) b∧b < s3.heap.objs.size:=fun b hb=>⟨⟨fpn b hb,(f2 b hb).2⟩,by rw [sz3,← hp];exact Nat.lt_succ_of_lt (lt2 b hb)⟩
 have I4:=Yo (own:=own) (fr:=fr) (t1:=s3.toks+([]:List (Str×Value)).length) I3 O fo hns4' k4
 have st4:tn 0 h4:=T.keep 0 _ _ st3 fun b hb o e=>k4 b o e
 obtain ⟨hg,ht,hk',hv'⟩:=hb s3 (upd H2 p (.dK [])) fp
 have stat:∀ {H':Hp} {pn:List (Addr×Obj)} {s':Shared} {σ':St},Inv (blk X scope own fr s3 (upd H2 p (.dK [])) fp) [] σ' H' s'→(∀ b∈fp,H' b=none)→∀ b∈fp,yU (blk X scope own fr s3 (upd H2 p (.dK [])) fp) [] H' b:=fun {H' pn s' σ'} J hn b hb'=>
  ⟨hn b hb',(J.ok.exf b hb').1,J.ok.exfs b hb',.inl hb',(J.ok.exf b hb').2,fun p hp=>absurd hp (by simp [blk])⟩
 have nocells:∀ x c,X.env.cells.lookup x=some c→c≠s3.heap.objs.size:=fun x c e=>by
  obtain ⟨v,q⟩:=I3.cell x c e
  exact Nat.ne_of_lt q.lt
 have loop:∀ s5:Shared,s5={ s3 with heap:=h4,toks:=s3.toks+([]:List (Str×Value)).length }→
   codeAny (model X.prog X.w) X.A (.compLoop (.DictComp kx vx [⟨tg,iter,ifs,0⟩] scope pos) 0 (.ref it) (.ref p) (blk X scope own fr s3 (upd H2 p (.dK [])) fp).env) (compPost (model X.prog X.w) X.A X.xe use R (.ref p) s3.heap.objs.size) s5:=by
  rintro s5 rfl
  refine Kh (fun n s'=>∃ i σ' H',Inv (blk X scope own fr s3 (upd H2 p (.dK [])) fp) [] σ' H' s'∧tn i s'.heap∧(∀ b∈fp,H' b=none)∧W i n σ' H') ?_ m0 ⟨0,_,_,I4,st4,fpn,w0⟩
  rintro n s6 ⟨i,σ6,H6,I6,st6,fr6,w6⟩
  rcases turn i n σ6 H6 w6 with ⟨stop,qn⟩ | ⟨go,N,hN,step⟩
  ·refine thn (T.done (blk X scope own fr s3 (upd H2 p (.dK [])) fp) rfl rfl rfl hc i [] s6 σ6 H6 _ I6 (stat (pn:=[]) I6 fr6) st6 stop) fun r s7 ⟨hr,I7⟩=>?_
   subst hr
   obtain ⟨m,hm,_⟩:=I7.loc
   exact fin p _ H6 s7 m hm I7.free (Nat.ne_of_gt I3.lt) nocells I3.sz (fun p hp=>Nat.ne_of_lt (Heap.lt_size (I3.pin p hp).1)) (zd I3 fo I7 (Heap.SameBut.refl ..)) (fun h' hs'=>zd I3 fo I7 hs') qn
  ·refine thn (T.item (blk X scope own fr s3 (upd H2 p (.dK [])) fp) rfl rfl rfl hc i [] s6 σ6 H6 _ I6 (stat (pn:=[]) I6 fr6) st6 go) fun r s7 ⟨u,hr,h7⟩=>?_
   subst hr
   refine thn h7 fun _ s8 ⟨x,H8,I8,r8,y8,st8,fr8⟩=>?_
   have I8':=I8.pinned (stat (pn:=[]) I8 fr8) (T.obj _ _ st8)
   refine thn (hg _ s8 σ6 H8 x u _ I8' r8 (step x H8 y8)) fun _ s9 ⟨σ9,H9,I9,q9⟩=>?_
   refine thn (ht _ s9 σ9 H9 _ I9 q9) fun ok s10 ⟨H10,I10,q10⟩=>?_
   have again:∀ {H11:Hp} {s11:Shared},Inv (blk X scope own fr s3 (upd H2 p (.dK [])) fp) ([]++zg fp s8.heap) σ9 H11 s11→(∃ m',m' < n∧W (i+1) m' σ9 H11)→
     ∃ m,m < n∧∃ i σ' H',Inv (blk X scope own fr s3 (upd H2 p (.dK [])) fp) [] σ' H' s11∧tn i s11.heap∧(∀ b∈fp,H' b=none)∧W i m σ' H':=fun {H11 s11} I11 ⟨m',hm,w11⟩=>by
    refine ⟨m',hm,i+1,σ9,H11,I11.unpinned,T.keep _ _ _ st8 fun b hb' o e=>(I11.pin (b,o) (List.mem_append_right _ (List.mem_append_right _ (kr hb' e)))).1,fun b hb'=>?_,w11⟩
    obtain ⟨o,e,d⟩:=T.obj _ _ st8 b hb'
    exact (I11.pin (b,o) (List.mem_append_right _ (List.mem_append_right _ (kr hb' e)))).2.1
   cases ok with
   | false=>
    rw [if_neg Bool.false_ne_true] at q10 ⊢
    exact again I10 (hN _ _ q10)
   | true=>
    rw [if_pos rfl] at q10 ⊢
    refine thn (hk' _ s10 σ9 H10 _ I10 q10) fun kv s11 ⟨ky,H11,I11,r11,q11⟩=>?_
    refine thn (hv' _ s11 σ9 H11 _ I11 q11) fun vv s12 ⟨y,H12,I12,r12,kvs,k,ek,hkv,hlen,q12⟩=>?_
    subst ek
    obtain ⟨z,hd,vs,rel,dd⟩:=jfk I12.hok hkv
    have hl:(qI kvs k y).length≤sizeLine:=by have:=qP kvs k y;omega
    refine wpAny_dictSet_pairs (Zv r11) dd (fun h' dd' hs'=>?_) (by rw [← rel.length];exact z)
    have hex':∃ q,h'.get? p=some q:=let ⟨q,_,_,hq,_⟩:=dd';⟨q,hq⟩
    exact again (jbr (t':=s12.toks+1) I12 (by rw [hkv];exact True.intro) hs' hex' (jdT hl hd (rel.put k r12) dd')) (hN _ _ q12)
 refine codeAny_compStart_dict (loop _ rfl) (T.self X.A 0 _ _ _ st4 (loop _ rfl))
theorem Za {X:Cx} {scope:Scope} {kx vx tg iter:Expr} {ifs:List Expr} {pos:Pos} {wi:TI} {g:TG} {tt:TT} {tk tv:TE} {i:Nat} {y:Str} {py spos:Pos} (hN:X.N.Nodup) (hi':X.N[i]?=some y) (hy:Loc X.env.scope y) (own:List Str) (fr:List Nat) (hc:X.calm=true) (O:CompOk X scope fr) (hi:PI X.nox tg iter wi)
  (hb:∀ s H ex,PG (blk X.nox scope own fr s H ex) tg g∧PTs (blk X.nox scope own fr s H ex) ifs tt∧PE (blk X.nox scope own fr s H ex) kx tk∧PE (blk X.nox scope own fr s H ex) vx tv)
  (hs:∀ x,foldedSetIterable iter X.env x=pure x:=by intro _;rfl)
  (hsw:swapsWith (.DictComp kx vx [⟨tg,iter,ifs,0⟩] scope pos) (some (.Name y py)) spos.line X.env=pure true:=by rfl)
  (hf:X.fn y=true∨X.env.scope.names.lookup y=some .local:=by first | exact .inl rfl | exact .inr rfl | assumption) :
  PS X.nox (.Assign [.Name y py] (.DictComp kx vx [⟨tg,iter,ifs,0⟩] scope pos) spos) (K7 (ZY own fr wi g tt tk tv) (j4 i)):=by
 intro pins s σ H D I h
 rw [exec_Assign_Name_used _ _ _ _ hsw]
 refine wpAny_bind (wpAny_standAt (wpAny_bind ?_))
 show wpAny _ _ (do let _ ← comprehension (.DictComp kx vx [⟨tg,iter,ifs,0⟩] scope pos) scope X.nox.env _ newDict false (eval iter X.nox.env) (some (assign (.Name y py) X.nox.env))) _ _ s
 refine wpAny_bind (wpAny_mono (jap (X:=X.nox) (use:=some (assign (.Name y py) X.nox.env)) (R:=fun _ s'=>SP X.nox pins D .next s') hc ⟨O.kind,O.nocell,O.loc,O.frees,O.fr⟩ hi hb hs I h (fun _ _=>Iff.rfl)
  fun p C H' s' m hm hC hL hcs hz hpn I' back q=>?_) (fun _ s' hq=>wpAny_pure (wpAny_pure hq)) fun _ _ e=>e)
 show wpAny _ _ (assign (.Name y py) X.nox.env (.ref p)) _ _ _
 refine wpAny_assign_Name (yX (v:=.ref p) I' hN hi' hy rfl (fun s2 I2 hsb=>?_) hf)
 obtain ⟨a,hsa,ha⟩:=hsb
 have hCa:C≠a:=by
  rcases ha with rfl | e
  ·exact hL
  ·exact fun z=>hcs _ _ e z.symm
 refine ⟨m,hm.sameBut hsa hCa,fun h' hs'=>?_⟩
 exact ⟨_,H',I2.turned (t':=s2.toks) (fun b o hb e=>(hs'.2 b hb).trans e) hC hL (.inr hz) hcs hpn,q⟩
section
variable {p:Addr} {g:TG} {tt:TT} {tk tv:TE} {σ:St} {H:Hp} {Q:VK}
theorem jaq {K:W.Frag} {a:Addr} {xs:List V} (Pv:Nat→St→Hp→Prop) (h0:Pv 0 σ H) (hl:∀ i σ' H',i≤xs.length→Pv i σ' H'→SqL K H' a xs)
  (hs:∀ i x σ' H',xs[i]?=some x→Pv i σ' H'→g x σ' H' fun σ3 H3=>tt σ3 H3 fun c H4=>if c=true then tk σ3 H4 fun ky H5=>tv σ3 H5 fun y H6=>∃ kvs k,ky=kV k∧H6 p=some (.dK kvs)∧kvs.length < sizeLine∧Pv (i+1) σ3 (upd H6 p (.dK (qI kvs k y))) else Pv (i+1) σ3 H4)
  (hd:∀ σ' H',Pv xs.length σ' H'→Q (.ref p) H'):jbD (Itl K a) p g tt tk tv Q σ H:=by
 refine ⟨fun i m σ H=>m=xs.length - i∧i≤xs.length∧Pv i σ H,⟨xs.length,by simp,Nat.zero_le _,h0⟩,?_⟩
 rintro i m σ1 H1 ⟨rfl,hi,pv⟩
 have q:=hl i σ1 H1 hi pv
 by_cases hlt:i < xs.length
 ·refine .inr ⟨⟨xs,xs[i],q,by simp [hlt]⟩,Pv (i+1),fun σ3 H3 q=>⟨xs.length - (i+1),by omega,rfl,hlt,q⟩,fun x H2 y=>?_⟩
  obtain ⟨e1,e2⟩:=y
  subst e1
  exact hs i x σ1 _ (e2 xs q) pv
 ·have e:i=xs.length:=by omega
  subst e
  exact .inl ⟨⟨xs,q,Nat.le_refl _⟩,hd σ1 H1 pv⟩
end
theorem K0 {X:Cx} {scope:Scope} {kx vx tg iter:Expr} {ifs:List Expr} {pos:Pos} {wi:TI} {g:TG} {tt:TT} {tk tv:TE} {i:Nat} {y:Str} {py spos:Pos} (h1:X.N.Nodup) (h2:X.N[i]?=some y) (h3:Loc X.env.scope y) (own:List Str) (fr:List Nat) (h4:X.calm=true) (h5:CompOk X scope fr) (h6:QI X.nox tg iter wi)
  (h7:∀ s H ex,QG (blk X.nox scope own fr s H ex) tg g∧QTs (blk X.nox scope own fr s H ex) ifs tt∧QE (blk X.nox scope own fr s H ex) kx tk∧QE (blk X.nox scope own fr s H ex) vx tv)
  (h8:∀ x,foldedSetIterable iter X.env x=pure x:=by intro _;rfl)
  (h9:swapsWith (.DictComp kx vx [⟨tg,iter,ifs,0⟩] scope pos) (some (.Name y py)) spos.line X.env=pure true:=by rfl)
  (h10:X.fn y=true∨X.env.scope.names.lookup y=some .local:=by first | exact .inl rfl | exact .inr rfl | assumption) :
  QS X.nox (.Assign [.Name y py] (.DictComp kx vx [⟨tg,iter,ifs,0⟩] scope pos) spos) (K7 (ZY own fr wi g tt tk tv) (j4 i)):=
 ⟨Za h1 h2 h3 own fr h4 h5 h6.h (fun s H ex=>let ⟨a,b,c,d⟩:=h7 s H ex;⟨a.h,b.h,c.h,d.h⟩) h8 h9 h10⟩
end L2
namespace LW
open PySem L2
abbrev kO:Stmt:=top 3
inductive Pap where
 | ring (ts:List Ti) | split (t:Ti) (a b:Pap)
def PapAt (H:Hp):Pap→V→Prop
 | .ring ts,v=>∃ a l xs,v=.ref a∧H a=some (.tup [.str "ring",.ref l])∧H l=some (.lst xs)∧HeldL H (tsD ts) xs
 | .split t x y,v=>∃ a vt vx vy,v=.ref a∧H a=some (.tup [.str "split",vt,vx,vy])∧Held H t.toD vt∧PapAt H x vx∧PapAt H y vy
def ye:Pap→Prop
 | .ring ts=>ts.length≤100∧∀ t∈ts,TiOk t
 | .split t x y=>TiOk t∧TiOk t.turn∧ye x∧ye y
def Pap.deep:Pap→Nat
 | .ring _=>0
 | .split _ x y=>max x.deep y.deep+1
def Pap.size:Pap→Nat
 | .ring _=>1
 | .split _ x y=>x.size+y.size+1
def zG (ks:List Str) (cs:List (List Str×Str)):List Str→Pap→Bool
 | ws,.ring ts=>Jk ks ws cs ts
 | ws,.split t x y=>zG ks cs (ws++[t.key]) x && zG ks cs (ws++[t.turn.key]) y
theorem PapAt.mono {H H':Hp} (s:Same H H'):∀ {p:Pap} {v:V},PapAt H p v→PapAt H' p v
 | .ring ts,v,h=>by
  obtain ⟨a,l,xs,e,h1,h2,h3⟩:=h
  exact ⟨a,l,xs,e,s _ _ h1,s _ _ h2,h3.mono s⟩
 | .split t x y,v,h=>by
  obtain ⟨a,vt,vx,vy,e,h1,h2,h3,h4⟩:=h
  exact ⟨a,vt,vx,vy,e,s _ _ h1,h2.mono s,PapAt.mono s h3,PapAt.mono s h4⟩
def jaR:Sp:=fun vs H Q _=>∃ (bk l1 l2:Addr) (v:V) (x1 x2:List V) (ts:List Ti) (cls:List Cla) (p:Pap),vs=[.ref bk,v]∧H bk=some (.tup [.ref l1,.ref l2])∧H l1=some (.lst x1)∧HeldL H (tsD ts) x1∧H l2=some (.lst x2)∧HeldL H (cls.map clD) x2∧ts.length≤900∧cls.length≤900∧(∀ t∈ts,TiOk t)∧(∀ c∈cls,ClaOk c)∧PapAt H p v∧ye p∧p.deep≤100∧
 ∀ H',Same H H'→Q (.bl (zG (ts.map Ti.key) (cls.map clK) [] p)) H'
def StkAt (H G:Hp) (w:Addr):List (Pap×List Str)→List V→Prop
 | [],vs=>vs=[]
 | (p,ws) :: S,vs=>∃ b v wl r,vs=.ref b :: r∧G b=some (.tup [v,.ref wl])∧PapAt H p v∧wl≠w∧G wl=some (.lst (ws.map V.str))∧StkAt H G w S r
theorem StkAt.keep {H G G':Hp} {w:Addr} {xs:List V} (hw:G w=some (.lst xs)) (k:∀ b o,b≠w→G b=some o→G' b=some o):∀ {S:List (Pap×List Str)} {vs:List V},StkAt H G w S vs→StkAt H G' w S vs
 | [],vs,h=>h
 | (p,ws) :: S,vs,h=>by
  obtain ⟨b,v,wl,r,e,h1,h2,h3,h4,h5⟩:=h
  exact ⟨b,v,wl,r,e,k _ _ (fun z=>by rw [z,hw] at h1;cases h1) h1,h2,h3,k _ _ h3 h4,StkAt.keep hw k h5⟩
theorem StkAt.snoc {H G:Hp} {w b wl:Addr} {v:V} {p:Pap} {ws:List Str} (h1:G b=some (.tup [v,.ref wl])) (h2:PapAt H p v) (h3:wl≠w) (h4:G wl=some (.lst (ws.map V.str))):∀ {S:List (Pap×List Str)} {vs:List V},StkAt H G w S vs→StkAt H G w (S++[(p,ws)]) (vs++[.ref b])
 | [],vs,h=>by cases (show vs=[] from h);exact ⟨b,v,wl,[],rfl,h1,h2,h3,h4,rfl⟩
 | (p',ws') :: S,vs,h=>by
  obtain ⟨b',v',wl',r,rfl,g1,g2,g3,g4,g5⟩:=h
  exact ⟨b',v',wl',_,rfl,g1,g2,g3,g4,StkAt.snoc h1 h2 h3 h4 g5⟩
theorem StkAt.last {H G:Hp} {w:Addr} {p:Pap} {ws:List Str}:∀ {S:List (Pap×List Str)} {vs:List V},StkAt H G w (S++[(p,ws)]) vs→∃ r b v wl,vs=r++[.ref b]∧StkAt H G w S r∧G b=some (.tup [v,.ref wl])∧PapAt H p v∧wl≠w∧G wl=some (.lst (ws.map V.str))
 | [],vs,h=>by
  obtain ⟨b,v,wl,r,rfl,h1,h2,h3,h4,h5⟩:=h
  cases (show r=[] from h5)
  exact ⟨[],b,v,wl,rfl,rfl,h1,h2,h3,h4⟩
 | (p',ws') :: S,vs,h=>by
  obtain ⟨b',v',wl',r,rfl,g1,g2,g3,g4,g5⟩:=h
  obtain ⟨r',b,v,wl,rfl,h0,h1⟩:=StkAt.last g5
  exact ⟨.ref b' :: r',b,v,wl,rfl,⟨b',v',wl',r',rfl,g1,g2,g3,g4,h0⟩,h1⟩
theorem StkAt.len {H G:Hp} {w:Addr}:∀ {S:List (Pap×List Str)} {vs:List V},StkAt H G w S vs→vs.length=S.length
 | [],vs,h=>by cases (show vs=[] from h);rfl
 | (p',ws') :: S,vs,h=>by
  obtain ⟨b',v',wl',r,rfl,g1,g2,g3,g4,g5⟩:=h
  rw [List.length_cons,List.length_cons,StkAt.len g5]
def jcM (S:List (Pap×List Str)):Nat:=(S.map fun x=>x.1.size).sum
section
variable {P:Program} {w:World} {K:W.Frag} {mg:Str→Option Value} {base:Heap}
theorem jdn {f:Addr} {fd:FuncData} (F:Fun K "paper_holds" "paper_holds" kO f fd) (B:Free0 mg) (F_key_of:Fn P w K mg base 1 "key_of" ["tie"] jaT) (F_guards_by_tie:Fn P w K mg base 2 "guards_by_tie" ["clauses"] YZ) (F_turned_tie:Fn P w K mg base 1 "turned_tie" ["tie"] YX) (F_ring_holds:Fn P w K mg base 3 "ring_holds" ["ties","held","way","needed"] jcQ):FnOk P w K mg base CX0 4 f fd ["book","paper"] jaR:=by
 have sc:FnScope ["book","paper","held","needed","waiting","inner","way","tie","yes","no"] ["book","paper"] (jk kO):=fQ
 refine F.okZ sc (fun vs H Q E h=>?_) (fun cdv A outer s H vs Q E hr h=>?_)
 ·obtain ⟨bk,l1,l2,v,x1,x2,ts,cls,p,rfl,_⟩:=h
  rfl
 obtain ⟨bk,l1,l2,v,x1,x2,ts,cls,p,rfl,hbk,hl1,hL1,hl2,hL2,hz1,hz2,hok1,hok2,hp,hpo,hdp,q⟩:=h
 refine ⟨_,(jf (K0 (i:=2) sc.nd rfl oQ ["tie"] [] rfl (jS (sc:=jk kO) (N:=["book","paper","held","needed","waiting","inner","way","tie","yes","no"]) rfl rfl (by decide +kernel)) (jK (jh jy (zpv 0) jb (fun _ _=>rfl))) (fun s H ex=>⟨(jt (i:=0) (show List.Nodup (["tie"]:List Str) by decide +kernel) rfl oQ),jV,(jw F_key_of hr (ja (zpv 0) jc)),qu⟩))
   (jf (jp (i:=3) sc.nd rfl oQ (jw F_guards_by_tie hr (ja (jh jy (zpv 0) jb (fun _ _=>rfl)) jc)))
   (jf (jp (i:=4) sc.nd rfl oQ (jC (ja (jo (ja (zpv 1) (ja (jC jc) jc))) jc)))
   (jf (jbE PassesOwn.never (Kj (K:=K) (zpv 4)) (jf (yr (jec PySem.F.plainAttrs_list PySem.F.slot_list_pop PySem.F.type_list_pop jfX (zpv 4)) (yt rfl (jU (jt (i:=5) sc.nd rfl oQ) (jU (jt (i:=6) sc.nd rfl oQ) zB))))
   (jl (jN (jq kR (jh jy (zpv 5) jb (fun _ _=>rfl)) jL (jB _)) (jf (yr (qb jcS (zpv 5) (qq jb) qr) (yt rfl (jU (jt (i:=7) sc.nd rfl oQ) (jU (jt (i:=8) sc.nd rfl oQ) (jU (jt (i:=9) sc.nd rfl oQ) zB)))))
   (jf (jZ (kN PySem.F.plainAttrs_list PySem.F.slot_list_append PySem.F.type_list_append jO (zpv 4) (ja (jo (ja (zpv 8) (ja (jj qz (zpv 6) (jC (ja (jw F_key_of hr (ja (zpv 7) jc)) jc))) jc))) jc)))
   (jl (jZ (kN PySem.F.plainAttrs_list PySem.F.slot_list_append PySem.F.type_list_append jO (zpv 4) (ja (jo (ja (zpv 9) (ja (jj qz (zpv 6) (jC (ja (jw F_key_of hr (ja (jw F_turned_tie hr (ja (zpv 7) jc)) jc)) jc))) jc))) jc)))))) (jl (jN (KZ (yp (jw F_ring_holds hr (ja (jh jy (zpv 5) jb (fun _ _=>rfl)) (ja (zpv 2) (ja (zpv 6) (ja (zpv 3) jc))))))) (jl (ju qu)) jD))))))
   (jl (ju qu)))))),?_⟩
 refine kD (σ':=[some (.ref bk),some v,none,none,none,none,none,none,none,none]) rfl ?_
 try dsimp only [kZ]
 refine jdC ?_
 intro _ _ _ _
 have hlen:=hL1.length
 rw [List.length_map] at hlen
 refine ⟨_,rfl,bk,_,_,_,rfl,rfl,SqT.of hbk,rfl,l1,rfl,⟨_,SqL.of hl1⟩,fun d hd=>?_⟩
 refine jaq (xs:=x1) (fun i σ' G'=>∃ u kvs,σ'=[u]∧Same H G'∧G' d=some (.dK kvs)∧kvs.length≤i∧∀ k:Str,(jT kvs (.inr k)).isSome=decide (k∈(ts.take i).map Ti.key)) ⟨none,[],rfl,je hd _,jd,Nat.le_refl _,fun k=>by simp [jcB]⟩ ?_ ?_ ?_
 ·rintro i σ' G' _ ⟨u,kvs,rfl,sG',_⟩
  exact SqL.of (sG' _ _ hl1)
 ·rintro i x σ' G' hx ⟨u,kvs,rfl,sG',hG',hkz,hks⟩
  have hi:i < ts.length:=by have:=(List.getElem?_eq_some_iff.mp hx).1;omega
  obtain ⟨v',e5,e6⟩:=hL1.get (j:=i) (d:=ts[i].toD) (by rw [List.getElem?_map,List.getElem?_eq_getElem hi];rfl)
  rw [hx] at e5
  cases e5
  unfold j4 yx
  refine zm ?_
  refine ⟨_,rfl,x,ts[i],rfl,e6.mono sG',hok1 _ (List.getElem_mem hi),kvs,.inr ts[i].key,rfl,hG',jx (by omega),_,_,rfl,?_,jd,by have:=qP kvs (.inr ts[i].key) (.bl true);omega,fun k=>?_⟩
  ·intro b o e
   rw [jm (js e hd)]
   exact sG' _ _ e
  ·rw [JI,List.take_succ,List.getElem?_eq_getElem hi,List.map_append]
   have:=hks k
   by_cases h:k=ts[i].key
   ·rw [if_pos (by rw [h])]
    simp [h]
   ·rw [if_neg (fun z=>h (by injection z)),this]
    simp [h]
 rintro σ' H1 ⟨u,kvs,rfl,s1,hH1,_,hks⟩
 rw [← hlen,List.take_length] at hks
 have hHd:HdAt H1 d (ts.map Ti.key):=⟨kvs,hH1,hks⟩
 refine gQ ?_
 refine ⟨_,rfl,bk,_,_,_,rfl,rfl,SqT.of (s1 _ _ hbk),rfl,l2,x2,cls,rfl,s1 _ _ hl2,hL2.mono s1,hz2,hok2,fun nd H2 s2 n2 hN=>?_⟩
 refine gQ ?_
 have s12:=s1.trans s2
 have hHd2:=hHd.mono s2
 refine ⟨_,rfl,sm rfl,fun wl hwl=>⟨sm rfl,fun tb htb=>⟨sm rfl,fun wt hwt=>?_⟩⟩⟩
 have s3:=je hwl (.lst [])
 have e3:upd H2 wl (.lst []) wl=some (.lst []):=jd
 generalize upd H2 wl (.lst [])=H3 at *
 have s4:=je htb (.tup [v,V.ref wl])
 have e4:upd H3 tb (.tup [v,V.ref wl]) tb=some (.tup [v,V.ref wl]):=jd
 generalize upd H3 tb (.tup [v,V.ref wl])=H4 at *
 have s5:=je hwt (.lst [V.ref tb])
 have e5:upd H4 wt (.lst [V.ref tb]) wt=some (.lst [V.ref tb]):=jd
 generalize upd H4 wt (.lst [V.ref tb])=H5 at *
 refine gQ ?_
 have hHwt:H2 wt=none:=s3.free (s4.free hwt)
 have nwl:wl≠wt:=fun z=>by rw [z] at e3;rw [s4 _ _ e3] at hwt;cases hwt
 generalize hR:zG (ts.map Ti.key) (cls.map clK) [] p=R at q
 refine ⟨fun m σ G=>∃ (S:List (Pap×List Str)) (vs:List V) (u5 u6 u7 u8 u9:Option V),σ=[some (.ref bk),some v,some (.ref d),some (.ref nd),some (.ref wt),u5,u6,u7,u8,u9]∧m=jcM S∧Same H2 G∧G wt=some (.lst vs)∧StkAt H G wt S vs∧(∀ x∈S,ye x.1)∧(∀ x∈S,x.2.length+x.1.deep≤100)∧(∀ (i:Nat) x,S[i]?=some x→i+x.1.deep≤200)∧R=S.all fun x=>zG (ts.map Ti.key) (cls.map clK) x.2 x.1,⟨_,[(p,[])],_,none,none,none,none,none,rfl,rfl,s3.trans (s4.trans s5),e5,⟨tb,v,wl,[],rfl,s5 _ _ e4,hp,nwl,s5 _ _ (s4 _ _ e3),rfl⟩,?_,?_,?_,?_⟩,?_⟩
 ·intro x hx;cases List.mem_singleton.mp hx;exact hpo
 ·intro x hx;cases List.mem_singleton.mp hx;exact Nat.le_trans (by simp) hdp
 ·intro i x hx
  cases i with
  | zero=>simp at hx;subst hx;show 0+p.deep≤200;omega
  | succ i=>simp at hx
 ·rw [← hR];simp
 rintro m σ G ⟨S,vs,u5,u6,u7,u8,u9,rfl,rfl,sG,hw,hS,hPo,hPl,hPd,hall⟩
 have hcs:∀ c∈cls.map clK,c.1.length≤100:=fun c hc=>by
  obtain ⟨c',hc',rfl⟩:=List.mem_map.mp hc
  show (c'.1.map Ti.key).length≤100
  rw [List.length_map];exact (hok2 c' hc').few
 rcases List.eq_nil_or_concat S with rfl | ⟨S',⟨p0,ws⟩,rfl⟩
 ·cases (show vs=[] from hS)
  refine ⟨_,rfl,_,jfn hw,Zx ?_⟩
  have:=q G (s12.trans sG)
  rw [hall] at this
  exact this
 rw [List.concat_eq_append] at *
 obtain ⟨r,b,v0,wl0,rfl,hS',hb,hv0,nw0,hwl0⟩:=hS.last
 have hlen':=hS'.len
 have hmem:(p0,ws)∈S'++[(p0,ws)]:=List.mem_append_right _ List.mem_cons_self
 have hpo0:=hPo _ hmem
 have hpl0:=hPl _ hmem
 have hpd0:=hPd S'.length (p0,ws) (by rw [List.getElem?_append_right (Nat.le_refl _),Nat.sub_self];rfl)
 have etr:(!(r++[V.ref b]).isEmpty)=true:=by simp
 refine ⟨_,rfl,_,jfn hw,?_⟩
 rw [etr]
 refine zm ⟨_,fun _ _ h=>h,?_⟩
 refine ⟨_,rfl,.inl ⟨rfl,_,SqL.of hw⟩,wt,_,.ref b,rfl,rfl,hw,by rw [List.length_append];simp,?_⟩
 rw [List.dropLast_concat]
 have k1:∀ c o,c≠wt→G c=some o→upd G wt (.lst r) c=some o:=fun c o hc e=>by rw [jm hc];exact e
 have e1:upd G wt (.lst r) wt=some (.lst r):=jd
 generalize upd G wt (.lst r)=G1 at *
 have sH1:Same H2 G1:=fun c o e=>k1 _ _ (fun z=>by rw [z,hHwt] at e;cases e) (sG _ _ e)
 have sHH:Same H G1:=s12.trans sH1
 have hb1:G1 b=some (.tup [v0,.ref wl0]):=k1 _ _ (fun z=>by rw [z,hw] at hb;cases hb) hb
 have hwl1:=k1 _ _ nw0 hwl0
 have hS1:StkAt H G1 wt S' r:=hS'.keep hw k1
 refine ⟨b,_,rfl,SqT.of hb1,rfl,_,_,rfl,_,_,rfl,rfl,?_⟩
 refine kD (σ':=[some (.ref bk),some v,some (.ref d),some (.ref nd),some (.ref wt),some v0,some (.ref wl0),u7,u8,u9]) rfl ?_
 cases p0 with
 | ring ts0=>
  obtain ⟨a,l,xs,rfl,ha,hl,hLx⟩:=hv0
  obtain ⟨hz0,hok0⟩:=hpo0
  refine ⟨_,rfl,a,_,_,_,rfl,rfl,SqT.of (sHH _ _ ha),rfl,rfl,_,rfl,j6 (fun d=>absurd (of_decide_eq_true d) (by decide)) (fun _=>?_)⟩
  refine ⟨_,rfl,a,_,_,_,rfl,rfl,SqT.of (sHH _ _ ha),rfl,_,rfl,_,rfl,_,rfl,l,d,wl0,nd,xs,ts0,ts.map Ti.key,ws,cls.map clK,rfl,sHH _ _ hl,hLx.mono sHH,hz0,hok0,hHd2.mono sH1,hwl1,hN.mono sH1,hcs,fun G2 s6=>⟨_,rfl,?_⟩⟩
  have hall':R=(S'.all (fun x=>zG (ts.map Ti.key) (cls.map clK) x.2 x.1) && Jk (ts.map Ti.key) ws (cls.map clK) ts0):=by
   rw [hall,List.all_append,List.all_cons,List.all_nil,Bool.and_true];rfl
  cases hr0:Jk (ts.map Ti.key) ws (cls.map clK) ts0 with
  | false=>
   refine zm ?_
   have:=q G2 (sHH.trans s6)
   rw [hall',hr0,Bool.and_false] at this
   exact this
  | true=>
   refine Zx ?_
   rw [hr0,Bool.and_true] at hall'
   refine ⟨jcM S',?_,S',r,_,_,_,_,_,rfl,rfl,sH1.trans s6,s6 _ _ e1,hS1.keep e1 (fun c o _ e=>s6 _ _ e),fun x hx=>hPo x (List.mem_append_left _ hx),fun x hx=>hPl x (List.mem_append_left _ hx),fun i x hx=>hPd i x (by rw [List.getElem?_append_left (List.getElem?_eq_some_iff.mp hx).1];exact hx),hall'⟩
   unfold jcM
   rw [List.map_append,List.sum_append]
   simp [Pap.size]
 | split t x y=>
  obtain ⟨a,vt,vx,vy,rfl,ha,ht,hvx,hvy⟩:=hv0
  obtain ⟨ok1,ok2,okx,oky⟩:=hpo0
  refine ⟨_,rfl,a,_,_,_,rfl,rfl,SqT.of (sHH _ _ ha),rfl,rfl,_,rfl,j6 (fun _=>?_) (fun d=>absurd (decide_eq_true rfl) d)⟩
  refine ⟨_,rfl,_,rfl,a,_,rfl,SqT.of (sHH _ _ ha),(fun h=>absurd h.1 (by show ¬ (HT.sIx 4 0 (some 1)=0);decide)),fun t2 ht2=>?_⟩
  have s6:=je ht2 (.tup (qG [.str "split",vt,vx,vy] (some 1) none))
  have e6:upd G1 t2 (.tup (qG [.str "split",vt,vx,vy] (some 1) none)) t2=some (.tup [vt,vx,vy]):=jd
  generalize upd G1 t2 (.tup (qG [.str "split",vt,vx,vy] (some 1) none))=G2 at *
  refine ⟨t2,_,rfl,SqT.of e6,rfl,_,_,rfl,_,_,rfl,_,_,rfl,rfl,?_⟩
  refine kD (σ':=[some (.ref bk),some v,some (.ref d),some (.ref nd),some (.ref wt),some (.ref a),some (.ref wl0),some vt,some vx,some vy]) rfl ?_
  have hdx:x.deep+1≤(Pap.split t x y).deep∧y.deep+1≤(Pap.split t x y).deep:=by
   have:(Pap.split t x y).deep=max x.deep y.deep+1:=rfl
   omega
  generalize hD:(Pap.split t x y).deep=DD at *
  have hws:ws.length+DD≤100:=hpl0
  have hsd:S'.length+DD≤200:=hpd0
  have sH2:Same H G2:=sHH.trans s6
  refine ⟨_,rfl,.inl ⟨rfl,_,SqL.of (s6 _ _ e1)⟩,_,rfl,_,rfl,_,rfl,vt,t,rfl,ht.mono sH2,ok1,sm rfl,fun p1 hp1=>?_⟩
  have s7:=je hp1 (.lst [V.str t.key])
  have e7:upd G2 p1 (.lst [V.str t.key]) p1=some (.lst [V.str t.key]):=jd
  generalize upd G2 p1 (.lst [V.str t.key])=G3 at *
  refine ⟨wl0,p1,_,_,rfl,rfl,s7 _ _ (s6 _ _ hwl1),e7,zv (by rw [List.length_map];simp only [List.length_cons,List.length_nil];omega),fun p2 hp2=>?_⟩
  have ew:ws.map V.str++[V.str t.key]=(ws++[t.key]).map V.str:=by rw [List.map_append];rfl
  rw [ew]
  have s8:=je hp2 (.lst ((ws++[t.key]).map V.str))
  have e8:upd G3 p2 (.lst ((ws++[t.key]).map V.str)) p2=some (.lst ((ws++[t.key]).map V.str)):=jd
  generalize upd G3 p2 (.lst ((ws++[t.key]).map V.str))=G4 at *
  refine ⟨sm rfl,fun p3 hp3=>?_⟩
  have s9:=je hp3 (.tup [vx,V.ref p2])
  have e9:upd G4 p3 (.tup [vx,V.ref p2]) p3=some (.tup [vx,V.ref p2]):=jd
  generalize upd G4 p3 (.tup [vx,V.ref p2])=G5 at *
  have s69:=s6.trans (s7.trans (s8.trans s9))
  have ewt:=s69 _ _ e1
  refine ⟨wt,r,.ref p3,rfl,rfl,ewt,jx (by omega),?_⟩
  have np2:p2≠wt:=fun z=>by rw [z] at hp2;rw [s7 _ _ (s6 _ _ e1)] at hp2;cases hp2
  have k2:∀ c o,c≠wt→G5 c=some o→upd G5 wt (.lst (r++[.ref p3])) c=some o:=fun c o hc e=>by rw [jm hc];exact e
  have hS5:StkAt H G5 wt (S'++[(x,ws++[t.key])]) (r++[.ref p3]):=StkAt.snoc e9 hvx np2 (s9 _ _ e8) (hS1.keep e1 fun c o _ e=>s69 _ _ e)
  have hS6:=hS5.keep ewt k2
  have e10:upd G5 wt (.lst (r++[.ref p3])) wt=some (.lst (r++[.ref p3])):=jd
  have nwt:H wt=none:=s12.free hHwt
  have sH6:Same H2 (upd G5 wt (.lst (r++[.ref p3]))):=fun c o e=>k2 _ _ (fun z=>by rw [z,hHwt] at e;cases e) (s69 _ _ (sH1 _ _ e))
  have hwl6:=k2 _ _ nw0 (s69 _ _ hwl1)
  generalize upd G5 wt (.lst (r++[.ref p3]))=G6 at *
  have sHG6:Same H G6:=s12.trans sH6
  refine ⟨_,rfl,.inl ⟨rfl,_,SqL.of e10⟩,_,rfl,_,rfl,_,rfl,vt,t,rfl,ht.mono sHG6,fun pt G7 s10 npt hpt=>⟨.ref pt,t.turn,rfl,hpt,ok2,sm rfl,fun p4 hp4=>?_⟩⟩
  have s11:=je hp4 (.lst [V.str t.turn.key])
  have e11:upd G7 p4 (.lst [V.str t.turn.key]) p4=some (.lst [V.str t.turn.key]):=jd
  generalize upd G7 p4 (.lst [V.str t.turn.key])=G8 at *
  refine ⟨wl0,p4,_,_,rfl,rfl,s11 _ _ (s10 _ _ hwl6),e11,zv (by rw [List.length_map];simp only [List.length_cons,List.length_nil];omega),fun p5 hp5=>?_⟩
  have ew2:ws.map V.str++[V.str t.turn.key]=(ws++[t.turn.key]).map V.str:=by rw [List.map_append];rfl
  rw [ew2]
  have s12':=je hp5 (.lst ((ws++[t.turn.key]).map V.str))
  have e12:upd G8 p5 (.lst ((ws++[t.turn.key]).map V.str)) p5=some (.lst ((ws++[t.turn.key]).map V.str)):=jd
  generalize upd G8 p5 (.lst ((ws++[t.turn.key]).map V.str))=G9 at *
  refine ⟨sm rfl,fun p6 hp6=>?_⟩
  have s13:=je hp6 (.tup [vy,V.ref p5])
  have e13:upd G9 p6 (.tup [vy,V.ref p5]) p6=some (.tup [vy,V.ref p5]):=jd
  generalize upd G9 p6 (.tup [vy,V.ref p5])=Ga at *
  have s6a:=s10.trans (s11.trans (s12'.trans s13))
  have ewt2:=s6a _ _ e10
  refine ⟨wt,_,.ref p6,rfl,rfl,ewt2,jx (by rw [List.length_append];simp only [List.length_cons,List.length_nil];omega),?_⟩
  have np5:p5≠wt:=fun z=>by rw [z] at hp5;rw [s11 _ _ (s10 _ _ e10)] at hp5;cases hp5
  have k3:∀ c o,c≠wt→Ga c=some o→upd Ga wt (.lst (r++[.ref p3]++[.ref p6])) c=some o:=fun c o hc e=>by rw [jm hc];exact e
  have hSa:StkAt H Ga wt (S'++[(x,ws++[t.key])]++[(y,ws++[t.turn.key])]) (r++[.ref p3]++[.ref p6]):=StkAt.snoc e13 hvy np5 (s13 _ _ e12) (hS6.keep e10 fun c o _ e=>s6a _ _ e)
  have ed:(S'++[(Pap.split t x y,ws)]).all (fun x=>zG (ts.map Ti.key) (cls.map clK) x.2 x.1)=(S'++[(x,ws++[t.key])]++[(y,ws++[t.turn.key])]).all fun x=>zG (ts.map Ti.key) (cls.map clK) x.2 x.1:=by
   simp [zG]
  refine ⟨jcM (S'++[(x,ws++[t.key])]++[(y,ws++[t.turn.key])]),?_,_,_,_,_,_,_,_,rfl,rfl,fun c o e=>k3 _ _ (fun z=>by rw [z,hHwt] at e;cases e) (s6a _ _ (sH6 _ _ e)),jd,hSa.keep ewt2 k3,?_,?_,?_,by rw [hall,ed]⟩
  ·unfold jcM
   simp [Pap.size]
  ·intro z hz
   rcases List.mem_append.mp hz with hz | hz
   ·rcases List.mem_append.mp hz with hz | hz
    ·exact hPo z (List.mem_append_left _ hz)
    ·cases List.mem_singleton.mp hz;exact okx
   ·cases List.mem_singleton.mp hz;exact oky
  ·intro z hz
   rcases List.mem_append.mp hz with hz | hz
   ·rcases List.mem_append.mp hz with hz | hz
    ·exact hPl z (List.mem_append_left _ hz)
    ·cases List.mem_singleton.mp hz
     show (ws++[t.key]).length+x.deep≤100
     rw [List.length_append,List.length_cons,List.length_nil];omega
   ·cases List.mem_singleton.mp hz
    show (ws++[t.turn.key]).length+y.deep≤100
    rw [List.length_append,List.length_cons,List.length_nil];omega
  ·intro i z hz
   rcases Nat.lt_or_ge i S'.length with hi | hi
   ·rw [List.append_assoc,List.getElem?_append_left hi] at hz
    exact hPd i z (by rw [List.getElem?_append_left hi];exact hz)
   ·rw [List.append_assoc,List.getElem?_append_right hi] at hz
    have:i - S'.length=0∨i - S'.length=1:=by
     have:=(List.getElem?_eq_some_iff.mp hz).1
     simp only [List.length_append,List.length_cons,List.length_nil] at this
     omega
    rcases this with h | h <;> rw [h] at hz <;> cases hz
    ·show i+x.deep≤200;omega
    ·show i+y.deep≤200;omega
end
end LW
namespace L2
open PySem PySem.Spec PyProof PyProof.Rows PySem.W
end L2
namespace LW
open PySem L2
abbrev jaZ:Stmt:=top 10
abbrev jaY:Stmt:=top 11
abbrev Jt:Stmt:=top 14
theorem jd3 {ns:List Int} {k:Int} (h0:0≤k) (h:k < (ns.length:Int)):atI (ns.map V.int) k=some (.int (ns.getD k.toNat 0)):=by
 have hk:k.toNat < ns.length:=by omega
 have:=kI (xs:=ns.map V.int) (j:=k.toNat) (v:=.int (ns.getD k.toNat 0)) (by rw [List.getElem?_map,List.getD_eq_getElem?_getD,List.getElem?_eq_getElem hk];rfl)
 rw [show ((k.toNat:Nat):Int)=k by omega] at this
 exact this
def yY (K:W.Frag):Sp:=fun vs H Q _=>∃ (a:Addr) (ns:List Int) (k:Int),vs=[.ref a,.int k]∧SqL K H a (ns.map V.int)∧0≤k∧k≤100000∧∀ c:Int,Q (.int c) H
def zf (K:W.Frag):Sp:=fun vs H Q _=>∃ (a:Addr) (ns:List Int) (k m:Int),vs=[.ref a,.int k,.int m]∧SqL K H a (ns.map V.int)∧0≤k∧k≤100000∧0 < m∧∀ c:Int,0≤c→c < m→Q (.int c) H
def zE (K:W.Frag):Sp:=fun vs H Q _=>∃ (a:Addr) (ns:List Int) (k:Int),vs=[.ref a,.int k]∧SqL K H a (ns.map V.int)∧0≤k∧k≤100000∧∀ c:Int,-(10 ^ 16)≤c→c≤10 ^ 16→Q (.int c) H
section
variable {P:Program} {w:World} {K:W.Frag} {mg:Str→Option Value} {base:Heap}
theorem jeK {f:Addr} {fd:FuncData} (F:Fun K "_law_cell" "_law_cell" jaZ f fd) (B:Free0 mg):FnOk P w K mg base CX0 1 f fd ["_law_script","_law_k"] (yY K):=by
 have sc:FnScope ["_law_script","_law_k","_law_number_here"] ["_law_script","_law_k"] (jk jaZ):=fQ
 refine F.okZ sc (fun vs H Q E h=>?_) (fun cdv A outer s H vs Q E hr h=>?_)
 ·obtain ⟨a,ns,k,rfl,_⟩:=h
  rfl
 obtain ⟨a,ns,k,rfl,hS,h0,h1,q⟩:=h
 have hl:(ns.map V.int).length=ns.length:=List.length_map _
 refine ⟨_,(jf (jN (jq ja5 (zpv 1) (jM jz (by rfl) B.len_ kc (ja (zpv 0) jc)) (jB _)) (jl (ju (jh jr (zpv 0) (zpv 1) (fun _ _=>rfl)))) jD)
   (jf (jp (i:=2) sc.nd rfl oQ (jj jH (jj kQ (zpv 1) jb) jb))
   (jf (JF (jN (jq Jm (jM jz (by rfl) B.len_ kc (ja (zpv 0) jc)) jb (jB _)) (jl (jp (i:=2) sc.nd rfl oQ (jj kE (jj jH (jj kQ (jh jr (zpv 0) (jj kE (jj kQ (zpv 1) jb) (jM jz (by rfl) B.len_ kc (ja (zpv 0) jc))) (fun _ _=>rfl)) jb) (jj kQ (zpv 1) jb)) jb))) jD))
   (jf (jp (i:=2) sc.nd rfl oQ (jj kE (jj jH (jj kQ (zpv 2) (zpv 2)) jb) jb))
   (jl (ju (jj kE (jj kQ (zpv 2) (zpv 2)) jb))))))),?_⟩
 refine kD (σ':=[some (.ref a),some (.int k),none]) rfl ?_
 try dsimp only [kZ]
 refine jdC ?_
 intro _ _ _ _
 refine ⟨_,rfl,_,rfl,a,_,rfl,.inl hS,_,_,rfl,rfl,_,rfl,j6 (fun c=>?_) (fun c=>?_)⟩
 ·have c':k < (ns.length:Int):=by
   have:=of_decide_eq_true c
   rw [hl] at this
   exact this
  exact ⟨_,rfl,_,rfl,a,_,_,_,rfl,rfl,hS,jd3 h0 c',q _⟩
 ·refine ⟨_,rfl,_,_,rfl,rfl,.inr ⟨by decide,by decide⟩,_,_,rfl,rfl,?_⟩
  refine gQ ?_
  refine ⟨fun σ' G=>∃ z:Int,σ'=[some (.ref a),some (.int k),some (.int z)]∧G=H∧0≤z∧z < 2147483647,?_,?_⟩
  ·refine ⟨_,rfl,a,_,rfl,.inl hS,_,_,rfl,rfl,_,rfl,j6 (fun d=>?_) (fun d=>?_)⟩
   ·have d':0 < ns.length:=by
     have:=of_decide_eq_true d
     rw [hl] at this
     omega
    have hm0:0≤k * 7 % (ns.length:Int):=Int.emod_nonneg _ (by omega)
    have hm1:k * 7 % (ns.length:Int) < (ns.length:Int):=Int.emod_lt_of_pos _ (by omega)
    have hat:atI (ns.map V.int) (k * 7 % (((ns.map V.int).length:Nat):Int))=some (.int (ns.getD (k * 7 % (ns.length:Int)).toNat 0)):=by
     rw [hl]
     exact jd3 hm0 hm1
    refine ⟨_,rfl,_,rfl,_,_,rfl,rfl,.inr ⟨by decide,by decide⟩,_,rfl,a,_,rfl,.inl hS,_,_,rfl,rfl,(by rw [hl];omega),a,_,_,_,rfl,rfl,hS,hat,_,_,rfl,rfl,.inr ⟨by decide,by decide⟩,_,rfl,_,_,rfl,rfl,.inr ⟨by decide,by decide⟩,_,_,rfl,rfl,_,_,rfl,rfl,(by show (0:Int) < 2147483647;decide),?_⟩
    exact ⟨_,rfl,rfl,Int.emod_nonneg _ (by decide),Int.emod_lt_of_pos _ (by decide)⟩
   ·exact ⟨_,rfl,rfl,by omega,by omega⟩
  ·rintro σ' G ⟨z,rfl,rfl,z0,z1⟩
   refine ⟨_,rfl,_,rfl,_,_,rfl,rfl,.inl ⟨by omega,by omega⟩,_,_,rfl,rfl,_,_,rfl,rfl,(by show (0:Int) < 2147483629;decide),?_⟩
   refine gQ ?_
   have y0:=Int.emod_nonneg (z * z+48271) (b:=2147483629) (by decide)
   have y1:=Int.emod_lt_of_pos (z * z+48271) (b:=2147483629) (by decide)
   exact ⟨_,rfl,_,rfl,_,_,rfl,rfl,.inl ⟨by omega,by omega⟩,_,_,rfl,rfl,(by show (0:Int) < 2147483647;decide),q _⟩
theorem jeH {f:Addr} {fd:FuncData} (F:Fun K "_law_pick" "_law_pick" jaY f fd) (F_cell:Fn P w K mg base 1 "_law_cell" ["_law_script","_law_k"] (yY K)):FnOk P w K mg base CX0 2 f fd ["_law_script","_law_k","_law_many"] (zf K):=by
 have sc:FnScope ["_law_script","_law_k","_law_many"] ["_law_script","_law_k","_law_many"] (jk jaY):=fQ
 refine F.okZ sc (fun vs H Q E h=>?_) (fun cdv A outer s H vs Q E hr h=>?_)
 ·obtain ⟨a,ns,k,m,rfl,_⟩:=h
  rfl
 obtain ⟨a,ns,k,m,rfl,hS,h0,h1,hm,q⟩:=h
 refine ⟨_,(jl (ju (jj kE (jj kE (jj jH (jj kQ (jw F_cell hr (ja (zpv 0) (ja (zpv 1) jc))) jb) (jj kQ (zpv 1) jb)) jb) (zpv 2)))),?_⟩
 refine kD (σ':=[some (.ref a),some (.int k),some (.int m)]) rfl ?_
 try dsimp only [kZ]
 refine ⟨_,rfl,_,rfl,a,ns,k,rfl,hS,h0,h1,fun c=>?_⟩
 refine ⟨_,_,rfl,rfl,.inr ⟨by decide,by decide⟩,_,rfl,_,_,rfl,rfl,.inr ⟨by decide,by decide⟩,_,_,rfl,rfl,_,_,rfl,rfl,(by show (0:Int) < 1000003;decide),_,rfl,_,_,rfl,rfl,hm,?_⟩
 exact q _ (Int.emod_nonneg _ (by omega)) (Int.emod_lt_of_pos _ hm)
theorem jb5 {f:Addr} {fd:FuncData} (F:Fun K "_law_number" "_law_number" Jt f fd) (F_cell:Fn P w K mg base 1 "_law_cell" ["_law_script","_law_k"] (yY K)) (F_pick:Fn P w K mg base 2 "_law_pick" ["_law_script","_law_k","_law_many"] (zf K)):FnOk P w K mg base CX0 3 f fd ["_law_script","_law_k"] (zE K):=by
 have sc:FnScope ["_law_script","_law_k","_law_cell_here"] ["_law_script","_law_k"] (jk Jt):=fQ
 refine F.okZ sc (fun vs H Q E h=>?_) (fun cdv A outer s H vs Q E hr h=>?_)
 ·obtain ⟨a,ns,k,rfl,_⟩:=h
  rfl
 obtain ⟨a,ns,k,rfl,hS,h0,h1,q⟩:=h
 refine ⟨_,(jf (jp (i:=2) sc.nd rfl oQ (jw F_cell hr (ja (zpv 0) (ja (zpv 1) jc))))
   (jf (jN (jq kR (jw F_pick hr (ja (zpv 0) (ja (zpv 1) (ja jb jc)))) jb (jB _)) (jl (ju (jj kP (jj kE (zpv 2) (jj jH (jj kQ jb (jj Yi jb jb)) jb)) (jj Yi jb jb)))) jD)
   (jl (ju (jj kP (jj kE (zpv 2) jb) jb))))),?_⟩
 refine kD (σ':=[some (.ref a),some (.int k),none]) rfl ?_
 try dsimp only [kZ]
 refine jdD ?_
 intro _ _
 refine ⟨_,rfl,_,rfl,a,ns,k,rfl,hS,h0,h1,fun c=>?_⟩
 refine gQ ?_
 refine ⟨_,rfl,_,rfl,a,ns,k,3,rfl,hS,h0,h1,by decide,fun c2 p0 p1=>?_⟩
 refine ⟨rfl,_,rfl,j6 (fun _=>?_) (fun _=>?_)⟩
 ·have y0:=Int.emod_nonneg c (b:=2 * 10 ^ 16+1) (by decide)
  have y1:=Int.emod_lt_of_pos c (b:=2 * 10 ^ 16+1) (by decide)
  exact ⟨_,rfl,10,16,rfl,rfl,⟨by decide,by decide,by decide⟩,2,10 ^ 16,rfl,rfl,.inl ⟨by decide,by decide⟩,_,_,rfl,rfl,c,2 * 10 ^ 16+1,rfl,rfl,(show (0:Int) < 2 * 10 ^ 16+1 by decide),10,16,rfl,rfl,⟨by decide,by decide,by decide⟩,_,_,rfl,rfl,q (c % (2 * 10 ^ 16+1) - 10 ^ 16) (by omega) (by omega)⟩
 ·have y0:=Int.emod_nonneg c (b:=11) (by decide)
  have y1:=Int.emod_lt_of_pos c (b:=11) (by decide)
  exact ⟨_,rfl,c,11,rfl,rfl,(show (0:Int) < 11 by decide),_,_,rfl,rfl,q _ (by omega) (by omega)⟩
end
abbrev jaX:Stmt:=top 12
def qg:Str:="abcdefghijklmnopqrstuvwxyz"
theorem Yl:qg.cps.toList=(List.range 26).map (·+97):=by decide +kernel
def Ym (i:Int):Nat:=i.toNat+97
theorem KD {i:Int} (h0:0≤i) (h1:i < 26):atI qg.cps.toList i=some (Ym i):=by
 have hk:i.toNat < 26:=by omega
 have:=kI (xs:=qg.cps.toList) (j:=i.toNat) (v:=Ym i) (by rw [Yl,List.getElem?_map,List.getElem?_range hk];rfl)
 rw [show ((i.toNat:Nat):Int)=i by omega] at this
 exact this
structure WdOk (x:Str):Prop where
 few:x.length≤8
 abc:∀ c∈x.cps.toList,97≤c∧c≤122
theorem ZF (m:Nat):∀ (n:Nat) (b:Array Nat),(List.foldl (fun x1 x2=>x1++x2) b (List.replicate n #[m])).toList=b.toList++List.replicate n m
 | 0,b=>by simp
 | n+1,b=>by rw [List.replicate_succ,List.foldl_cons,ZF m n,List.replicate_succ];simp
theorem Zi (m:Nat) {j:Int} (h:0≤j):(Txt.mul ⟨#[m]⟩ j).cps.toList=List.replicate j.toNat m:=by
 unfold Txt.mul
 split
 ·rename_i h1
  rw [show j=0 by omega];rfl
 ·split
  ·rename_i hc
   rw [Bool.or_eq_true] at hc
   rcases hc with hc | hc
   ·rw [eq_of_beq hc];rfl
   ·cases hc
  ·rw [ZF];rfl
theorem qB (z:Str):z.length=z.cps.toList.length:=by simp [Str.length]
def jcP:Sp:=fun vs H Q _=>∃ (c k:Int),vs=[.int c,.int k]∧0≤k∧k < 26∧∀ (x:Str) H',Same H H'→WdOk x→Q (.str x) H'
section
variable {P:Program} {w:World} {K:W.Frag} {mg:Str→Option Value} {base:Heap}
theorem jeF {f:Addr} {fd:FuncData} (F:Fun K "_law_word" "_law_word" jaX f fd):FnOk P w K mg base CX0 1 f fd ["_law_cell_here","_law_mark"] jcP:=by
 have sc:FnScope ["_law_cell_here","_law_mark","_law_letters","_law_size","_law_at","_law_sign"] ["_law_cell_here","_law_mark"] (jk jaX):=fQ
 refine F.okZ sc (fun vs H Q E h=>?_) (fun cdv A outer s H vs Q E hr h=>?_)
 ·obtain ⟨c,k,rfl,_⟩:=h
  rfl
 obtain ⟨c,k,rfl,k0,k1,q⟩:=h
 refine ⟨_,(jf (jp (i:=2) sc.nd rfl oQ jL)
   (jf (jp (i:=3) sc.nd rfl oQ (jh jr (jC (ja jb (ja jb (ja jb (ja jb (ja jb jc)))))) (jj kE (jj Ze (zpv 0) jb) jb) (fun _ _=>rfl)))
   (jf (jp (i:=4) sc.nd rfl oQ (jj kE (jj Ze (zpv 0) jb) (jj jH (zpv 3) jb)))
   (jf (jp (i:=5) sc.nd rfl oQ (jh jdx (zpv 2) (jj kE (zpv 0) jb) (fun _ _=>rfl)))
   (jl (ju (jj JS (jj JS (jj JR (zpv 5) (zpv 4)) (jh jdx (zpv 2) (jj kE (zpv 1) jb) (fun _ _=>rfl))) (jj JR (zpv 5) (jj kP (zpv 3) (zpv 4)))))))))),?_⟩
 refine kD (σ':=[some (.int c),some (.int k),none,none,none,none]) rfl ?_
 try dsimp only [kZ]
 refine jdC ?_
 intro _ _ _ _
 have hll:qg.length≤sizeLine:=Nat.le_of_lt (jx (by decide +kernel))
 refine gQ ?_
 refine ⟨sm rfl,fun l hl=>?_⟩
 have s1:=je hl (.lst [V.int 0,.int 2,.int 3,.int 5,.int 7])
 have e1:upd H l (.lst [V.int 0,.int 2,.int 3,.int 5,.int 7]) l=some (.lst [V.int 0,.int 2,.int 3,.int 5,.int 7]):=jd
 generalize upd H l (.lst [V.int 0,.int 2,.int 3,.int 5,.int 7])=H1 at *
 have a0:=Int.emod_nonneg (c / 26) (b:=5) (by decide)
 have a1:=Int.emod_lt_of_pos (c / 26) (b:=5) (by decide)
 obtain ⟨sz,hsz,z0,z1⟩:∃ sz:Int,atI [V.int 0,.int 2,.int 3,.int 5,.int 7] (c / 26 % 5)=some (.int sz)∧0≤sz∧sz≤7:=by
  generalize c / 26 % 5=z at *
  obtain ⟨n,rfl⟩:=Int.eq_ofNat_of_zero_le a0
  match n,a1 with
  | 0,_=>exact ⟨0,rfl,by decide,by decide⟩
  | 1,_=>exact ⟨2,rfl,by decide,by decide⟩
  | 2,_=>exact ⟨3,rfl,by decide,by decide⟩
  | 3,_=>exact ⟨5,rfl,by decide,by decide⟩
  | 4,_=>exact ⟨7,rfl,by decide,by decide⟩
  | n+5,h=>exact absurd h (by omega)
 refine ⟨_,rfl,_,_,rfl,rfl,⟨by decide,by decide⟩,_,_,rfl,rfl,(by show (0:Int) < 5;decide),l,_,_,_,rfl,rfl,SqL.of e1,hsz,?_⟩
 refine gQ ?_
 refine ⟨_,rfl,_,_,rfl,rfl,⟨by decide,by decide⟩,_,rfl,_,_,rfl,rfl,_,_,rfl,rfl,(by show (0:Int) < sz+1;omega),?_⟩
 have b0:=Int.emod_nonneg (c / 130) (b:=sz+1) (by omega)
 have b1:=Int.emod_lt_of_pos (c / 130) (b:=sz+1) (by omega)
 refine gQ ?_
 have hm:atI qg.cps.toList (c % 26)=some (Ym (c % 26)):=KD (Int.emod_nonneg _ (by decide)) (Int.emod_lt_of_pos _ (by decide))
 have ho:atI qg.cps.toList (k % 26)=some (Ym (k % 26)):=KD (Int.emod_nonneg _ (by decide)) (Int.emod_lt_of_pos _ (by decide))
 have lb:∀ z:Int,97≤Ym (z % 26)∧Ym (z % 26)≤122:=fun z=>by
  have:=Int.emod_nonneg z (b:=26) (by decide)
  have:=Int.emod_lt_of_pos z (b:=26) (by decide)
  unfold Ym
  omega
 have lm:=lb c
 have lo:=lb k
 refine ⟨_,rfl,_,rfl,_,_,rfl,rfl,(by show (0:Int) < 26;decide),qg,_,_,rfl,rfl,hll,hm,?_⟩
 generalize Ym (c % 26)=m at *
 refine gQ ?_
 generalize Ym (k % 26)=o at *
 have g1:=Zi m (j:=c / 130 % (sz+1)) b0
 have g2:=Zi m (j:=sz - c / 130 % (sz+1)) (by omega)
 have w1:(Txt.mul ⟨#[m]⟩ (c / 130 % (sz+1))).length=(c / 130 % (sz+1)).toNat:=by rw [qB,g1,List.length_replicate]
 have w2:(Txt.mul ⟨#[m]⟩ (sz - c / 130 % (sz+1))).length=(sz - c / 130 % (sz+1)).toNat:=by rw [qB,g2,List.length_replicate]
 refine ⟨_,rfl,_,rfl,⟨#[m]⟩,_,rfl,rfl,(by show 1≤16;decide),b0,by omega,?_⟩
 refine ⟨_,rfl,_,rfl,_,_,rfl,rfl,(by show (0:Int) < 26;decide),qg,_,_,rfl,rfl,hll,ho,?_⟩
 have w3:(⟨#[o]⟩:Str).length=1:=rfl
 generalize Txt.mul ⟨#[m]⟩ (c / 130 % (sz+1))=A1 at *
 refine ⟨_,_,rfl,rfl,Nat.le_of_lt (jx (by omega)),?_⟩
 refine ⟨_,rfl,_,rfl,_,rfl,_,_,rfl,rfl,_,_,rfl,rfl,(by show 1≤16;decide),by omega,by omega,?_⟩
 generalize Txt.mul ⟨#[m]⟩ (sz - c / 130 % (sz+1))=A2 at *
 have w4:(A1++(⟨#[o]⟩:Str)).length=A1.length+1:=by rw [qB,km,List.length_append,← qB];rfl
 refine ⟨_,_,rfl,rfl,Nat.le_of_lt (jx (by omega)),q _ H1 s1 ⟨?_,fun z hz=>?_⟩⟩
 ·rw [qB,km,List.length_append,← qB,← qB]
  omega
 ·rw [km,km,g1,g2] at hz
  rcases List.mem_append.mp hz with hz | hz
  ·rcases List.mem_append.mp hz with hz | hz
   ·rw [(List.mem_replicate.mp hz).2];exact lm
   ·have:z=o:=by simpa using hz
    rw [this];exact lo
  ·rw [(List.mem_replicate.mp hz).2];exact lm
end
abbrev Js:Stmt:=top 13
inductive SrcD (w0 w1 w2:Str):D→Prop
 | nought:SrcD w0 w1 w2 (.tup [.str "nought"])
 | start0:SrcD w0 w1 w2 (.tup [.str "start",.str w0])
 | start1:SrcD w0 w1 w2 (.tup [.str "start",.str w1])
 | own:SrcD w0 w1 w2 (.tup [.str "own",.int 0])
 | pick:SrcD w0 w1 w2 (.tup [.str "pick",.int 3])
 | row (c:Int) (h0:-2≤c) (h1:c≤2):SrcD w0 w1 w2 (.tup [.str "entry",.tup [.str "row",.str w2],.tup [.tup [.str "start",.str w0],.int c]])
 | put (c:Int) (h0:0≤c) (h1:c < 10 ^ 18):SrcD w0 w1 w2 (.tup [.str "entry",.tup [.str "put",.int 2],.tup [.tup [.str "nought"],.int c]])
def yz (K:W.Frag):Sp:=fun vs H Q _=>∃ (a wl:Addr) (ns:List Int) (k:Int) (w0 w1 w2:Str),vs=[.ref a,.int k,.ref wl]∧SqL K H a (ns.map V.int)∧0≤k∧k≤90000∧H wl=some (.lst [.str w0,.str w1,.str w2])∧∀ (v:V) (d:D) H',Same H H'→Held H' d v→SrcD w0 w1 w2 d→Q v H'
theorem jE {K:W.Frag} {H H':Hp} {a:Addr} {xs:List V} (e:Same H H') (h:SqL K H a xs):SqL K H' a xs:=by
 rcases h with (h | ⟨o,h⟩) | h
 ·exact .inl (.inl (e _ _ h))
 ·exact .inl (.inr ⟨o,e _ _ h⟩)
 ·exact .inr h
section
variable {P:Program} {w:World} {K:W.Frag} {mg:Str→Option Value} {base:Heap}
theorem jb4 {f:Addr} {fd:FuncData} (F:Fun K "_law_source" "_law_source" Js f fd) (F_cell:Fn P w K mg base 1 "_law_cell" ["_law_script","_law_k"] (yY K)) (F_pick:Fn P w K mg base 2 "_law_pick" ["_law_script","_law_k","_law_many"] (zf K)):FnOk P w K mg base CX0 3 f fd ["_law_script","_law_k","_law_words"] (yz K):=by
 have sc:FnScope ["_law_script","_law_k","_law_words","_law_some"] ["_law_script","_law_k","_law_words"] (jk Js):=fQ
 refine F.okZ sc (fun vs H Q E h=>?_) (fun cdv A outer s H vs Q E hr h=>?_)
 ·obtain ⟨a,wl,ns,k,w0,w1,w2,rfl,_⟩:=h
  rfl
 obtain ⟨a,wl,ns,k,w0,w1,w2,rfl,hS,h0,h1,hW,q⟩:=h
 refine ⟨_,(jf (jp (i:=3) sc.nd rfl oQ (jC (ja (zpd (zh (jQ zk qk))) (ja (zpd (zh (jQ zk (jQ (K3 (jh jr (zpv 2) jb (fun _ _=>rfl))) qk)))) (ja (zpd (zh (jQ zk (jQ (K3 (jh jr (zpv 2) jb (fun _ _=>rfl))) qk)))) (ja (zpd (zh (jQ zk (jQ Z8 qk)))) (ja (zpd (zh (jQ zk (jQ Z8 qk)))) jc)))))))
   (jf (jZ (kN PySem.F.plainAttrs_list PySem.F.slot_list_append PySem.F.type_list_append jO (zpv 3) (ja (jo (ja jL (ja (zpd (zh (jQ zk (jQ (K3 (jh jr (zpv 2) jb (fun _ _=>rfl))) qk)))) (ja (jo (ja (zpd (zh (jQ zk (jQ (K3 (jh jr (zpv 2) jb (fun _ _=>rfl))) qk)))) (ja (jj kP (jw F_pick hr (ja (zpv 0) (ja (jj jH (zpv 1) jb) (ja jb jc)))) jb) jc))) jc)))) jc)))
   (jf (jZ (kN PySem.F.plainAttrs_list PySem.F.slot_list_append PySem.F.type_list_append jO (zpv 3) (ja (jo (ja jL (ja (zpd (zh (jQ zk (jQ Z8 qk)))) (ja (jo (ja (zpd (zh (jQ zk qk))) (ja (jj kE (jw F_cell hr (ja (zpv 0) (ja (jj jH (zpv 1) jb) jc))) (jj Yi jb jb)) jc))) jc)))) jc)))
   (jl (ju (jh jr (zpv 3) (jw F_pick hr (ja (zpv 0) (ja (zpv 1) (ja jb jc)))) (fun _ _=>rfl))))))),?_⟩
 refine kD (σ':=[some (.ref a),some (.int k),some (.ref wl),none]) rfl ?_
 try dsimp only [kZ]
 refine jbi ?_
 intro _ _ _
 have W0:∀ {G:Hp},Same H G→SqL K G wl [.str w0,.str w1,.str w2]:=fun sG=>SqL.of (sG _ _ hW)
 refine ⟨.tup [.str "nought"],⟨_,rfl,Nat.le_of_ble_eq_true rfl,_,_,rfl,rfl,rfl⟩,fun v1 H1 s1 h1'=>?_⟩
 refine ⟨.tup [.str "start",.str w0],⟨_,rfl,Nat.le_of_ble_eq_true rfl,_,_,rfl,rfl,_,_,rfl,(fun G sG Q q=>⟨_,rfl,wl,_,_,_,rfl,rfl,W0 (s1.trans sG),rfl,q _ _ (fun _ _ e=>e) j8⟩),rfl⟩,fun v2 H2 s2 h2'=>?_⟩
 have s12:=s1.trans s2
 refine ⟨.tup [.str "start",.str w1],⟨_,rfl,Nat.le_of_ble_eq_true rfl,_,_,rfl,rfl,_,_,rfl,(fun G sG Q q=>⟨_,rfl,wl,_,_,_,rfl,rfl,W0 (s12.trans sG),rfl,q _ _ (fun _ _ e=>e) j8⟩),rfl⟩,fun v3 H3 s3 h3'=>?_⟩
 refine ⟨.tup [.str "own",.int 0],⟨_,rfl,Nat.le_of_ble_eq_true rfl,_,_,rfl,rfl,_,_,rfl,rfl,rfl⟩,fun v4 H4 s4 h4'=>?_⟩
 refine ⟨.tup [.str "pick",.int 3],⟨_,rfl,Nat.le_of_ble_eq_true rfl,_,_,rfl,rfl,_,_,rfl,rfl,rfl⟩,fun v5 H5 s5 h5'=>?_⟩
 refine ⟨sm rfl,fun p hp=>?_⟩
 have s6:=je hp (.lst [v1,v2,v3,v4,v5])
 have e6:upd H5 p (.lst [v1,v2,v3,v4,v5]) p=some (.lst [v1,v2,v3,v4,v5]):=jd
 have sH5:Same H H5:=s12.trans (s3.trans (s4.trans s5))
 have hHp:H p=none:=sH5.free hp
 generalize upd H5 p (.lst [v1,v2,v3,v4,v5])=H6 at *
 have sA:=sH5.trans s6
 have hv1:=h1'.mono (s2.trans (s3.trans (s4.trans (s5.trans s6))))
 have hv2:=h2'.mono (s3.trans (s4.trans (s5.trans s6)))
 have hv3:=h3'.mono (s4.trans (s5.trans s6))
 have hv4:=h4'.mono (s5.trans s6)
 have hv5:=h5'.mono s6
 refine gQ ?_
 refine ⟨_,rfl,.inl ⟨rfl,_,SqL.of e6⟩,.tup [.str "row",.str w2],⟨_,rfl,Nat.le_of_ble_eq_true rfl,_,_,rfl,rfl,_,_,rfl,(fun G sG Q q=>⟨_,rfl,wl,_,_,_,rfl,rfl,W0 (sA.trans sG),rfl,q _ _ (fun _ _ e=>e) j8⟩),rfl⟩,fun vr H7 s7 hr'=>?_⟩
 refine ⟨.tup [.str "start",.str w0],⟨_,rfl,Nat.le_of_ble_eq_true rfl,_,_,rfl,rfl,_,_,rfl,(fun G sG Q q=>⟨_,rfl,wl,_,_,_,rfl,rfl,W0 (sA.trans (s7.trans sG)),rfl,q _ _ (fun _ _ e=>e) j8⟩),rfl⟩,fun vs H8 s8 hs'=>?_⟩
 have sB:=sA.trans (s7.trans s8)
 refine ⟨_,rfl,_,rfl,_,_,rfl,rfl,a,ns,k+1,5,rfl,jE sB hS,by omega,by omega,by decide,fun c c0 c1=>?_⟩
 refine ⟨_,_,rfl,rfl,sm rfl,fun t1 ht1=>⟨sm rfl,fun t2 ht2=>?_⟩⟩
 have s9:=je ht1 (.tup [vs,V.int (c - 2)])
 have e9:upd H8 t1 (.tup [vs,V.int (c - 2)]) t1=some (.tup [vs,V.int (c - 2)]):=jd
 generalize upd H8 t1 (.tup [vs,V.int (c - 2)])=H9 at *
 have s10:=je ht2 (.tup [V.str "entry",vr,V.ref t1])
 have e10:upd H9 t2 (.tup [V.str "entry",vr,V.ref t1]) t2=some (.tup [V.str "entry",vr,V.ref t1]):=jd
 generalize upd H9 t2 (.tup [V.str "entry",vr,V.ref t1])=Ha at *
 have s6a:=s7.trans (s8.trans (s9.trans s10))
 have hv6:Held Ha (.tup [.str "entry",.tup [.str "row",.str w2],.tup [.tup [.str "start",.str w0],.int (c - 2)]]) (.ref t2):=jF e10 (jg j8 (jg (hr'.mono (s8.trans (s9.trans s10))) (jg (jF (s10 _ _ e9) (jg (hs'.mono (s9.trans s10)) (jg j3 ji))) ji)))
 refine ⟨p,_,.ref t2,rfl,rfl,s6a _ _ e6,sm rfl,?_⟩
 have tk1:TK Ha (upd Ha p (.lst ([v1,v2,v3,v4,v5]++[V.ref t2]))):=TK.upd (s6a _ _ e6) (fun xs z=>by cases z)
 have sC:Same H (upd Ha p (.lst ([v1,v2,v3,v4,v5]++[V.ref t2]))):=fun b o e=>by
  rw [jm (js e hHp)]
  exact s6a _ _ (sA _ _ e)
 have eb:upd Ha p (.lst ([v1,v2,v3,v4,v5]++[V.ref t2])) p=some (.lst [v1,v2,v3,v4,v5,V.ref t2]):=jd
 generalize upd Ha p (.lst ([v1,v2,v3,v4,v5]++[V.ref t2]))=Hb at *
 refine ⟨_,rfl,.inl ⟨rfl,_,SqL.of eb⟩,.tup [.str "put",.int 2],⟨_,rfl,Nat.le_of_ble_eq_true rfl,_,_,rfl,rfl,_,_,rfl,rfl,rfl⟩,fun vp Hc s11 hp'=>?_⟩
 refine ⟨.tup [.str "nought"],⟨_,rfl,Nat.le_of_ble_eq_true rfl,_,_,rfl,rfl,rfl⟩,fun vn Hd s12' hn'=>?_⟩
 have sD:=sC.trans (s11.trans s12')
 refine ⟨_,rfl,_,rfl,_,_,rfl,rfl,a,ns,k+1,rfl,jE sD hS,by omega,by omega,fun c2=>?_⟩
 have y0:=Int.emod_nonneg c2 (b:=10 ^ 18) (by decide)
 have y1:=Int.emod_lt_of_pos c2 (b:=10 ^ 18) (by decide)
 refine ⟨10,18,rfl,rfl,⟨by decide,by decide,by decide⟩,c2,10 ^ 18,rfl,rfl,(show (0:Int) < 10 ^ 18 by decide),sm rfl,fun t3 ht3=>⟨sm rfl,fun t4 ht4=>?_⟩⟩
 dsimp only at *
 generalize c2 % 10 ^ 18=cc at *
 have s13:=je ht3 (.tup [vn,V.int cc])
 have e13:upd Hd t3 (.tup [vn,V.int cc]) t3=some (.tup [vn,V.int cc]):=jd
 generalize upd Hd t3 (.tup [vn,V.int cc])=He at *
 have s14:=je ht4 (.tup [V.str "entry",vp,V.ref t3])
 have e14:upd He t4 (.tup [V.str "entry",vp,V.ref t3]) t4=some (.tup [V.str "entry",vp,V.ref t3]):=jd
 generalize upd He t4 (.tup [V.str "entry",vp,V.ref t3])=Hf at *
 have sbf:=s11.trans (s12'.trans (s13.trans s14))
 have hv7:Held Hf (.tup [.str "entry",.tup [.str "put",.int 2],.tup [.tup [.str "nought"],.int cc]]) (.ref t4):=jF e14 (jg j8 (jg (hp'.mono (s12'.trans (s13.trans s14))) (jg (jF (s14 _ _ e13) (jg (hn'.mono (s13.trans s14)) (jg j3 ji))) ji)))
 refine ⟨p,_,.ref t4,rfl,rfl,sbf _ _ eb,sm rfl,?_⟩
 have tk2:TK Hf (upd Hf p (.lst ([v1,v2,v3,v4,v5,V.ref t2]++[V.ref t4]))):=TK.upd (sbf _ _ eb) (fun xs z=>by cases z)
 have sE:Same H (upd Hf p (.lst ([v1,v2,v3,v4,v5,V.ref t2]++[V.ref t4]))):=fun b o e=>by
  rw [jm (js e hHp)]
  exact sbf _ _ (sC _ _ e)
 have eg:upd Hf p (.lst ([v1,v2,v3,v4,v5,V.ref t2]++[V.ref t4])) p=some (.lst [v1,v2,v3,v4,v5,V.ref t2,V.ref t4]):=jd
 generalize upd Hf p (.lst ([v1,v2,v3,v4,v5,V.ref t2]++[V.ref t4]))=Hg at *
 have tkA:TK H6 Hg:=(TK.same s6a).trans (tk1.trans ((TK.same sbf).trans tk2))
 have tkB:TK Ha Hg:=tk1.trans ((TK.same sbf).trans tk2)
 refine ⟨_,rfl,_,rfl,_,rfl,a,ns,k,7,rfl,jE sE hS,h0,by omega,by decide,fun z z0 z1=>?_⟩
 obtain ⟨n,rfl⟩:=Int.eq_ofNat_of_zero_le z0
 match n,z1 with
 | 0,_=>exact ⟨p,_,_,_,rfl,rfl,SqL.of eg,rfl,q _ _ _ sE (tkA.held hv1) .nought⟩
 | 1,_=>exact ⟨p,_,_,_,rfl,rfl,SqL.of eg,rfl,q _ _ _ sE (tkA.held hv2) .start0⟩
 | 2,_=>exact ⟨p,_,_,_,rfl,rfl,SqL.of eg,rfl,q _ _ _ sE (tkA.held hv3) .start1⟩
 | 3,_=>exact ⟨p,_,_,_,rfl,rfl,SqL.of eg,rfl,q _ _ _ sE (tkA.held hv4) .own⟩
 | 4,_=>exact ⟨p,_,_,_,rfl,rfl,SqL.of eg,rfl,q _ _ _ sE (tkA.held hv5) .pick⟩
 | 5,_=>exact ⟨p,_,_,_,rfl,rfl,SqL.of eg,rfl,q _ _ _ sE (tkB.held hv6) (.row _ (by omega) (by omega))⟩
 | 6,_=>exact ⟨p,_,_,_,rfl,rfl,SqL.of eg,rfl,q _ _ _ sE (tk2.held hv7) (.put _ y0 y1)⟩
 | n+7,h=>exact absurd h (by omega)
end
end LW
namespace L2
open PySem
theorem kM {X:Cx} {k k':Nat} {x:Str} {ps:List Str} {sp:Sp} {e:Expr} {es:List Expr} {t:TA} {p pos:Pos} (h1:Fn (Cx.prog X) (Cx.w X) (Cx.K X) (Cx.mg X) (Cx.base X) k x ps sp) (h2:Room k' (Cx.A X)) (h3:QA X (e :: es) t) (h4:k≤k':=by omega) (h5:Gl X x:=by rfl) (h6:(x == Str.ofString "__debug__")=false:=by decide) (h7:List.all (e :: es) qi=true:=by rfl):QE X (Expr.Call (Expr.Name x p) (e :: es) [] pos) (jaO sp [] E0 t):=
 ⟨@jff _ _ _ _ _ _ _ _ _ _ _ h1 h2 h3.h h4 h5 h6 h7⟩
end L2
namespace LW
open PySem L2
abbrev qM:Stmt:=top 18
def jaN:TE:=fun _ _ _=>False
theorem jdd {X:Cx} {e:Expr}:PE X e jaN:=fun _ _ _ _ _ _ h=>h.elim
theorem zN {X:Cx} {e:Expr}:QE X e jaN:=⟨jdd⟩
def Pap.leaves:Pap→List (List Ti)
 | .ring ts=>[ts]
 | .split _ x y=>x.leaves++y.leaves
def LvsAt (H:Hp):List (List Ti)→List V→Prop
 | [],vs=>vs=[]
 | ts :: L,vs=>∃ l xs r,vs=.ref l :: r∧H l=some (.lst xs)∧HeldL H (tsD ts) xs∧LvsAt H L r
theorem LvsAt.mono {H H':Hp} (s:Same H H'):∀ {L:List (List Ti)} {vs:List V},LvsAt H L vs→LvsAt H' L vs
 | [],vs,h=>h
 | ts :: L,vs,h=>by
  obtain ⟨l,xs,r,e,h1,h2,h3⟩:=h
  exact ⟨l,xs,r,e,s _ _ h1,h2.mono s,LvsAt.mono s h3⟩
theorem LvsAt.app {H:Hp}:∀ {L M:List (List Ti)} {vs us:List V},LvsAt H L vs→LvsAt H M us→LvsAt H (L++M) (vs++us)
 | [],M,vs,us,h,h'=>by cases (show vs=[] from h);exact h'
 | ts :: L,M,vs,us,h,h'=>by
  obtain ⟨l,xs,r,rfl,h1,h2,h3⟩:=h
  exact ⟨l,xs,_,rfl,h1,h2,LvsAt.app h3 h'⟩
theorem LvsAt.len {H:Hp}:∀ {L:List (List Ti)} {vs:List V},LvsAt H L vs→vs.length=L.length
 | [],vs,h=>by cases (show vs=[] from h);rfl
 | ts :: L,vs,h=>by
  obtain ⟨l,xs,r,rfl,h1,h2,h3⟩:=h
  rw [List.length_cons,List.length_cons,LvsAt.len h3]
def qX (n:Nat):Sp:=fun vs H Q _=>∃ (v:V) (p:Pap),vs=[v]∧PapAt H p v∧p.deep≤n∧p.leaves.length≤500∧∀ (l:Addr) (xs:List V) (H':Hp),Same H H'→H l=none→H' l=some (.lst xs)→LvsAt H' p.leaves xs→Q (.ref l) H'
section
variable {P:Program} {w:World} {K:W.Frag} {mg:Str→Option Value} {base:Heap}
theorem jac {f:Addr} {fd:FuncData} (F:Fun K "_law_leaves" "_law_leaves" qM f fd):FnOk P w K mg base CX0 1 f fd ["_law_paper"] (qX 0):=by
 have sc:FnScope ["_law_paper"] ["_law_paper"] (jk qM):=fQ
 refine F.okZ sc (fun vs H Q E h=>?_) (fun cdv A outer s H vs Q E hr h=>?_)
 ·obtain ⟨v,p,rfl,_⟩:=h
  rfl
 obtain ⟨v,p,rfl,hp,hd,hz,q⟩:=h
 refine ⟨_,(jf (jN (jq kR (jh jy (zpv 0) jb (fun _ _=>rfl)) jL (jB _)) (jl (ju (jC (ja (jh jy (zpv 0) jb (fun _ _=>rfl)) jc)))) jD)
   (jl (ju zN))),?_⟩
 try dsimp only [kZ]
 cases p with
 | split t x y=>exact absurd hd (by show ¬ (max x.deep y.deep+1≤0);omega)
 | ring ts=>
  obtain ⟨a,l,xs,rfl,ha,hl,hL⟩:=hp
  refine ⟨_,rfl,a,_,_,_,rfl,rfl,SqT.of ha,rfl,rfl,_,rfl,j6 (fun _=>?_) (fun d=>absurd (decide_eq_true rfl) d)⟩
  refine ⟨_,rfl,a,_,_,_,rfl,rfl,SqT.of ha,rfl,sm rfl,fun b hb=>?_⟩
  have s1:=je hb (.lst [V.ref l])
  exact q b _ _ s1 hb jd ⟨l,xs,[],rfl,s1 _ _ hl,hL.mono s1,rfl⟩
theorem jb6 {n k:Nat} {f:Addr} {fd:FuncData} (F:Fun K "_law_leaves" "_law_leaves" qM f fd) (F_leaves:Fn P w K mg base k "_law_leaves" ["_law_paper"] (qX n)):FnOk P w K mg base CX0 (k+1) f fd ["_law_paper"] (qX (n+1)):=by
 have sc:FnScope ["_law_paper"] ["_law_paper"] (jk qM):=fQ
 refine F.okZ sc (fun vs H Q E h=>?_) (fun cdv A outer s H vs Q E hr h=>?_)
 ·obtain ⟨v,p,rfl,_⟩:=h
  rfl
 obtain ⟨v,p,rfl,hp,hd,hz,q⟩:=h
 refine ⟨_,(jf (jN (jq kR (jh jy (zpv 0) jb (fun _ _=>rfl)) jL (jB _)) (jl (ju (jC (ja (jh jy (zpv 0) jb (fun _ _=>rfl)) jc)))) jD)
   (jl (ju (jj qz (kM F_leaves hr (ja (jh jy (zpv 0) jb (fun _ _=>rfl)) jc)) (kM F_leaves hr (ja (jh jy (zpv 0) jb (fun _ _=>rfl)) jc)))))),?_⟩
 try dsimp only [kZ]
 cases p with
 | ring ts=>
  obtain ⟨a,l,xs,rfl,ha,hl,hL⟩:=hp
  refine ⟨_,rfl,a,_,_,_,rfl,rfl,SqT.of ha,rfl,rfl,_,rfl,j6 (fun _=>?_) (fun d=>absurd (decide_eq_true rfl) d)⟩
  refine ⟨_,rfl,a,_,_,_,rfl,rfl,SqT.of ha,rfl,sm rfl,fun b hb=>?_⟩
  have s1:=je hb (.lst [V.ref l])
  exact q b _ _ s1 hb jd ⟨l,xs,[],rfl,s1 _ _ hl,hL.mono s1,rfl⟩
 | split t x y=>
  have hdd:max x.deep y.deep+1≤n+1:=hd
  have hzz:x.leaves.length+y.leaves.length≤500:=by rw [← List.length_append];exact hz
  obtain ⟨a,vt,vx,vy,rfl,ha,ht,hx,hy⟩:=hp
  refine ⟨_,rfl,a,_,_,_,rfl,rfl,SqT.of ha,rfl,rfl,_,rfl,j6 (fun d=>absurd (of_decide_eq_true d) (by decide)) (fun _=>?_)⟩
  refine ⟨_,rfl,a,_,_,_,rfl,rfl,SqT.of ha,rfl,vx,x,rfl,hx,by omega,by omega,fun l1 x1 H1 s1 n1 e1 h1=>?_⟩
  refine ⟨_,rfl,a,_,_,_,rfl,rfl,SqT.of (s1 _ _ ha),rfl,vy,y,rfl,hy.mono s1,by omega,by omega,fun l2 x2 H2 s2 n2 e2 h2=>?_⟩
  refine ⟨l1,l2,_,_,rfl,rfl,s2 _ _ e1,e2,zv (by rw [h1.len,h2.len];omega),fun l3 hl3=>?_⟩
  have s3:=je hl3 (.lst (x1++x2))
  exact q l3 _ _ (s1.trans (s2.trans s3)) (s1.free (s2.free hl3)) jd ((h1.mono (s2.trans s3)).app (h2.mono s3))
end
abbrev qx:Stmt:=top 19
def Pap.change:Pap→Nat→List Ti→Pap
 | .ring _,_,ts=>.ring ts
 | .split t x y,i,ts=>if i < x.leaves.length then .split t (x.change i ts) y else .split t x (y.change (i - x.leaves.length) ts)
def qY (n:Nat):Sp:=fun vs H Q _=>∃ (v:V) (i:Nat) (l:Addr) (xs:List V) (ts:List Ti) (p:Pap),vs=[v,.int (i:Nat),.ref l]∧PapAt H p v∧p.deep≤n∧p.leaves.length≤500∧H l=some (.lst xs)∧HeldL H (tsD ts) xs∧∀ (v':V) (H':Hp),Same H H'→PapAt H' (p.change i ts) v'→Q v' H'
section
variable {P:Program} {w:World} {K:W.Frag} {mg:Str→Option Value} {base:Heap}
theorem Zf {f:Addr} {fd:FuncData} (F:Fun K "_law_changed" "_law_changed" qx f fd) (B:Free0 mg):FnOk P w K mg base CX0 1 f fd ["_law_paper","_law_at","_law_ring"] (qY 0):=by
 have sc:FnScope ["_law_paper","_law_at","_law_ring","_law_many"] ["_law_paper","_law_at","_law_ring"] (jk qx):=fQ
 refine F.okZ sc (fun vs H Q E h=>?_) (fun cdv A outer s H vs Q E hr h=>?_)
 ·obtain ⟨v,i,l,xs,ts,p,rfl,_⟩:=h
  rfl
 obtain ⟨v,i,l,xs,ts,p,rfl,hp,hd,hz,hl,hL,q⟩:=h
 refine ⟨_,(jf (jN (jq kR (jh jy (zpv 0) jb (fun _ _=>rfl)) jL (jB _)) (jl (ju (jo (ja jL (ja (zpv 2) jc))))) jD)
   (jf (jp (i:=3) sc.nd rfl oQ zN)
   (jf (jN (jq ja5 (zpv 1) (zpv 3) (jB _)) (jl (ju (jo (ja jL (ja (jh jy (zpv 0) jb (fun _ _=>rfl)) (ja zN (ja (jh jy (zpv 0) jb (fun _ _=>rfl)) jc))))))) jD)
   (jl (ju (jo (ja jL (ja (jh jy (zpv 0) jb (fun _ _=>rfl)) (ja (jh jy (zpv 0) jb (fun _ _=>rfl)) (ja zN jc)))))))))),?_⟩
 try dsimp only [kZ]
 refine jbi ?_
 intro _ _ _
 cases p with
 | split t x y=>exact absurd hd (by show ¬ (max x.deep y.deep+1≤0);omega)
 | ring ts0=>
  obtain ⟨a,l0,xs0,rfl,ha,hl0,hL0⟩:=hp
  refine ⟨_,rfl,a,_,_,_,rfl,rfl,SqT.of ha,rfl,rfl,_,rfl,j6 (fun _=>?_) (fun d=>absurd (decide_eq_true rfl) d)⟩
  refine ⟨_,rfl,sm rfl,fun b hb=>?_⟩
  have s1:=je hb (.tup [V.str "ring",V.ref l])
  exact q _ _ s1 ⟨b,l,xs,rfl,jd,s1 _ _ hl,hL.mono s1⟩
theorem jaf {n k:Nat} {f:Addr} {fd:FuncData} (F:Fun K "_law_changed" "_law_changed" qx f fd) (B:Free0 mg) (F_leaves:Fn P w K mg base k "_law_leaves" ["_law_paper"] (qX n)) (F_changed:Fn P w K mg base k "_law_changed" ["_law_paper","_law_at","_law_ring"] (qY n)):FnOk P w K mg base CX0 (k+1) f fd ["_law_paper","_law_at","_law_ring"] (qY (n+1)):=by
 have sc:FnScope ["_law_paper","_law_at","_law_ring","_law_many"] ["_law_paper","_law_at","_law_ring"] (jk qx):=fQ
 refine F.okZ sc (fun vs H Q E h=>?_) (fun cdv A outer s H vs Q E hr h=>?_)
 ·obtain ⟨v,i,l,xs,ts,p,rfl,_⟩:=h
  rfl
 obtain ⟨v,i,l,xs,ts,p,rfl,hp,hd,hz,hl,hL,q⟩:=h
 refine ⟨_,(jf (jN (jq kR (jh jy (zpv 0) jb (fun _ _=>rfl)) jL (jB _)) (jl (ju (jo (ja jL (ja (zpv 2) jc))))) jD)
   (jf (jp (i:=3) sc.nd rfl oQ (jM jz (by rfl) B.len_ kc (ja (kM F_leaves hr (ja (jh jy (zpv 0) jb (fun _ _=>rfl)) jc)) jc)))
   (jf (jN (jq ja5 (zpv 1) (zpv 3) (jB _)) (jl (ju (jo (ja jL (ja (jh jy (zpv 0) jb (fun _ _=>rfl)) (ja (kM F_changed hr (ja (jh jy (zpv 0) jb (fun _ _=>rfl)) (ja (zpv 1) (ja (zpv 2) jc)))) (ja (jh jy (zpv 0) jb (fun _ _=>rfl)) jc))))))) jD)
   (jl (ju (jo (ja jL (ja (jh jy (zpv 0) jb (fun _ _=>rfl)) (ja (jh jy (zpv 0) jb (fun _ _=>rfl)) (ja (kM F_changed hr (ja (jh jy (zpv 0) jb (fun _ _=>rfl)) (ja (jj kP (zpv 1) (zpv 3)) (ja (zpv 2) jc)))) jc)))))))))),?_⟩
 refine kD (σ':=[some v,some (.int (i:Nat)),some (.ref l),none]) rfl ?_
 try dsimp only [kZ]
 refine jbi ?_
 intro _ _ _
 cases p with
 | ring ts0=>
  obtain ⟨a,l0,xs0,rfl,ha,hl0,hL0⟩:=hp
  refine ⟨_,rfl,a,_,_,_,rfl,rfl,SqT.of ha,rfl,rfl,_,rfl,j6 (fun _=>?_) (fun d=>absurd (decide_eq_true rfl) d)⟩
  refine ⟨_,rfl,sm rfl,fun b hb=>?_⟩
  have s1:=je hb (.tup [V.str "ring",V.ref l])
  exact q _ _ s1 ⟨b,l,xs,rfl,jd,s1 _ _ hl,hL.mono s1⟩
 | split t x y=>
  have hdd:max x.deep y.deep+1≤n+1:=hd
  have hzz:x.leaves.length+y.leaves.length≤500:=by rw [← List.length_append];exact hz
  obtain ⟨a,vt,vx,vy,rfl,ha,ht,hx,hy⟩:=hp
  refine ⟨_,rfl,a,_,_,_,rfl,rfl,SqT.of ha,rfl,rfl,_,rfl,j6 (fun d=>absurd (of_decide_eq_true d) (by decide)) (fun _=>?_)⟩
  refine ⟨_,rfl,a,_,_,_,rfl,rfl,SqT.of ha,rfl,vx,x,rfl,hx,by omega,by omega,fun l1 x1 H1 s1 n1 e1 h1=>?_⟩
  refine ⟨l1,x1,rfl,.inl (SqL.of e1),?_⟩
  rw [h1.len]
  refine gQ ?_
  refine ⟨_,rfl,_,rfl,_,_,rfl,rfl,_,rfl,j6 (fun c=>?_) (fun c=>?_)⟩
  ·have c':i < x.leaves.length:=by have:=of_decide_eq_true c;omega
   refine ⟨_,rfl,a,_,_,_,rfl,rfl,SqT.of (s1 _ _ ha),rfl,?_⟩
   refine ⟨_,rfl,a,_,_,_,rfl,rfl,SqT.of (s1 _ _ ha),rfl,_,rfl,_,rfl,vx,i,l,xs,ts,x,rfl,hx.mono s1,by omega,by omega,s1 _ _ hl,hL.mono s1,fun v' H2 s2 h2=>?_⟩
   refine ⟨_,rfl,a,_,_,_,rfl,rfl,SqT.of (s2 _ _ (s1 _ _ ha)),rfl,sm rfl,fun b hb=>?_⟩
   have s3:=je hb (.tup [V.str "split",vt,v',vy])
   have s13:=s1.trans (s2.trans s3)
   refine q _ _ s13 ?_
   unfold Pap.change
   rw [if_pos c']
   exact ⟨b,vt,v',vy,rfl,jd,ht.mono s13,h2.mono s3,hy.mono s13⟩
  ·have c':¬ i < x.leaves.length:=fun z=>c (decide_eq_true (by omega))
   refine ⟨_,rfl,a,_,_,_,rfl,rfl,SqT.of (s1 _ _ ha),rfl,?_⟩
   refine ⟨_,rfl,a,_,_,_,rfl,rfl,SqT.of (s1 _ _ ha),rfl,?_⟩
   refine ⟨_,rfl,a,_,_,_,rfl,rfl,SqT.of (s1 _ _ ha),rfl,_,rfl,_,rfl,_,_,rfl,rfl,_,rfl,vy,i - x.leaves.length,l,xs,ts,y,(by show [vy,V.int ((i:Int) - (x.leaves.length:Int)),V.ref l]=_;rw [show ((i:Int) - (x.leaves.length:Int))=((i - x.leaves.length:Nat):Int) by omega]),hy.mono s1,by omega,by omega,s1 _ _ hl,hL.mono s1,fun v' H2 s2 h2=>?_⟩
   refine ⟨sm rfl,fun b hb=>?_⟩
   have s3:=je hb (.tup [V.str "split",vt,vx,v'])
   have s13:=s1.trans (s2.trans s3)
   refine q _ _ s13 ?_
   unfold Pap.change
   rw [if_neg c']
   exact ⟨b,vt,vx,v',rfl,jd,ht.mono s13,hx.mono s13,h2.mono s3⟩
end
abbrev Jv:Stmt:=top 15
def Ks (K:W.Frag):Sp:=fun vs H Q _=>∃ (a wl tl:Addr) (ns:List Int) (k:Int) (xs ys:List V) (ws ts:List Ti),vs=[.ref a,.int k,.ref wl,.ref tl]∧SqL K H a (ns.map V.int)∧0≤k∧k≤90000∧H wl=some (.lst xs)∧HeldL H (tsD ws) xs∧H tl=some (.lst ys)∧HeldL H (tsD ts) ys∧ws.length+ts.length≤1000∧
 ∀ (p:Addr) (gs:List Ti) H',Same H H'→H p=none→Held H' (.tup (tsD gs)) (.ref p)→(∀ g∈gs,g∈ws++ts)→gs.length≤3→Q (.ref p) H'
section
variable {P:Program} {w:World} {K:W.Frag} {mg:Str→Option Value} {base:Heap}
theorem jad {f:Addr} {fd:FuncData} (F:Fun K "_law_guards" "_law_guards" Jv f fd) (B:Free0 mg) (F_pick:Fn P w K mg base 2 "_law_pick" ["_law_script","_law_k","_law_many"] (zf K)):FnOk P w K mg base CX0 3 f fd ["_law_script","_law_k","_law_way","_law_ties"] (Ks K):=by
 have sc:FnScope ["_law_script","_law_k","_law_way","_law_ties","_law_found","_law_j","_law_some"] ["_law_script","_law_k","_law_way","_law_ties"] (jk Jv):=fQ
 refine F.okZ sc (fun vs H Q E h=>?_) (fun cdv A outer s H vs Q E hr h=>?_)
 ·obtain ⟨a,wl,tl,ns,k,xs,ys,ws,ts,rfl,_⟩:=h
  rfl
 obtain ⟨a,wl,tl,ns,k,xs,ys,ws,ts,rfl,hS,h0,h1,hw,hW,ht,hT,hz,q⟩:=h
 refine ⟨_,(jf (jp (i:=4) sc.nd rfl oQ (jC jc))
   (jf (yq PassesOwn.never rfl (yf (by rfl) B.range_ (ja (jw F_pick hr (ja (zpv 0) (ja (zpv 1) (ja jb jc)))) jc)) (jt (i:=5) sc.nd rfl oQ) (jf (jp (i:=6) sc.nd rfl oQ (jj qz (zpv 2) (zpv 3)))
   (jl (jN (jq Jm (jM jz (by rfl) B.len_ kc (ja (zpv 6) jc)) jb (jB _)) (jl (jZ (kN PySem.F.plainAttrs_list PySem.F.slot_list_append PySem.F.type_list_append jO (zpv 4) (ja (jh jr (zpv 6) (jw F_pick hr (ja (zpv 0) (ja (jj jH (jj jH (zpv 1) jb) (zpv 5)) (ja (jM jz (by rfl) B.len_ kc (ja (zpv 6) jc)) jc)))) (fun _ _=>rfl)) jc)))) jD))))
   (jl (ju (ze Ki (by rfl) B.tuple_ jd1 (ja (zpv 4) jc)))))),?_⟩
 refine kD (σ':=[some (.ref a),some (.int k),some (.ref wl),some (.ref tl),none,none,none]) rfl ?_
 try dsimp only [kZ]
 refine jdD ?_
 intro _ _
 refine ⟨sm rfl,fun l hl=>?_⟩
 have s1:=je hl (.lst [])
 have e1:upd H l (.lst []) l=some (.lst []):=jd
 generalize upd H l (.lst [])=H1 at *
 refine gQ ?_
 have hwl:=hW.length
 have htl:=hT.length
 rw [List.length_map] at hwl htl
 refine ⟨_,rfl,_,rfl,a,ns,k,4,rfl,jE s1 hS,h0,by omega,by decide,fun c c0 c1=>?_⟩
 refine ⟨c,rfl,by omega,by omega,?_⟩
 refine KN (n:=c.toNat) (fun i σ G=>∃ (u5 u6:Option V) (us:List V) (gs:List Ti),σ=[some (.ref a),some (.int k),some (.ref wl),some (.ref tl),some (.ref l),u5,u6]∧Same H G∧G l=some (.lst us)∧HeldL G (tsD gs) us∧(∀ g∈gs,g∈ws++ts)∧gs.length≤i) ⟨none,none,[],[],rfl,s1,e1,ji,(fun g hg=>by cases hg),Nat.le_refl _⟩ ?_ ?_
 ·rintro i σ G hi ⟨u5,u6,us,gs,rfl,sG,hG,hgs,hin,hgl⟩
  refine gQ ?_
  refine ⟨_,rfl,_,rfl,wl,tl,_,_,rfl,rfl,sG _ _ hw,sG _ _ ht,zv (by omega),fun p hp=>?_⟩
  have s2:=je hp (.lst (xs++ys))
  have e2:upd G p (.lst (xs++ys)) p=some (.lst (xs++ys)):=jd
  generalize upd G p (.lst (xs++ys))=G1 at *
  have sA:=sG.trans s2
  refine gQ ?_
  refine ⟨_,rfl,p,_,rfl,.inl (SqL.of e2),_,_,rfl,rfl,_,rfl,j6 (fun d=>?_) (fun d=>?_)⟩
  ·have d':0 < (xs++ys).length:=by have:=of_decide_eq_true d;omega
   refine ⟨_,rfl,.inl ⟨rfl,_,SqL.of (s2 _ _ hG)⟩,?_⟩
   have hL2:HeldL G1 (tsD (ws++ts)) (xs++ys):=by
    unfold tsD
    rw [List.map_append]
    exact jJ (hW.mono sA) (hT.mono sA)
   have hLl:=hL2.length
   rw [List.length_map] at hLl
   refine ⟨_,rfl,_,rfl,_,rfl,_,_,rfl,rfl,_,rfl,_,_,rfl,rfl,_,rfl,p,_,rfl,.inl (SqL.of e2),a,ns,k+1+(0+(i:Int)),((xs++ys).length:Nat),rfl,jE sA hS,by omega,by omega,by omega,fun z z0 z1=>?_⟩
   obtain ⟨n,rfl⟩:=Int.eq_ofNat_of_zero_le z0
   have hn:n < (ws++ts).length:=by omega
   obtain ⟨v,hv,hvH⟩:=hL2.get (j:=n) (d:=(ws++ts)[n].toD) (by rw [List.getElem?_map,List.getElem?_eq_getElem hn];rfl)
   have hul:=hgs.length
   rw [List.length_map] at hul
   refine ⟨p,_,_,v,rfl,rfl,SqL.of e2,kI hv,l,us,v,rfl,rfl,s2 _ _ hG,jx (by omega),?_⟩
   have tk:TK G1 (upd G1 l (.lst (us++[v]))):=TK.upd (s2 _ _ hG) (fun xs z=>by cases z)
   refine ⟨_,_,us++[v],gs++[(ws++ts)[n]],rfl,fun b o e=>?_,jd,?_,fun g hg=>?_,by rw [List.length_append];simp only [List.length_cons,List.length_nil];omega⟩
   ·rw [jm (js e hl)]
    exact sA _ _ e
   ·unfold tsD
    rw [List.map_append]
    exact jJ (tk.heldL (hgs.mono s2)) (jg (tk.held hvH) ji)
   ·rcases List.mem_append.mp hg with hg | hg
    ·exact hin g hg
    ·rw [List.mem_singleton.mp hg];exact List.getElem_mem hn
  ·exact ⟨_,_,us,gs,rfl,sA,s2 _ _ hG,hgs.mono s2,hin,by omega⟩
 ·rintro σ G ⟨u5,u6,us,gs,rfl,sG,hG,hgs,hin,hgl⟩
  have hul:=hgs.length
  rw [List.length_map] at hul
  refine ⟨_,rfl,l,us,rfl,.inl ⟨SqL.of hG,fun b hb=>?_⟩⟩
  have s3:=je hb (.tup us)
  exact q b gs _ (sG.trans s3) (sG.free hb) (jF jd (hgs.mono s3)) hin (by omega)
end
inductive NdD (w0 w1 w2:Str):D→Prop
 | src {d:D} (h:SrcD w0 w1 w2 d):NdD w0 w1 w2 d
 | pick (n:Int) (hn:n.natAbs < 10 ^ 38):NdD w0 w1 w2 (.tup [.str "pick",.int n])
 | own (n:Int) (hn:n.natAbs < 10 ^ 38):NdD w0 w1 w2 (.tup [.str "own",.int n])
theorem zY {x y:D} {xs ys:List D} (h1:dEq x y=true→CmpL xs ys) (h2:dEq x y=false→Cmp x y):CmpL (x :: xs) (y :: ys):=by unfold CmpL;exact ⟨h1,h2⟩
theorem zX {xs ys:List D} (h:CmpL xs ys):Cmp (.tup xs) (.tup ys):=by unfold Cmp;exact h
theorem JE (a b:Str):Cmp (.str a) (.str b):=by unfold Cmp;trivial
theorem yR (a b:Int):Cmp (.int a) (.int b):=by unfold Cmp;trivial
theorem jX (ys:List D):CmpL [] ys:=by unfold CmpL;trivial
theorem jcr (xs:List D):CmpL xs []:=by cases xs <;> (unfold CmpL;trivial)
theorem j9 {a b:Str} {xs ys:List D} (h:dEq (.str a) (.str b)=true→CmpL xs ys):Cmp (.tup (.str a :: xs)) (.tup (.str b :: ys)):=zX (zY h fun _=>JE a b)
theorem Jg {a b:Str} {xs ys:List D} (h:dEq (.str a) (.str b)=false):Cmp (.tup (.str a :: xs)) (.tup (.str b :: ys)):=j9 fun z=>by rw [h] at z;cases z
theorem kU {x y:D} {xs ys:List D} (h:Cmp x y) (h2:CmpL xs ys):CmpL (x :: xs) (y :: ys):=zY (fun _=>h2) (fun _=>h)
theorem jdr {w0 w1 w2:Str} {d e:D} (h:NdD w0 w1 w2 d) (h':NdD w0 w1 w2 e):Cmp d e:=by
 rcases h with ⟨h⟩ | ⟨n,hn⟩ | ⟨n,hn⟩ <;> rcases h' with ⟨h'⟩ | ⟨m,hm⟩ | ⟨m,hm⟩
 all_goals (try cases h) <;> (try cases h')
 all_goals first
  | exact Jg (by decide +kernel)
  | exact j9 fun _=>jX _
  | exact j9 fun _=>kU (JE _ _) (jX _)
  | exact j9 fun _=>kU (yR _ _) (jX _)
  | exact j9 fun _=>kU (j9 fun _=>kU (JE _ _) (jX _)) (kU (zX (kU (j9 fun _=>kU (JE _ _) (jX _)) (kU (yR _ _) (jX _)))) (jX _))
  | exact j9 fun _=>kU (j9 fun _=>kU (yR _ _) (jX _)) (kU (zX (kU (j9 fun _=>jX _) (kU (yR _ _) (jX _)))) (jX _))
  | exact j9 fun _=>zY (fun z=>absurd z (by decide +kernel)) (fun _=>Jg (by decide +kernel))
  | exact j9 fun _=>zY (fun z=>by
    have:=jP.mp z
    injection this with this
    injection this with this
    injection this with this
    exact absurd this (by decide +kernel)) (fun _=>Jg (by decide +kernel))
theorem jaJ {w0 w1 w2:Str} {t u:Ti} (hx:NdD w0 w1 w2 t.x) (hy:NdD w0 w1 w2 t.y) (gx:NdD w0 w1 w2 u.x) (gy:NdD w0 w1 w2 u.y):Cmp t.toD u.toD:=zX (kU (jdr hx gx) (kU (jdr hy gy) (kU (yR _ _) (jX _))))
theorem jdZ {xs:List D}:∀ {ys:List D},(∀ x∈xs,∀ y∈ys,Cmp x y)→CmpL xs ys:=by
 induction xs with
 | nil=>intro ys _;exact jX _
 | cons x xs ih=>
  intro ys h
  cases ys with
  | nil=>exact jcr _
  | cons y ys=>exact kU (h x List.mem_cons_self y List.mem_cons_self) (ih fun a ha b hb=>h a (List.mem_cons_of_mem _ ha) b (List.mem_cons_of_mem _ hb))
theorem jfW {w0 w1 w2:Str} {d:D} (h:NdD w0 w1 w2 d):∃ es,d=.tup es:=by
 rcases h with ⟨h⟩ | ⟨n,hn⟩ | ⟨n,hn⟩
 ·cases h <;> exact ⟨_,rfl⟩
 ·exact ⟨_,rfl⟩
 ·exact ⟨_,rfl⟩
theorem q5 {w0 w1 w2:Str} {d:D} (h:NdD w0 w1 w2 d):d.depth≤3:=by
 rcases h with ⟨h⟩ | ⟨n,hn⟩ | ⟨n,hn⟩
 ·cases h <;> simp [D.depth,D.depthL]
 ·simp [D.depth,D.depthL]
 ·simp [D.depth,D.depthL]
theorem jgi {w0 w1 w2:Str} {c e:Cla} (h:∀ t∈c.2 :: c.1,NdD w0 w1 w2 t.x∧NdD w0 w1 w2 t.y) (h':∀ t∈e.2 :: e.1,NdD w0 w1 w2 t.x∧NdD w0 w1 w2 t.y):Cmp (clD c) (clD e):=by
 have key:∀ t∈c.2 :: c.1,∀ u∈e.2 :: e.1,Cmp t.toD u.toD:=fun t ht u hu=>jaJ (h t ht).1 (h t ht).2 (h' u hu).1 (h' u hu).2
 refine zX (kU (zX (jdZ fun x hx y hy=>?_)) (kU (key _ List.mem_cons_self _ List.mem_cons_self) (jX _)))
 obtain ⟨t,ht,rfl⟩:=List.mem_map.mp hx
 obtain ⟨u,hu,rfl⟩:=List.mem_map.mp hy
 exact key t (List.mem_cons_of_mem _ ht) u (List.mem_cons_of_mem _ hu)
theorem KB:∀ c∈(Str.ofString "nought").cps.toList,97≤c∧c≤122:=by decide +kernel
theorem KC:(Str.ofString "nought").length=6:=by decide +kernel
theorem JX:∀ c∈(Str.ofString "start").cps.toList,97≤c∧c≤122:=by decide +kernel
theorem JY:(Str.ofString "start").length=5:=by decide +kernel
theorem jds:∀ c∈(Str.ofString "own").cps.toList,97≤c∧c≤122:=by decide +kernel
theorem jdu:(Str.ofString "own").length=3:=by decide +kernel
theorem ja9:∀ c∈(Str.ofString "pick").cps.toList,97≤c∧c≤122:=by decide +kernel
theorem jbc:(Str.ofString "pick").length=4:=by decide +kernel
theorem Zo:∀ c∈(Str.ofString "entry").cps.toList,97≤c∧c≤122:=by decide +kernel
theorem Zp:(Str.ofString "entry").length=5:=by decide +kernel
theorem jf0:∀ c∈(Str.ofString "row").cps.toList,97≤c∧c≤122:=by decide +kernel
theorem jf2:(Str.ofString "row").length=3:=by decide +kernel
theorem jf1:∀ c∈(Str.ofString "put").cps.toList,97≤c∧c≤122:=by decide +kernel
theorem jf3:(Str.ofString "put").length=3:=by decide +kernel
structure Wds (w0 w1 w2:Str):Prop where
 a:WdOk w0
 b:WdOk w1
 c:WdOk w2
theorem ja7 {w0 w1 w2:Str} (W:Wds w0 w1 w2) {d:D} (h:NdD w0 w1 w2 d):OkD d∧d.big≤1000:=by
 have a:=W.a.few
 have b:=W.b.few
 have c:=W.c.few
 have big38:∀ n:Int,n.natAbs < 10 ^ 38→n.natAbs < 10 ^ 39:=fun n h=>Nat.lt_trans h (by decide)
 rcases h with ⟨h⟩ | ⟨n,hn⟩ | ⟨n,hn⟩
 ·cases h with
  | row x h0 h1=>
   refine ⟨?_,by simp only [D.big,D.bigL,Zp,jf2,JY];omega⟩
   simp only [OkD,OkDL]
   exact ⟨Zo,⟨jf0,W.c.abc,trivial⟩,⟨⟨JX,W.a.abc,trivial⟩,Nat.lt_of_le_of_lt (show x.natAbs≤2 by omega) (by decide),trivial⟩,trivial⟩
  | put x h0 h1=>
   refine ⟨?_,by simp only [D.big,D.bigL,Zp,jf3,KC];omega⟩
   simp only [OkD,OkDL]
   have:x.natAbs < 10 ^ 18:=by omega
   exact ⟨Zo,⟨jf1,by decide,trivial⟩,⟨⟨KB,trivial⟩,Nat.lt_trans this (by decide),trivial⟩,trivial⟩
  | nought=>exact ⟨by simp only [OkD,OkDL];exact ⟨KB,trivial⟩,by simp only [D.big,D.bigL,KC];omega⟩
  | start0=>exact ⟨by simp only [OkD,OkDL];exact ⟨JX,W.a.abc,trivial⟩,by simp only [D.big,D.bigL,JY];omega⟩
  | start1=>exact ⟨by simp only [OkD,OkDL];exact ⟨JX,W.b.abc,trivial⟩,by simp only [D.big,D.bigL,JY];omega⟩
  | own=>exact ⟨by simp only [OkD,OkDL];exact ⟨jds,by decide,trivial⟩,by simp only [D.big,D.bigL,jdu];omega⟩
  | pick=>exact ⟨by simp only [OkD,OkDL];exact ⟨ja9,by decide,trivial⟩,by simp only [D.big,D.bigL,jbc];omega⟩
 ·exact ⟨by simp only [OkD,OkDL];exact ⟨ja9,big38 _ hn,trivial⟩,by simp only [D.big,D.bigL,jbc];omega⟩
 ·exact ⟨by simp only [OkD,OkDL];exact ⟨jds,big38 _ hn,trivial⟩,by simp only [D.big,D.bigL,jdu];omega⟩
structure VT (w0 w1 w2:Str) (t:Ti):Prop where
 x:NdD w0 w1 w2 t.x
 y:NdD w0 w1 w2 t.y
 c:t.c.natAbs < 10 ^ 36
theorem VT.ok {w0 w1 w2:Str} (W:Wds w0 w1 w2) {t:Ti} (h:VT w0 w1 w2 t):TiOk t:=by
 obtain ⟨a1,a2⟩:=ja7 W h.x
 obtain ⟨b1,b2⟩:=ja7 W h.y
 have c:=h.c
 refine ⟨?_,?_,?_⟩
 ·unfold Ti.toD
  simp only [OkD,OkDL]
  exact ⟨a1,b1,Nat.lt_trans c (by decide),trivial⟩
 ·unfold Ti.toD
  have:=q5 h.x
  have:=q5 h.y
  simp only [D.depth,D.depthL]
  omega
 ·unfold Ti.toD
  simp only [D.big,D.bigL]
  omega
theorem VT.turn {w0 w1 w2:Str} {t:Ti} (h:VT w0 w1 w2 t) (hc:t.c.natAbs < 10 ^ 30):VT w0 w1 w2 t.turn:=by
 refine ⟨h.y,h.x,?_⟩
 show (-1 - t.c).natAbs < 10 ^ 36
 have:(-1 - t.c).natAbs≤t.c.natAbs+1:=by omega
 have h2:(10:Nat) ^ 30+1 < 10 ^ 36:=by decide
 omega
def pk (n:Nat):D:=.tup [.str "pick",.int (n:Nat)]
theorem Yg {a b:Nat} (h:pk a=pk b):a=b:=by
 unfold pk at h
 injection h with h
 injection h with _ h
 injection h with h _
 injection h with h
 omega
def pkN:D→Option Int
 | .tup [.str s,.int n]=>if decide (s=Str.ofString "pick") then some n else none
 | _=>none
theorem Zc (n:Int):pkN (.tup [.str "pick",.int n])=some n:=by
 show (if decide ((Str.ofString "pick")=Str.ofString "pick")=true then some n else none)=_
 rw [decide_eq_true rfl,if_pos rfl]
theorem Jx (n:Int):pkN (.tup [.str "own",.int n])=none:=by
 show (if decide ((Str.ofString "own")=Str.ofString "pick")=true then some n else none)=_
 rw [show decide ((Str.ofString "own")=Str.ofString "pick")=false by decide +kernel]
 rfl
theorem qU (n:Nat):pkN (pk n)=some (n:Int):=Zc _
theorem Jw {w0 w1 w2:Str} {d:D} (h:SrcD w0 w1 w2 d):pkN d=none∨pkN d=some 3:=by
 cases h with
 | nought=>exact .inl rfl
 | start0=>exact .inl rfl
 | start1=>exact .inl rfl
 | own=>exact .inl (Jx 0)
 | pick=>exact .inr (Zc 3)
 | row c h0 h1=>exact .inl rfl
 | put c h0 h1=>exact .inl rfl
def Far (d:D):Prop:=∀ n:Int,pkN d=some n→n < 100∨2000≤n
theorem jbn {w0 w1 w2:Str} {d:D} (h:SrcD w0 w1 w2 d):Far d:=fun n e=>by
 rcases Jw h with z | z
 ·rw [z] at e;cases e
 ·rw [z] at e;cases e;exact .inl (by decide)
theorem jdL {n:Nat} (h:2000≤n):Far (pk n):=fun m e=>by rw [qU] at e;cases e;exact .inr (by omega)
theorem yj {d:D} {n:Nat} (h:Far d) (h0:100≤n) (h1:n < 2000):d≠pk n:=fun e=>by
 rcases h n (by rw [e,qU]) with z | z <;> omega
def Own (n:Nat) (t:Ti):Prop:=∃ j,j < 30∧(t.x=pk (100+50 * n+j)∨t.y=pk (100+50 * n+j))
def FarT (t:Ti):Prop:=Far t.x∧Far t.y∧∃ i:Nat,2000≤i∧i≤3000∧(t.x=pk i∨t.y=pk i)
theorem ja4 {n:Nat} {t:Ti} (hn:n≤30) (h:Own n t) (f:FarT t):False:=by
 obtain ⟨j,hj,e | e⟩:=h
 ·exact yj f.1 (by omega) (by omega) e
 ·exact yj f.2.1 (by omega) (by omega) e
def Ends (n:Nat) (d:D):Prop:=Far d∨∃ j,j < 30∧d=pk (100+50 * n+j)
structure OwnT (w0 w1 w2:Str) (n:Nat) (t:Ti):Prop where
 v:VT w0 w1 w2 t
 o:Own n t
 ex:Ends n t.x
 ey:Ends n t.y
theorem jdN {n m:Nat} {d:D} {j:Nat} (hm:m≤30) (hj:j < 30) (h:Ends n d) (e:d=pk (100+50 * m+j)):n=m:=by
 rcases h with h | ⟨i,hi,h⟩
 ·exact (yj h (by omega) (by omega) e).elim
 ·have:=Yg (h.symm.trans e);omega
theorem jgQ {w0 w1 w2:Str} {n m:Nat} {t u:Ti} (hm:m≤30) (h:OwnT w0 w1 w2 n t) (h':OwnT w0 w1 w2 m u) (ex:t.x=u.x) (ey:t.y=u.y):n=m:=by
 obtain ⟨j,hj,e | e⟩:=h'.o
 ·exact jdN hm hj h.ex (ex.trans e)
 ·exact jdN hm hj h.ey (ey.trans e)
def Ti.xy (t:Ti):D×D:=(t.x,t.y)
structure LeafR (w0 w1 w2:Str) (n:Nat) (ws T0:List Ti) (ts os T':List Ti) (C':List Cla):Prop where
 closes:ql ts=true
 neg:(ts.map Ti.c).sum < 0
 shape:(ts=os∧(n=0→ws=[]))∨(∃ a∈ws,ts=a :: os∧(n=0→ws.head?=some a))
 own:∀ t∈os,OwnT w0 w1 w2 n t
 nd:(os.map Ti.xy).Nodup
 ne:os≠[]
 got:∀ t∈os,t∈T'∨∃ c∈C',c.2=t
 tsub:∀ t∈T',t∈os
 tnd:T'.Nodup
 csub:∀ c∈C',c.2∈os∧(∀ g∈c.1,g∈ws∨g∈T0++T')∧c.1.length≤3
 cnd:(C'.map (·.2)).Nodup
 swap:∀ t0 t1 r,ts=t0 :: t1 :: r→r≠[]→t1.y≠t0.x
 len:ts.length≤32
 tlen:T'.length+C'.length≤32
inductive Lvs (w0 w1 w2:Str):Nat→List Ti→List Cla→List (List Ti×List Ti)→Nat→List Ti→List Cla→Prop
 | nil {n:Nat} {T:List Ti} {C:List Cla}:Lvs w0 w1 w2 n T C [] n T C
 | cons {n n2:Nat} {T T' T2:List Ti} {C C' C2:List Cla} {ws ts os:List Ti} {L:List (List Ti×List Ti)} (h:LeafR w0 w1 w2 n ws T ts os T' C') (hw:∀ a∈ws,VT w0 w1 w2 a∧FarT a) (h2:Lvs w0 w1 w2 (n+1) (T++T') (C++C') L n2 T2 C2):Lvs w0 w1 w2 n T C ((ws,ts) :: L) n2 T2 C2
theorem Lvs.app {w0 w1 w2:Str} {n n2 n3:Nat} {T T2 T3:List Ti} {C C2 C3:List Cla} {L M:List (List Ti×List Ti)} (h:Lvs w0 w1 w2 n T C L n2 T2 C2) (h':Lvs w0 w1 w2 n2 T2 C2 M n3 T3 C3):Lvs w0 w1 w2 n T C (L++M) n3 T3 C3:=by
 induction h with
 | nil=>exact h'
 | cons a hw _ ih=>exact .cons a hw (ih h')
theorem Lvs.num {w0 w1 w2:Str} {n n2:Nat} {T T2:List Ti} {C C2:List Cla} {L:List (List Ti×List Ti)} (h:Lvs w0 w1 w2 n T C L n2 T2 C2):n2=n+L.length:=by
 induction h with
 | nil=>rfl
 | cons a hw _ ih=>rw [ih,List.length_cons];omega
def Pap.lw:List Ti→Pap→List (List Ti×List Ti)
 | ws,.ring ts=>[(ws,ts)]
 | ws,.split t x y=>x.lw (ws++[t])++y.lw (ws++[t.turn])
theorem Pap.lw_leaves:∀ (p:Pap) (ws:List Ti),(p.lw ws).map (·.2)=p.leaves
 | .ring ts,ws=>rfl
 | .split t x y,ws=>by
  show ((x.lw _++y.lw _).map _)=x.leaves++y.leaves
  rw [List.map_append,Pap.lw_leaves x,Pap.lw_leaves y]
theorem Pap.lw_len (p:Pap) (ws:List Ti):(p.lw ws).length=p.leaves.length:=by rw [← Pap.lw_leaves p ws,List.length_map]
theorem Pap.lw_shift:∀ (p:Pap) (us ws:List Ti),p.lw (us++ws)=(p.lw ws).map fun e=>(us++e.1,e.2)
 | .ring ts,us,ws=>rfl
 | .split t x y,us,ws=>by
  show x.lw ((us++ws)++[t])++y.lw ((us++ws)++[t.turn])=((x.lw _++y.lw _).map _)
  rw [List.map_append,← Pap.lw_shift x,← Pap.lw_shift y,List.append_assoc,List.append_assoc]
theorem Pap.change_lw:∀ (p:Pap) (ws:List Ti) (i:Nat) (ts':List Ti) (w ts:List Ti),(p.lw ws)[i]?=some (w,ts)→(w,ts')∈(p.change i ts').lw ws
 | .ring ts0,ws,i,ts',w,ts,h=>by
  have h:[(ws,ts0)][i]?=some (w,ts):=h
  cases i with
  | zero=>cases h;exact List.mem_singleton.mpr rfl
  | succ i=>simp at h
 | .split t x y,ws,i,ts',w,ts,h=>by
  have h:(x.lw (ws++[t])++y.lw (ws++[t.turn]))[i]?=some (w,ts):=h
  unfold Pap.change
  by_cases c:i < x.leaves.length
  ·rw [if_pos c]
   rw [List.getElem?_append_left (by rw [Pap.lw_len];exact c)] at h
   exact List.mem_append_left _ (Pap.change_lw x _ i ts' w ts h)
  ·rw [if_neg c]
   rw [List.getElem?_append_right (by rw [Pap.lw_len];omega),Pap.lw_len] at h
   exact List.mem_append_right _ (Pap.change_lw y _ _ ts' w ts h)
theorem Pap.change_ok:∀ (p:Pap) (i:Nat) (ts:List Ti),ye p→ts.length≤100→(∀ t∈ts,TiOk t)→ye (p.change i ts)
 | .ring ts0,i,ts,h,h1,h2=>⟨h1,h2⟩
 | .split t x y,i,ts,h,h1,h2=>by
  obtain ⟨a,b,c,d⟩:=h
  unfold Pap.change
  by_cases z:i < x.leaves.length
  ·rw [if_pos z];exact ⟨a,b,Pap.change_ok x _ _ c h1 h2,d⟩
  ·rw [if_neg z];exact ⟨a,b,c,Pap.change_ok y _ _ d h1 h2⟩
theorem Pap.change_deep:∀ (p:Pap) (i:Nat) (ts:List Ti),(p.change i ts).deep=p.deep
 | .ring ts0,i,ts=>rfl
 | .split t x y,i,ts=>by
  unfold Pap.change
  by_cases z:i < x.leaves.length
  ·rw [if_pos z];show max (x.change i ts).deep y.deep+1=max x.deep y.deep+1;rw [Pap.change_deep x]
  ·rw [if_neg z];show max x.deep (y.change _ ts).deep+1=max x.deep y.deep+1;rw [Pap.change_deep y]
def jd5 (T:List Ti) (C:List Cla) (w:List Ti) (t:Ti):Prop:=(t∈T∨t∈w)∨∃ c∈C,c.2=t∧∀ g∈c.1,g∈T∨g∈w
def jbB (T:List Ti) (C:List Cla) (w ts:List Ti):Prop:=ql ts=true∧(ts.map Ti.c).sum < 0∧∀ t∈ts,jd5 T C w t
def YE (T:List Ti) (C:List Cla) (w:List Ti) (p:Pap):Prop:=∀ e∈p.lw w,jbB T C e.1 e.2
theorem ja8 {T:List Ti} {t:Ti} (hT:∀ u∈T,TiOk u) (ht:TiOk t):t.key∈T.map Ti.key↔t∈T:=by
 rw [List.mem_map]
 constructor
 ·rintro ⟨u,hu,e⟩
  rw [← (jbe (hT u hu) ht).mp e];exact hu
 ·intro h;exact ⟨t,h,rfl⟩
theorem J4 {T w:List Ti} {t:Ti} (hT:∀ u∈T,TiOk u) (hw:∀ u∈w,TiOk u) (ht:TiOk t):isIn (T.map Ti.key) (w.map Ti.key) t.key=true↔(t∈T∨t∈w):=by
 unfold isIn
 rw [Bool.or_eq_true,decide_eq_true_iff,decide_eq_true_iff,ja8 hT ht,ja8 hw ht]
theorem ZC {T w:List Ti} {C:List Cla} {t:Ti} (hT:∀ u∈T,TiOk u) (hC:∀ c∈C,ClaOk c) (hw:∀ u∈w,TiOk u) (ht:TiOk t):yN (T.map Ti.key) (w.map Ti.key) (C.map clK) t.key=true↔jd5 T C w t:=by
 unfold yN jd5
 rw [Bool.or_eq_true,J4 hT hw ht,List.any_eq_true]
 refine or_congr Iff.rfl ⟨?_,?_⟩
 ·rintro ⟨x,hx,hg⟩
  obtain ⟨h1,h2⟩:=List.mem_filter.mp hx
  obtain ⟨c,hc,rfl⟩:=List.mem_map.mp h1
  refine ⟨c,hc,(jbe (hC c hc).t ht).mp (of_decide_eq_true h2),fun g hgc=>?_⟩
  exact (J4 hT hw ((hC c hc).gs g hgc)).mp (List.all_eq_true.mp hg _ (List.mem_map.mpr ⟨g,hgc,rfl⟩))
 ·rintro ⟨c,hc,rfl,hg⟩
  refine ⟨clK c,List.mem_filter.mpr ⟨List.mem_map.mpr ⟨c,hc,rfl⟩,decide_eq_true rfl⟩,List.all_eq_true.mpr fun k hk=>?_⟩
  obtain ⟨g,hgc,rfl⟩:=List.mem_map.mp hk
  exact (J4 hT hw ((hC c hc).gs g hgc)).mpr (hg g hgc)
theorem jcY {T w:List Ti} {C:List Cla} {ts:List Ti} (hT:∀ u∈T,TiOk u) (hC:∀ c∈C,ClaOk c) (hw:∀ u∈w,TiOk u) (ht:∀ t∈ts,TiOk t):Jk (T.map Ti.key) (w.map Ti.key) (C.map clK) ts=true↔jbB T C w ts:=by
 unfold Jk jbB
 rw [Bool.and_eq_true,Bool.and_eq_true,decide_eq_true_iff,List.all_eq_true]
 exact and_congr Iff.rfl (and_congr Iff.rfl ⟨fun h t z=>(ZC hT hC hw (ht t z)).mp (h t z),fun h t z=>(ZC hT hC hw (ht t z)).mpr (h t z)⟩)
theorem Jy {T:List Ti} {C:List Cla} (hT:∀ u∈T,TiOk u) (hC:∀ c∈C,ClaOk c):∀ {p:Pap} {w:List Ti},(∀ u∈w,TiOk u)→ye p→(zG (T.map Ti.key) (C.map clK) (w.map Ti.key) p=true↔YE T C w p)
 | .ring ts,w,hw,hp=>by
  unfold zG YE
  rw [jcY hT hC hw hp.2]
  exact ⟨fun h e he=>by cases List.mem_singleton.mp he;exact h,fun h=>h (w,ts) (List.mem_singleton.mpr rfl)⟩
 | .split t x y,w,hw,hp=>by
  obtain ⟨a,b,c,d⟩:=hp
  have hw1:∀ (t':Ti),TiOk t'→∀ u∈w++[t'],TiOk u:=fun t' h u hu=>by
   rcases List.mem_append.mp hu with hu | hu
   ·exact hw u hu
   ·rw [List.mem_singleton.mp hu];exact h
  have e1:=Jy hT hC (p:=x) (hw1 t a) c
  have e2:=Jy hT hC (p:=y) (hw1 t.turn b) d
  rw [List.map_append] at e1 e2
  unfold zG
  rw [Bool.and_eq_true]
  show zG _ _ (w.map Ti.key++[t].map Ti.key) x=true∧zG _ _ (w.map Ti.key++[t.turn].map Ti.key) y=true↔_
  rw [e1,e2]
  unfold YE
  show _↔∀ e∈x.lw (w++[t])++y.lw (w++[t.turn]),_
  exact ⟨fun h e he=>(List.mem_append.mp he).elim (h.1 e) (h.2 e),fun h=>⟨fun e he=>h e (List.mem_append_left _ he),fun e he=>h e (List.mem_append_right _ he)⟩⟩
theorem Kx {T T2:List Ti} {C C2:List Cla} (h1:∀ t,t∈T2↔t∈T) (h2:∀ c,c∈C2↔c∈C) {w:List Ti} {p:Pap}:YE T2 C2 w p↔YE T C w p:=by
 unfold YE jbB jd5
 simp only [h1,h2]
def pns (n m:Nat):List D:=(List.range m).map fun j=>pk (100+50 * n+j)
theorem qO {n m:Nat} {d:D} (h:d∈pns n m):∃ j,j < m∧d=pk (100+50 * n+j):=by
 obtain ⟨j,hj,rfl⟩:=List.mem_map.mp h
 exact ⟨j,List.mem_range.mp hj,rfl⟩
theorem qp {α β:Type} {f:α→β} (hf:∀ a b,f a=f b→a=b):∀ {l:List α},l.Nodup→(l.map f).Nodup
 | [],_=>List.nodup_nil
 | a :: l,h=>by
  obtain ⟨h1,h2⟩:=List.nodup_cons.mp h
  rw [List.map_cons]
  refine List.nodup_cons.mpr ⟨fun z=>?_,qp hf h2⟩
  obtain ⟨b,hb,e⟩:=List.mem_map.mp z
  exact h1 (hf _ _ e ▸ hb)
theorem kB {α β:Type} {f:α→β}:∀ {l:List α},(l.map f).Nodup→l.Nodup
 | [],_=>List.nodup_nil
 | a :: l,h=>by
  rw [List.map_cons] at h
  obtain ⟨h1,h2⟩:=List.nodup_cons.mp h
  exact List.nodup_cons.mpr ⟨fun z=>h1 (List.mem_map.mpr ⟨a,z,rfl⟩),kB h2⟩
theorem q0 (n m:Nat):(pns n m).Nodup:=qp (fun a b e=>by have:=Yg e;omega) List.nodup_range
theorem kA (n m:Nat):(pns n m).length=m:=by unfold pns;rw [List.length_map,List.length_range]
theorem Yf {w0 w1 w2:Str} {n m:Nat} {d:D} (hn:n≤30) (hm:m≤30) (h:d∈pns n m):NdD w0 w1 w2 d:=by
 obtain ⟨j,hj,rfl⟩:=qO h
 refine .pick _ ?_
 have:(((100+50 * n+j:Nat):Int)).natAbs≤2000:=by omega
 exact Nat.lt_of_le_of_lt this (by decide)
theorem KR {ts:List Ti} {N:List D} (ex:ts.map Ti.x=N) (ey:ts.map Ti.y=N.drop 1++N.take 1) (ne:ts≠[]):ql ts=true:=by
 unfold ql
 rw [Bool.and_eq_true]
 refine ⟨by cases ts with | nil=>exact absurd rfl ne | cons _ _=>rfl,decide_eq_true ?_⟩
 rw [ey,List.map_append,List.map_drop,List.map_take,ex]
theorem YG {ts:List Ti} (h:(ts.map Ti.x).Nodup):(ts.map Ti.xy).Nodup:=by
 refine kB (f:=Prod.fst) ?_
 rw [List.map_map]
 exact h
theorem Z4 {w0 w1 w2:Str} {n m:Nat} {ws ts:List Ti} {N:List D} (hn:n≤30) (hm0:1≤m) (hm:m≤30) (hw:∀ a∈ws,VT w0 w1 w2 a∧FarT a) (ex:ts.map Ti.x=N) (ey:ts.map Ti.y=N.drop 1++N.take 1) (sh:(N=pns n m∧(n=0→ws=[]))∨∃ a r,a∈ws∧ts=a :: r∧N=a.x :: a.y :: pns n m∧(n=0→ws.head?=some a)):ts.Nodup:=by
 rcases sh with ⟨hN,hz⟩ | ⟨a,r,ha,hts,hN,hz⟩
 ·exact kB (f:=Ti.x) (by rw [ex,hN];exact q0 n m)
 ·subst hts
  have far_pns:∀ d,Far d→d ∉ pns n m:=fun d f z=>by
   obtain ⟨j,hj,e⟩:=qO z
   exact yj f (by omega) (by omega) e
  have ex1:r.map Ti.x=a.y :: pns n m:=by
   rw [hN,List.map_cons] at ex
   injection ex
  have ey1:r.map Ti.y=pns n m++[a.x]:=by
   rw [hN,List.map_cons] at ey
   simp only [List.drop_succ_cons,List.drop_zero,List.take_succ_cons,List.take_zero,List.cons_append] at ey
   injection ey
  have fa:=(hw a ha).2
  refine List.nodup_cons.mpr ⟨fun z=>?_,kB (f:=Ti.x) (by rw [ex1];exact List.nodup_cons.mpr ⟨far_pns _ fa.2.1,q0 n m⟩)⟩
  cases r with
  | nil=>cases z
  | cons t0 q=>
   rw [List.map_cons] at ex1 ey1
   injection ex1 with _ ex1
   rcases List.mem_cons.mp z with e | e
   ·cases hp:pns n m with
    | nil=>have:=kA n m;rw [hp] at this;simp at this;omega
    | cons p0 pr=>
     rw [hp,List.cons_append] at ey1
     injection ey1 with e0 _
     exact far_pns _ fa.2.1 (by rw [e,e0,hp];exact List.mem_cons_self)
   ·exact far_pns _ fa.1 (by rw [← ex1];exact List.mem_map.mpr ⟨a,e,rfl⟩)
theorem jce {w0 w1 w2:Str} {n m:Nat} {ws T0 ts T':List Ti} {C':List Cla} {N:List D} (hn:n≤30) (hm0:1≤m) (hm:m≤30) (hw:∀ a∈ws,VT w0 w1 w2 a∧FarT a) (ex:ts.map Ti.x=N) (ey:ts.map Ti.y=N.drop 1++N.take 1) (hc:∀ t∈ts,t.c.natAbs < 10 ^ 36) (neg:(ts.map Ti.c).sum < 0)
  (sh:(N=pns n m∧(n=0→ws=[]))∨∃ a r,a∈ws∧ts=a :: r∧N=a.x :: a.y :: pns n m∧(n=0→ws.head?=some a)) (got:∀ t∈ts,t ∉ ws→t∈T'∨∃ c∈C',c.2=t) (tsub:∀ t∈T',t∈ts∧t ∉ ws) (tnd:T'.Nodup)
  (csub:∀ c∈C',(c.2∈ts∧c.2 ∉ ws)∧(∀ g∈c.1,g∈ws∨g∈T0++T')∧c.1.length≤3) (cnd:(C'.map (·.2)).Nodup) (tlen:T'.length+C'.length≤ts.length):∃ os,LeafR w0 w1 w2 n ws T0 ts os T' C':=by
 have far:∀ t,Own n t→t ∉ ws:=fun t o z=>ja4 hn o (hw t z).2
 have hlen:ts.length=N.length:=by rw [← ex,List.length_map]
 rcases sh with ⟨hN,hz⟩ | ⟨a,r,ha,hts,hN,hz⟩
 ·have hx:∀ t∈ts,t.x∈pns n m:=fun t ht=>by rw [← hN,← ex];exact List.mem_map.mpr ⟨t,ht,rfl⟩
  have hy:∀ t∈ts,t.y∈pns n m:=fun t ht=>by
   have:t.y∈N.drop 1++N.take 1:=by rw [← ey];exact List.mem_map.mpr ⟨t,ht,rfl⟩
   rw [← hN]
   rcases List.mem_append.mp this with z | z
   ·exact List.mem_of_mem_drop z
   ·exact List.mem_of_mem_take z
  have own:∀ t∈ts,OwnT w0 w1 w2 n t:=fun t ht=>by
   obtain ⟨j,hj,e⟩:=qO (hx t ht)
   obtain ⟨i,hi,e'⟩:=qO (hy t ht)
   exact ⟨⟨Yf hn hm (hx t ht),Yf hn hm (hy t ht),hc t ht⟩,⟨j,by omega,.inl e⟩,.inr ⟨j,by omega,e⟩,.inr ⟨i,by omega,e'⟩⟩
  have nn:ts≠[]:=fun z=>by rw [z,hN,kA] at hlen;simp at hlen;omega
  refine ⟨ts,KR ex ey nn,neg,.inl ⟨rfl,hz⟩,own,YG (by rw [ex,hN];exact q0 n m),nn,fun t ht=>got t ht (far t (own t ht).o),fun t ht=>(tsub t ht).1,tnd,fun c hc=>⟨(csub c hc).1.1,(csub c hc).2⟩,cnd,fun t0 t1 q e ne z=>?_,by rw [hlen,hN,kA];omega,by rw [hlen,hN,kA] at tlen;omega⟩
  obtain ⟨t2,q',rfl⟩:=List.exists_cons_of_ne_nil ne
  have nd:=q0 n m
  rw [← hN,← ex,e] at nd
  rw [e] at ex ey
  rw [← ex] at ey
  simp only [List.map_cons,List.drop_succ_cons,List.drop_zero,List.cons_append] at ey nd
  injection ey with _ ey
  injection ey with ey _
  rw [ey] at z
  exact (List.nodup_cons.mp nd).1 (by rw [← z];exact List.mem_cons_of_mem _ List.mem_cons_self)
 ·subst hts
  have fa:=hw a ha
  have ex1:r.map Ti.x=a.y :: pns n m:=by
   rw [hN,List.map_cons] at ex
   injection ex
  have ey1:r.map Ti.y=pns n m++[a.x]:=by
   rw [hN,List.map_cons] at ey
   simp only [List.drop_succ_cons,List.drop_zero,List.take_succ_cons,List.take_zero,List.cons_append] at ey
   injection ey
  obtain ⟨t0,q,rfl⟩:∃ t0 q,r=t0 :: q:=by
   cases r with
   | nil=>simp at ex1
   | cons t0 q=>exact ⟨t0,q,rfl⟩
  obtain ⟨p0,pr,hp⟩:∃ p0 pr,pns n m=p0 :: pr:=by
   cases h:pns n m with
   | nil=>have:=kA n m;rw [h] at this;simp at this;omega
   | cons p0 pr=>exact ⟨p0,pr,rfl⟩
  have hx0:t0.x=a.y:=by rw [List.map_cons] at ex1;injection ex1
  have hy0:t0.y=p0:=by rw [List.map_cons,hp,List.cons_append] at ey1;injection ey1
  have hxq:∀ t∈q,t.x∈pns n m:=fun t ht=>by
   rw [List.map_cons] at ex1
   injection ex1 with _ ex1
   rw [← ex1]
   exact List.mem_map.mpr ⟨t,ht,rfl⟩
  have hy:∀ t∈t0 :: q,t.y∈pns n m∨t.y=a.x:=fun t ht=>by
   have:t.y∈pns n m++[a.x]:=by rw [← ey1];exact List.mem_map.mpr ⟨t,ht,rfl⟩
   rcases List.mem_append.mp this with z | z
   ·exact .inl z
   ·exact .inr (List.mem_singleton.mp z)
  have nax:Far a.x:=fa.2.1
  have nay:Far a.y:=fa.2.2.1
  have ndy:∀ t∈t0 :: q,NdD w0 w1 w2 t.y∧Ends n t.y:=fun t ht=>by
   rcases hy t ht with z | z
   ·obtain ⟨i,hi,e'⟩:=qO z
    exact ⟨Yf hn hm z,.inr ⟨i,by omega,e'⟩⟩
   ·rw [z];exact ⟨fa.1.x,.inl nax⟩
  have own:∀ t∈t0 :: q,OwnT w0 w1 w2 n t:=fun t ht=>by
   have hc1:=hc t (List.mem_cons_of_mem _ ht)
   obtain ⟨y1,y2⟩:=ndy t ht
   rcases List.mem_cons.mp ht with z | z
   ·subst z
    obtain ⟨i,hi,e'⟩:=qO (n:=n) (m:=m) (d:=t.y) (by rw [hy0,hp];exact List.mem_cons_self)
    exact ⟨⟨by rw [hx0];exact fa.1.y,y1,hc1⟩,⟨i,by omega,.inr e'⟩,by rw [hx0];exact .inl nay,y2⟩
   ·obtain ⟨j,hj,e⟩:=qO (hxq t z)
    exact ⟨⟨Yf hn hm (hxq t z),y1,hc1⟩,⟨j,by omega,.inl e⟩,.inr ⟨j,by omega,e⟩,y2⟩
  have far_pns:∀ d,Far d→d ∉ pns n m:=fun d f z=>by
   obtain ⟨j,hj,e⟩:=qO z
   exact yj f (by omega) (by omega) e
  have sub:∀ t,t∈a :: t0 :: q→t ∉ ws→t∈t0 :: q:=fun t ht h=>by
   rcases List.mem_cons.mp ht with z | z
   ·rw [z] at h;exact absurd ha h
   ·exact z
  refine ⟨t0 :: q,KR ex ey (List.cons_ne_nil _ _),neg,.inr ⟨a,ha,rfl,hz⟩,own,YG (by rw [ex1];exact List.nodup_cons.mpr ⟨far_pns _ nay,q0 n m⟩),List.cons_ne_nil _ _,fun t ht=>got t (List.mem_cons_of_mem _ ht) (far t (own t ht).o),fun t ht=>sub t (tsub t ht).1 (tsub t ht).2,tnd,fun c hc=>⟨sub _ (csub c hc).1.1 (csub c hc).1.2,(csub c hc).2⟩,cnd,fun u0 u1 q' e ne z=>?_,by rw [hlen,hN,List.length_cons,List.length_cons,kA];omega,by rw [hlen,hN,List.length_cons,List.length_cons,kA] at tlen;omega⟩
  injection e with e1 e2
  injection e2 with e2 e3
  subst e1 e2
  rw [hy0] at z
  exact far_pns _ nax (by rw [← z,hp];exact List.mem_cons_self)
structure LPr (R ws T:List Ti) (i:Nat) (T':List Ti) (C':List Cla):Prop where
 got:∀ t∈R.take i,t ∉ ws→t∈T'∨∃ c∈C',c.2=t
 tsub:∀ t∈T',t∈R.take i∧t ∉ ws
 tnd:T'.Nodup
 csub:∀ c∈C',(c.2∈R.take i∧c.2 ∉ ws)∧(∀ g∈c.1,g∈ws∨g∈T++T')∧c.1.length≤3
 cnd:(C'.map (·.2)).Nodup
 len:T'.length+C'.length≤i
theorem LPr.zero (R ws T:List Ti):LPr R ws T 0 [] []:=⟨fun t h=>(by simp at h),fun t h=>(by cases h),List.nodup_nil,fun c h=>(by cases h),List.nodup_nil,Nat.le_refl _⟩
theorem kn {R:List Ti} {i:Nat} (hi:i < R.length) {t:Ti}:t∈R.take (i+1)↔t∈R.take i∨t=R[i]:=by
 rw [List.take_succ,List.getElem?_eq_getElem hi,List.mem_append]
 simp
theorem KA {R:List Ti} (nd:R.Nodup) {i:Nat} (hi:i < R.length):R[i] ∉ R.take i:=fun h=>by
 obtain ⟨j,hj,e⟩:=List.mem_iff_getElem.mp h
 rw [List.getElem_take] at e
 rw [List.length_take] at hj
 have:=(List.getElem_inj nd).mp e
 omega
theorem LPr.skip {R ws T T':List Ti} {i:Nat} {C':List Cla} (h:LPr R ws T i T' C') (hi:i < R.length) (hw:R[i]∈ws):LPr R ws T (i+1) T' C':=by
 refine ⟨fun t ht nw=>?_,fun t ht=>⟨(kn hi).mpr (.inl (h.tsub t ht).1),(h.tsub t ht).2⟩,h.tnd,fun c hc=>⟨⟨(kn hi).mpr (.inl (h.csub c hc).1.1),(h.csub c hc).1.2⟩,(h.csub c hc).2⟩,h.cnd,Nat.le_succ_of_le h.len⟩
 rcases (kn hi).mp ht with z | z
 ·exact h.got t z nw
 ·rw [z] at nw;exact absurd hw nw
theorem j5 {α:Type} {l:List α} {a:α} (h:l.Nodup) (ha:a ∉ l):(l++[a]).Nodup:=List.nodup_append.mpr ⟨h,List.nodup_cons.mpr ⟨fun z=>(by cases z),List.nodup_nil⟩,fun x hx y hy=>by rw [List.mem_singleton.mp hy];intro z;rw [z] at hx;exact ha hx⟩
theorem LPr.add0 {R ws T T':List Ti} {i:Nat} {C':List Cla} (h:LPr R ws T i T' C') (nd:R.Nodup) (hi:i < R.length) (hw:R[i] ∉ ws):LPr R ws T (i+1) (T'++[R[i]]) C':=by
 refine ⟨fun t ht nw=>?_,fun t ht=>?_,j5 h.tnd fun z=>KA nd hi (h.tsub _ z).1,fun c hc=>⟨⟨(kn hi).mpr (.inl (h.csub c hc).1.1),(h.csub c hc).1.2⟩,fun g hg=>?_,(h.csub c hc).2.2⟩,h.cnd,by have:=h.len;rw [List.length_append];simp only [List.length_cons,List.length_nil];omega⟩
 ·rcases (kn hi).mp ht with z | z
  ·exact (h.got t z nw).imp (List.mem_append_left _) id
  ·exact .inl (List.mem_append_right _ (List.mem_singleton.mpr z))
 ·rcases List.mem_append.mp ht with z | z
  ·exact ⟨(kn hi).mpr (.inl (h.tsub t z).1),(h.tsub t z).2⟩
  ·rw [List.mem_singleton.mp z];exact ⟨(kn hi).mpr (.inr rfl),hw⟩
 ·rcases (h.csub c hc).2.1 g hg with z | z
  ·exact .inl z
  ·exact .inr (by rw [← List.append_assoc];exact List.mem_append_left _ z)
theorem LPr.add1 {R ws T T':List Ti} {i:Nat} {C':List Cla} {gs:List Ti} (h:LPr R ws T i T' C') (nd:R.Nodup) (hi:i < R.length) (hw:R[i] ∉ ws) (hg:∀ g∈gs,g∈ws∨g∈T++T') (hl:gs.length≤3):LPr R ws T (i+1) T' (C'++[(gs,R[i])]):=by
 refine ⟨fun t ht nw=>?_,fun t ht=>⟨(kn hi).mpr (.inl (h.tsub t ht).1),(h.tsub t ht).2⟩,h.tnd,fun c hc=>?_,?_,by have:=h.len;rw [List.length_append];simp only [List.length_cons,List.length_nil];omega⟩
 ·rcases (kn hi).mp ht with z | z
  ·rcases h.got t z nw with y | ⟨c,hc,e⟩
   ·exact .inl y
   ·exact .inr ⟨c,List.mem_append_left _ hc,e⟩
  ·exact .inr ⟨(gs,R[i]),List.mem_append_right _ (List.mem_singleton.mpr rfl),z.symm⟩
 ·rcases List.mem_append.mp hc with z | z
  ·exact ⟨⟨(kn hi).mpr (.inl (h.csub c z).1.1),(h.csub c z).1.2⟩,(h.csub c z).2⟩
  ·rw [List.mem_singleton.mp z];exact ⟨⟨(kn hi).mpr (.inr rfl),hw⟩,hg,hl⟩
 ·rw [List.map_append]
  refine j5 h.cnd fun z=>?_
  obtain ⟨c,hc,e⟩:=List.mem_map.mp z
  exact KA nd hi (by have e:c.2=R[i]:=e;rw [← e];exact (h.csub c hc).1.1)
abbrev JO:Stmt:=top 16
structure BkAt (H:Hp) (pb b0 b1:Addr) (T:List Ti) (C:List Cla):Prop where
 p:H pb=some (.lst [.ref b0,.ref b1])
 h0:∃ xs,H b0=some (.lst xs)∧HeldL H (tsD T) xs
 h1:∃ xs,H b1=some (.lst xs)∧HeldL H (C.map clD) xs
 n01:b0≠b1
 np0:pb≠b0
 np1:pb≠b1
def SB (b0 b1:Addr) (H H':Hp):Prop:=∀ b o,b≠b0→b≠b1→H b=some o→H' b=some o
theorem SB.of {b0 b1:Addr} {H H':Hp} (s:Same H H'):SB b0 b1 H H':=fun b o _ _ e=>s b o e
theorem SB.trans {b0 b1:Addr} {H H1 H2:Hp} (s:SB b0 b1 H H1) (s':SB b0 b1 H1 H2):SB b0 b1 H H2:=fun b o h h' e=>s' b o h h' (s b o h h' e)
theorem BkAt.ne {H:Hp} {pb b0 b1:Addr} {T:List Ti} {C:List Cla} (B:BkAt H pb b0 b1 T C) {p:Addr} (h:H p=none):p≠pb∧p≠b0∧p≠b1:=by
 obtain ⟨x,e0,_⟩:=B.h0
 obtain ⟨y,e1,_⟩:=B.h1
 refine ⟨fun z=>?_,fun z=>?_,fun z=>?_⟩
 ·rw [z,B.p] at h;cases h
 ·rw [z,e0] at h;cases h
 ·rw [z,e1] at h;cases h
theorem SB.tk {H H':Hp} {pb b0 b1:Addr} {T:List Ti} {C:List Cla} (s:SB b0 b1 H H') (B:BkAt H pb b0 b1 T C):TK H H':=fun b xs e=>by
 obtain ⟨x,e0,_⟩:=B.h0
 obtain ⟨y,e1,_⟩:=B.h1
 exact s b _ (fun z=>by rw [z,e0] at e;cases e) (fun z=>by rw [z,e1] at e;cases e) e
theorem BkAt.mono {H H':Hp} {pb b0 b1:Addr} {T:List Ti} {C:List Cla} (B:BkAt H pb b0 b1 T C) (s:Same H H'):BkAt H' pb b0 b1 T C:=by
 obtain ⟨p,⟨x,e0,g0⟩,⟨y,e1,g1⟩,n1,n2,n3⟩:=B
 exact ⟨s _ _ p,⟨x,s _ _ e0,g0.mono s⟩,⟨y,s _ _ e1,g1.mono s⟩,n1,n2,n3⟩
theorem BkAt.add0 {H:Hp} {pb b0 b1:Addr} {T:List Ti} {C:List Cla} (B:BkAt H pb b0 b1 T C) {xs:List V} {v:V} {t:Ti} (e:H b0=some (.lst xs)) (h:Held H t.toD v):BkAt (upd H b0 (.lst (xs++[v]))) pb b0 b1 (T++[t]) C∧SB b0 b1 H (upd H b0 (.lst (xs++[v]))):=by
 obtain ⟨p,⟨x,e0,g0⟩,⟨y,e1,g1⟩,n1,n2,n3⟩:=B
 rw [e0] at e
 cases e
 have tk:TK H (upd H b0 (.lst (xs++[v]))):=TK.upd e0 (fun xs z=>by cases z)
 refine ⟨⟨by rw [jm n2];exact p,⟨_,jd,?_⟩,⟨y,by rw [jm (Ne.symm n1)];exact e1,tk.heldL g1⟩,n1,n2,n3⟩,fun b o h1 _ e=>by rw [jm h1];exact e⟩
 unfold tsD
 rw [List.map_append]
 exact jJ (tk.heldL g0) (jg (tk.held h) ji)
theorem BkAt.add1 {H:Hp} {pb b0 b1:Addr} {T:List Ti} {C:List Cla} (B:BkAt H pb b0 b1 T C) {xs:List V} {v:V} {c:Cla} (e:H b1=some (.lst xs)) (h:Held H (clD c) v):BkAt (upd H b1 (.lst (xs++[v]))) pb b0 b1 T (C++[c])∧SB b0 b1 H (upd H b1 (.lst (xs++[v]))):=by
 obtain ⟨p,⟨x,e0,g0⟩,⟨y,e1,g1⟩,n1,n2,n3⟩:=B
 rw [e1] at e
 cases e
 have tk:TK H (upd H b1 (.lst (xs++[v]))):=TK.upd e1 (fun xs z=>by cases z)
 refine ⟨⟨by rw [jm n3];exact p,⟨x,by rw [jm n1];exact e0,tk.heldL g0⟩,⟨_,jd,?_⟩,n1,n2,n3⟩,fun b o _ h1 e=>by rw [jm h1];exact e⟩
 rw [List.map_append]
 exact jJ (tk.heldL g1) (jg (tk.held h) ji)
theorem jgg (xs:List V):qG xs none (some 3)=xs.take 3:=by
 unfold qG
 show (xs.drop 0).take (min 3 xs.length - 0)=_
 rw [List.drop_zero,Nat.sub_zero]
 by_cases h:3≤xs.length
 ·rw [Nat.min_eq_left h]
 ·rw [Nat.min_eq_right (by omega),List.take_of_length_le (Nat.le_refl _),List.take_of_length_le (by omega)]
theorem J8 {H:Hp}:∀ (k:Nat) {ds:List D} {vs:List V},HeldL H ds vs→HeldL H (ds.take k) (vs.take k)
 | 0,_,_,_=>ji
 | k+1,[],vs,h=>by cases jR h;exact ji
 | k+1,d :: ds,vs,h=>by
  obtain ⟨v,r,rfl,e,h2⟩:=jA h
  exact jg e (J8 k h2)
def Off (K:W.Frag) (H:Hp) (a:Addr) (xs:List V) (b0 b1:Addr):Prop:=∃ H0,SqL K H0 a xs∧Same H0 H∧H0 b0=none∧H0 b1=none
theorem SB.sq {K:W.Frag} {H H':Hp} {a b0 b1:Addr} {xs:List V} (s:SB b0 b1 H H') (o:Off K H a xs b0 b1):SqL K H' a xs:=by
 obtain ⟨H0,h,e,n0,n1⟩:=o
 exact jE (fun b o z=>s b o (js z n0) (js z n1) (e b o z)) h
theorem jaP {ts:List Ti} {B:Nat} (h:∀ t∈ts,t.c.natAbs≤B):(ts.map Ti.c).sum.natAbs≤ts.length * B:=by
 induction ts with
 | nil=>simp
 | cons t ts ih=>
  have h1:=h t List.mem_cons_self
  have h2:=ih fun u hu=>h u (List.mem_cons_of_mem _ hu)
  rw [List.map_cons,List.sum_cons,List.length_cons,Nat.succ_mul]
  omega
theorem jbh {tt:TT} {ta tb:TS} {D:L2.Ends} {σ:St} {H:Hp} (C:Bool→Prop) (k:∀ b,C b→if b=true then ta D σ H else tb D σ H) (h:(∀ b,C b→if b=true then ta D σ H else tb D σ H)→jbS tt ta tb D σ H):jbS tt ta tb D σ H:=h k
theorem kb {k:Int} (h:0≤k∧k≤900) {j:Int} (h0:0≤j) (h1:j≤900):0≤k+j∧k+j≤90000:=by omega
theorem kb1 {k:Int} (h:0≤k∧k≤90000):0≤k∧k≤100000:=by omega
theorem kS {H:Hp} {d:D}:∀ {ds:List D} {vs:List V},HeldL H (ds++[d]) vs→∃ r v,vs=r++[v]∧HeldL H ds r∧Held H d v
 | [],vs,h=>by
  obtain ⟨v,r,rfl,e,h2⟩:=jA h
  cases jR h2
  exact ⟨[],v,rfl,ji,e⟩
 | x :: ds,vs,h=>by
  obtain ⟨v,r,rfl,e,h2⟩:=jA h
  obtain ⟨r',v',rfl,h3,h4⟩:=kS h2
  exact ⟨v :: r',v',rfl,jg e h3,h4⟩
theorem jaU {α:Type} {l:List α} (h:l≠[]):∃ a b,l=a++[b]:=by
 rcases List.eq_nil_or_concat l with z | ⟨a,b,z⟩
 ·exact absurd z h
 ·exact ⟨a,b,by rw [z,List.concat_eq_append]⟩
theorem jdV (r:List V) (v:V):qG (r++[v]) none (some (-1))=r:=by
 unfold qG
 show ((r++[v]).drop 0).take ((if (-1:Int) < 0 then ((-1:Int)+((r++[v]).length:Int)).toNat else min (-1:Int).toNat (r++[v]).length) - 0)=_
 rw [if_pos (by decide),List.drop_zero,List.length_append,show ((-1:Int)+((r.length+[v].length:Nat):Int)).toNat - 0=r.length by simp only [List.length_cons,List.length_nil];omega,List.take_left' rfl]
theorem jdy (r:List V) (v:V):ixN (r++[v]).length (-1)=some r.length:=by
 unfold ixN
 rw [if_neg (by decide),if_pos (by rw [List.length_append];simp only [List.length_cons,List.length_nil];omega)]
 congr 1
 rw [List.length_append];simp only [List.length_cons,List.length_nil];omega
theorem jcV {α:Type} (r:List α) (v u:α):(r++[v]).set r.length u=r++[u]:=by
 rw [List.set_append_right _ _ (Nat.le_refl _),Nat.sub_self]
 rfl
def Z0 (K:W.Frag):Sp:=fun vs H Q _=>∃ (a wl pb b0 b1:Addr) (vw:V) (ns:List Int) (n:Nat) (xs:List V) (ws T:List Ti) (C:List Cla) (w0 w1 w2:Str),vs=[.ref a,.int (n:Nat),.ref wl,.ref pb,vw]∧SqL K H a (ns.map V.int)∧Off K H a (ns.map V.int) b0 b1∧n≤30∧H wl=some (.lst xs)∧HeldL H (tsD ws) xs∧wl≠b0∧wl≠b1∧ws.length≤20∧(∀ t∈ws,(VT w0 w1 w2 t∧FarT t)∧t.c.natAbs≤2 * 10 ^ 16)∧BkAt H pb b0 b1 T C∧T.length+C.length≤800∧
 ∀ (l:Addr) (xs':List V) (ts os T':List Ti) (C':List Cla) H',SB b0 b1 H H'→H l=none→H' l=some (.lst xs')→HeldL H' (tsD ts) xs'→BkAt H' pb b0 b1 (T++T') (C++C')→LeafR w0 w1 w2 n ws T ts os T' C'→Q (.ref l) H'
section
variable {P:Program} {w:World} {K:W.Frag} {mg:Str→Option Value} {base:Heap}
theorem jeI {f:Addr} {fd:FuncData} (F:Fun K "_law_leaf" "_law_leaf" JO f fd) (B:Free0 mg) (Z_sum:mg "sum" = none) (F_cell:Fn P w K mg base 1 "_law_cell" ["_law_script","_law_k"] (yY K)) (F_pick:Fn P w K mg base 2 "_law_pick" ["_law_script","_law_k","_law_many"] (zf K)) (F_number:Fn P w K mg base 3 "_law_number" ["_law_script","_law_k"] (zE K)) (F_guards:Fn P w K mg base 3 "_law_guards" ["_law_script","_law_k","_law_way","_law_ties"] (Ks K)):FnOk P w K mg base CX0 4 f fd ["_law_script","_law_n","_law_way","_law_book","_law_words"] (Z0 K):=by
 have sc:FnScope ["_law_script","_law_n","_law_way","_law_book","_law_words","_law_k","_law_many","_law_nodes","_law_ring","_law_j","_law_total","_law_below","_law_tie"] ["_law_script","_law_n","_law_way","_law_book","_law_words"] (jk JO):=fQ
 refine F.okZ sc (fun vs H Q E h=>?_) (fun cdv A outer s H vs Q E hr h=>?_)
 ·obtain ⟨a,wl,pb,b0,b1,vw,ns,n,xs,ws,T,C,w0,w1,w2,rfl,_⟩:=h
  rfl
 obtain ⟨a,wl,pb,b0,b1,vw,ns,n,xs,ws,T,C,w0,w1,w2,rfl,hS,hO,hn,hwl,hW,nw0,nw1,hwz,hw,hB,hz,q⟩:=h
 have hu9:(A.deeper (PyProof.Rows.envOfC "_law_leaf" (jk JO) s.heap.objs.size f cdv)).units+1+8 < cLine:=by have:=hr.units;omega
 refine ⟨_,(jf (jp (i:=5) sc.nd rfl oQ (jj jH jb (jj kQ jb (zpv 1))))
   (jf (jp (i:=6) sc.nd rfl oQ (jj jH jb (jw F_pick hr (ja (zpv 0) (ja (zpv 5) (ja jb jc))))))
   (jf (JF (jN (jq kR (jw F_pick hr (ja (zpv 0) (ja (zpv 5) (ja jb jc)))) jb (jB _)) (jl (jp (i:=6) sc.nd rfl oQ jb)) jD))
   (jf (kg (i:=7) sc.nd rfl oQ ["_law_j"] [1] rfl (jS (sc:=jk JO) (N:=["_law_script","_law_n","_law_way","_law_book","_law_words","_law_k","_law_many","_law_nodes","_law_ring","_law_j","_law_total","_law_below","_law_tie"]) rfl rfl (by decide +kernel)) (yf (by rfl) B.range_ (ja (zpv 6) jc)) (fun s H ex=>⟨(jt (i:=0) (show List.Nodup (["_law_j","_law_n"]:List Str) by decide +kernel) rfl oQ),jV,(jo (ja jL (ja (jj jH (jj jH jb (jj kQ jb (zpv 1))) (zpv 0)) jc)))⟩))
   (jf (jp (i:=8) sc.nd rfl oQ (jC jc))
   (jf (JF (jN (yo (jq Jm (jM jz (by rfl) B.len_ kc (ja (zpv 2) jc)) jb (jB _)) (yn (yV (jq Jm (jw F_pick hr (ja (zpv 0) (ja (jj jH (zpv 5) jb) (ja jb jc)))) jb (jB _)) (zM (jq kR (zpv 1) jb (jB _)))).pt)).pt (jf (jZ (kN PySem.F.plainAttrs_list PySem.F.slot_list_append PySem.F.type_list_append jO (zpv 8) (ja (jh jr (zpv 2) (jh jr (jC (ja jb (ja (jw F_pick hr (ja (zpv 0) (ja (jj jH (zpv 5) jb) (ja (jM jz (by rfl) B.len_ kc (ja (zpv 2) jc)) jc)))) jc))) (ze jct (by rfl) B.int_ jgj (ja (qt Jm (zpv 1) jb (jB _)) jc)) (fun _ _=>rfl)) (fun _ _=>rfl)) jc)))
   (jl (jp (i:=7) sc.nd rfl oQ (jj qz (jC (ja (jh jy (jh jr (zpv 8) jb (fun _ _=>rfl)) jb (fun _ _=>rfl)) (ja (jh jy (jh jr (zpv 8) jb (fun _ _=>rfl)) jb (fun _ _=>rfl)) jc))) (zpv 7))))) jD))
   (jf (yq PassesOwn.never rfl (ZO (by rfl) B.range_ (ja (jM jz (by rfl) B.len_ kc (ja (zpv 8) jc)) (ja (jM jz (by rfl) B.len_ kc (ja (zpv 7) jc)) jc))) (jt (i:=9) sc.nd rfl oQ) (jl (jZ (kN PySem.F.plainAttrs_list PySem.F.slot_list_append PySem.F.type_list_append jO (zpv 8) (ja (jo (ja (jh jr (zpv 7) (zpv 9) (fun _ _=>rfl)) (ja (jh jr (zpv 7) (jj kE (jj jH (zpv 9) jb) (jM jz (by rfl) B.len_ kc (ja (zpv 7) jc))) (fun _ _=>rfl)) (ja (jw F_number hr (ja (zpv 0) (ja (jj jH (zpv 5) (zpv 9)) jc))) jc)))) jc)))))
   (jf (jp (i:=10) sc.nd rfl oQ (jM (Ke rfl) (by rfl) Z_sum jav (ja (kF ["_law_tie"] [] rfl (jS (sc:=jk JO) (N:=["_law_script","_law_n","_law_way","_law_book","_law_words","_law_k","_law_many","_law_nodes","_law_ring","_law_j","_law_total","_law_below","_law_tie"]) rfl rfl (by decide +kernel)) (jK (qb yB (zpv 8) qr (qq (zC zD jb)))) (fun s H ex=>⟨(jt (i:=0) (show List.Nodup (["_law_tie"]:List Str) by decide +kernel) rfl oQ),jV,(jh (qQ (K:=K)) (zpv 0) jb (fun _ _=>rfl))⟩)) jc)))
   (jf (jp (i:=11) sc.nd rfl oQ (jj jH jb (jh jr (jC (ja jb (ja jb (ja (jj kE (jw F_cell hr (ja (zpv 0) (ja (jj jH (zpv 5) jb) jc))) (jj Yi jb jb)) jc)))) (jw F_pick hr (ja (zpv 0) (ja (jj jH (zpv 5) jb) (ja jb jc)))) (fun _ _=>rfl))))
   (jf (yr (jo (ja (jh jy (jh jr (zpv 8) (zC zD jb) (fun _ _=>rfl)) jb (fun _ _=>rfl)) (ja (jh jy (jh jr (zpv 8) (zC zD jb) (fun _ _=>rfl)) jb (fun _ _=>rfl)) (ja (jj kP (jj kP jb (zpv 11)) (zpv 10)) jc)))) (jea (zpv 8) (zC zD jb) jcU))
   (jf (yq PassesOwn.never rfl (jK (zpv 8)) (jt (i:=12) sc.nd rfl oQ) (jl (jN (jq (jb1 8 hu9) (zpv 12) (zpv 2) rfl) (jl (jN (yV (jq kR (jw F_pick hr (ja (zpv 0) (ja (jj jH (zpv 5) jb) (ja jb jc)))) jb (jB _)) (zM (jq kR (jj kE (jh jy (zpv 12) jb (fun _ _=>rfl)) jb) jb (jB _)))).pt (jl (jZ (kN PySem.F.plainAttrs_list PySem.F.slot_list_append PySem.F.type_list_append jO (jh jr (zpv 3) jb (fun _ _=>rfl)) (ja (zpv 12) jc)))) (jl (jZ (kN PySem.F.plainAttrs_list PySem.F.slot_list_append PySem.F.type_list_append jO (jh jr (zpv 3) jb (fun _ _=>rfl)) (ja (jo (ja (jw F_guards hr (ja (zpv 0) (ja (jj jH (zpv 5) jb) (ja (zpv 2) (ja (qb yB (jh jr (zpv 3) jb (fun _ _=>rfl)) qr (qq jb)) jc))))) (ja (zpv 12) jc))) jc)))))) jD)))
   (jl (ju (zpv 8)))))))))))))),?_⟩
 refine kD (σ':=[some (.ref a),some (.int (n:Nat)),some (.ref wl),some (.ref pb),some vw,none,none,none,none,none,none,none,none]) rfl ?_
 try dsimp only [kZ]
 refine jgb ?_
 intro _ _ _ _ _ _ _ _ _ _ _
 have hwlen:=hW.length
 rw [List.length_map] at hwlen
 refine ⟨_,rfl,_,_,rfl,rfl,.inl ⟨by decide,by decide⟩,_,_,rfl,rfl,?_⟩
 refine gQ ?_
 have hkb:0≤9+5 * ((n:Nat):Int)∧9+5 * ((n:Nat):Int)≤900:=by omega
 generalize (9+5 * ((n:Nat):Int))=k at *
 refine ⟨_,rfl,_,rfl,a,ns,k,5,rfl,hS,hkb.1,Int.le_trans hkb.2 (by decide),by decide,fun c c0 c1=>?_⟩
 refine ⟨_,_,rfl,rfl,?_⟩
 refine gQ ?_
 refine ⟨fun σ' G=>∃ m:Nat,1≤m∧m≤30∧G=H∧σ'=[some (.ref a),some (.int (n:Nat)),some (.ref wl),some (.ref pb),some vw,some (.int k),some (.int (m:Nat)),none,none,none,none,none,none],?_,?_⟩
 ·refine ⟨_,rfl,_,rfl,a,ns,k,6,rfl,hS,hkb.1,Int.le_trans hkb.2 (by decide),by decide,fun c' c0' c1'=>?_⟩
  refine ⟨rfl,_,rfl,j6 (fun _=>?_) (fun _=>?_)⟩
  ·exact ⟨30,by omega,by omega,rfl,rfl⟩
  ·exact ⟨(1+c).toNat,by omega,by omega,rfl,by rw [show (((1+c).toNat:Nat):Int)=1+c by omega]⟩
 rintro σ1 H ⟨m,hm0,hm,rfl,rfl⟩
 refine ⟨_,rfl,_,rfl,by omega,by omega,fun pn hpn=>?_⟩
 refine Kd (lo:=0) (n:=m) (fun i σ' G'=>∃ u us,σ'=[u,some (.int (n:Nat))]∧Same H G'∧G' pn=some (.lst us)∧HeldL G' ((pns n m).take i) us) ⟨none,[],rfl,je hpn _,jd,ji⟩ ?_ ?_
 ·rintro i σ' G' hi ⟨u,us,rfl,sG',hG',hU⟩
  have hul:=hU.length
  rw [List.length_take,kA] at hul
  unfold j4 yx
  refine zm ?_
  refine ⟨_,rfl,_,_,rfl,rfl,.inl ⟨by decide,by decide⟩,_,_,rfl,rfl,_,rfl,_,_,rfl,rfl,sm rfl,fun t ht=>?_⟩
  have npt:pn≠t:=fun z=>by rw [← z,hG'] at ht;cases ht
  dsimp only
  rw [show (100+50 * ((n:Nat):Int)+(0+(i:Int)))=((100+50 * n+i:Nat):Int) by omega]
  generalize hGt:upd G' t (.tup [V.str "pick",V.int ((100+50 * n+i:Nat):Int)])=Gt
  have st:Same G' Gt:=by rw [← hGt];exact je ht _
  have ht':Held Gt (pk (100+50 * n+i)) (.ref t):=by
   refine jF (xs:=[V.str "pick",V.int ((100+50 * n+i:Nat):Int)]) ?_ (jg j8 (jg j3 ji))
   rw [← hGt];exact jd
  refine ⟨us,st _ _ hG',jx (by omega),_,us++[.ref t],rfl,fun b o e=>?_,jd,?_⟩
  ·rw [jm (js e hpn)]
   exact st _ _ (sG' _ _ e)
  ·have tk:TK Gt (upd Gt pn (.lst (us++[.ref t]))):=TK.upd (st _ _ hG') (fun xs z=>by cases z)
   rw [List.take_succ,show (pns n m)[i]?=some (pk (100+50 * n+i)) by unfold pns;rw [List.getElem?_map,List.getElem?_range hi];rfl]
   exact jJ (tk.heldL (hU.mono st)) (jg (tk.held ht') ji)
 rintro σ' H1 ⟨u,un,rfl,s1,e1,hN1⟩
 rw [List.take_of_length_le (by rw [kA];exact Nat.le_refl _)] at hN1
 refine gQ ?_
 refine ⟨sm rfl,fun pr hpr=>?_⟩
 have s2:=je hpr (.lst [])
 have e2':upd H1 pr (.lst []) pr=some (.lst []):=jd
 have hHpr:H pr=none:=s1.free hpr
 have npr:pn≠pr:=fun z=>by rw [← z,e1] at hpr;cases hpr
 generalize upd H1 pr (.lst [])=H2 at *
 have s12:=s1.trans s2
 refine gQ ?_
 refine ⟨fun σ' G=>∃ (pn':Addr) (un' us:List V) (ts:List Ti) (N:List D),σ'=[some (.ref a),some (.int (n:Nat)),some (.ref wl),some (.ref pb),some vw,some (.int k),some (.int (m:Nat)),some (.ref pn'),some (.ref pr),none,none,none,none]∧Same H G∧H pn'=none∧pn'≠pr∧G pn'=some (.lst un')∧HeldL G N un'∧G pr=some (.lst us)∧HeldL G (tsD ts) us∧((N=pns n m∧(n=0→ws=[])∧ts=[])∨∃ t∈ws,N=t.x :: t.y :: pns n m∧ts=[t]∧(n=0→ws.head?=some t)),?_,?_⟩
 ·refine jbh (fun b=>(b=true→0 < xs.length)∧(b=false→n=0→ws=[])) (fun b hb=>?_) (fun kk=>?_)
  rotate_left
  ·refine ⟨_,rfl,wl,xs,rfl,.inl (SqL.of (s12 _ _ hwl)),_,_,rfl,rfl,_,rfl,j6 (fun d=>?_) (fun d=>kk false ⟨fun z=>(by cases z),fun _ _=>?_⟩)⟩
   rotate_left
   ·exact List.length_eq_zero_iff.mp (by have:¬ (0 < (xs.length:Int)):=fun z=>d (decide_eq_true z);omega)
   have d':0 < xs.length:=by have:=of_decide_eq_true d;omega
   refine ⟨_,rfl,_,rfl,_,_,rfl,rfl,a,ns,k+1,3,rfl,jE s12 hS,(kb1 (kb hkb (j:=1) (by decide) (by decide))).1,(kb1 (kb hkb (j:=1) (by decide) (by decide))).2,by decide,fun c' c0' c1'=>?_⟩
   refine ⟨_,_,rfl,rfl,_,rfl,j6 (fun e=>kk true ⟨fun _=>d',fun z=>(by cases z)⟩) (fun e=>?_)⟩
   refine ⟨_,rfl,rfl,_,rfl,kk _ ⟨fun _=>d',fun z hn0=>?_⟩⟩
   rw [hn0] at z
   cases z
  cases b with
  | false=>exact ⟨pn,un,[],[],_,rfl,s12,hpn,npr,s2 _ _ e1,hN1.mono s2,e2',ji,.inl ⟨rfl,hb.2 rfl,rfl⟩⟩
  | true=>
   have d':=hb.1 rfl
   refine zm ?_
   refine ⟨_,rfl,.inl ⟨rfl,_,SqL.of e2'⟩,_,rfl,_,rfl,_,rfl,_,_,rfl,rfl,_,rfl,wl,xs,rfl,.inl (SqL.of (s12 _ _ hwl)),a,ns,k+2,(xs.length:Nat),rfl,jE s12 hS,(kb1 (kb hkb (j:=2) (by decide) (by decide))).1,(kb1 (kb hkb (j:=2) (by decide) (by decide))).2,by omega,fun z z0 z1=>?_⟩
   refine ⟨sm rfl,fun pl hpl=>?_⟩
   have s3:=je hpl (.lst [V.int 0,V.int z])
   have e3:upd H2 pl (.lst [V.int 0,V.int z]) pl=some (.lst [V.int 0,V.int z]):=jd
   generalize upd H2 pl (.lst [V.int 0,V.int z])=H3 at *
   obtain ⟨z',hz',zw,zn⟩:∃ z':Nat,atI [V.int 0,V.int z] (if decide ((0:Int) < (n:Nat))=true then 1 else 0)=some (.int (z':Nat))∧z' < ws.length∧(n=0→z'=0):=by
    by_cases hn0:n=0
    ·subst hn0
     exact ⟨0,rfl,by omega,fun _=>rfl⟩
    ·have:(0:Int) < (n:Nat):=by omega
     rw [decide_eq_true this]
     refine ⟨z.toNat,?_,by omega,fun h=>absurd h hn0⟩
     rw [show ((z.toNat:Nat):Int)=z by omega]
     rfl
   obtain ⟨v,hv,hvH⟩:=hW.get (j:=z') (d:=ws[z'].toD) (by rw [List.getElem?_map,List.getElem?_eq_getElem zw];rfl)
   have s13:=s12.trans s3
   refine ⟨_,rfl,_,_,rfl,rfl,.inr ⟨_,rfl,pl,_,_,_,rfl,rfl,SqL.of e3,hz',wl,_,_,v,rfl,rfl,SqL.of (s13 _ _ hwl),kI hv,pr,_,v,rfl,rfl,s3 _ _ e2',sm rfl,?_⟩⟩
   obtain ⟨av,vx,vy,rfl,hav,hvx,hvy⟩:=kf hvH
   have tk4:TK H3 (upd H3 pr (.lst ([]++[V.ref av]))):=TK.upd (s3 _ _ e2') (fun xs z=>by cases z)
   have s4:Same H (upd H3 pr (.lst ([]++[V.ref av]))):=fun b o e=>by
    rw [jm (js e hHpr)]
    exact s13 _ _ e
   have e4:upd H3 pr (.lst ([]++[V.ref av])) pr=some (.lst [V.ref av]):=jd
   have e4n:upd H3 pr (.lst ([]++[V.ref av])) pn=some (.lst un):=by rw [jm npr];exact s3 _ _ (s2 _ _ e1)
   have hN4:=tk4.heldL ((hN1.mono s2).mono s3)
   generalize upd H3 pr (.lst ([]++[V.ref av]))=H4 at *
   refine ⟨_,rfl,pr,_,_,_,rfl,rfl,SqL.of e4,rfl,av,_,_,_,rfl,rfl,SqT.of (s4 _ _ hav),rfl,_,rfl,pr,_,_,_,rfl,rfl,SqL.of e4,rfl,av,_,_,_,rfl,rfl,SqT.of (s4 _ _ hav),rfl,sm rfl,fun p4 hp4=>?_⟩
   have s5:=je hp4 (.lst [vx,vy])
   have e5:upd H4 p4 (.lst [vx,vy]) p4=some (.lst [vx,vy]):=jd
   generalize upd H4 p4 (.lst [vx,vy])=H5 at *
   have hunl:=hN1.length
   rw [kA] at hunl
   refine ⟨_,rfl,p4,pn,_,_,rfl,rfl,e5,s5 _ _ e4n,zv (by simp only [List.length_cons,List.length_nil];omega),fun p5 hp5=>?_⟩
   have s6:=je hp5 (.lst ([vx,vy]++un))
   have e6:upd H5 p5 (.lst ([vx,vy]++un)) p5=some (.lst ([vx,vy]++un)):=jd
   generalize upd H5 p5 (.lst ([vx,vy]++un))=H6 at *
   have s56:=s5.trans s6
   have s46:=s4.trans s56
   refine gQ ?_
   refine ⟨p5,[vx,vy]++un,[V.ref av],[ws[z']],ws[z'].x :: ws[z'].y :: pns n m,rfl,s46,s4.free (s5.free hp5),fun z=>?_,e6,jJ (jg (hvx.mono s46) (jg (hvy.mono s46) ji)) (hN4.mono s56),s56 _ _ e4,jg (hvH.mono s46) ji,.inr ⟨ws[z'],List.getElem_mem zw,rfl,rfl,fun hn0=>?_⟩⟩
   ·rw [z,s5 _ _ e4] at hp5;cases hp5
   ·rw [List.head?_eq_getElem?,← List.getElem?_eq_getElem zw,zn hn0]
 rintro σ' G0 ⟨pn',un',us0,ts0,N,rfl,sG0,hpn',nnr,hun,hN,hus0,hts0,sh⟩
 clear e1 hN1 s1 s2 s12 npr
 have hNl:N.length≤32∧m≤N.length∧ts0.length < N.length:=by
  rcases sh with ⟨rfl,_,rfl⟩ | ⟨t,_,rfl,rfl,_⟩
  ·rw [kA];simp only [List.length_nil];omega
  ·simp only [List.length_cons,kA,List.length_nil];omega
 have hunl:=hN.length
 have hus0l:=hts0.length
 rw [List.length_map] at hus0l
 refine ⟨_,rfl,pr,us0,rfl,.inl (SqL.of hus0),_,rfl,pn',un',rfl,.inl (SqL.of hun),?_⟩
 refine ⟨_,_,rfl,⟨by omega,by omega,by omega,by omega⟩,?_⟩
 have ey0:ts0.map Ti.x=N.take ts0.length∧ts0.map Ti.y=(N.drop 1++N.take 1).take ts0.length∧∀ t∈ts0,t.c.natAbs≤2 * 10 ^ 16:=by
  rcases sh with ⟨rfl,_,rfl⟩ | ⟨t,ht,rfl,rfl,_⟩
  ·exact ⟨rfl,rfl,fun t ht=>by cases ht⟩
  ·exact ⟨rfl,rfl,fun u hu=>by rw [List.mem_singleton.mp hu];exact (hw t ht).2⟩
 generalize hs0:ts0.length=s0 at *
 refine KN (lo:=(us0.length:Int)) (n:=((un'.length:Int) - (us0.length:Int)).toNat) (fun i σ G=>∃ (u9:Option V) (us:List V) (ts:List Ti),σ=[some (.ref a),some (.int (n:Nat)),some (.ref wl),some (.ref pb),some vw,some (.int k),some (.int (m:Nat)),some (.ref pn'),some (.ref pr),u9,none,none,none]∧Same H G∧G pn'=some (.lst un')∧HeldL G N un'∧G pr=some (.lst us)∧HeldL G (tsD ts) us∧ts.length=s0+i∧ts.map Ti.x=N.take (s0+i)∧ts.map Ti.y=(N.drop 1++N.take 1).take (s0+i)∧(∀ t∈ts,t.c.natAbs≤2 * 10 ^ 16)∧ts.take s0=ts0) ⟨none,us0,ts0,rfl,sG0,hun,hN,hus0,hts0,hs0,ey0.1,ey0.2.1,ey0.2.2,List.take_of_length_le (by omega)⟩ ?_ ?_
 ·rintro i σ G hi ⟨u9,us,ts,rfl,sG,gN,hNG,gr,hts,hl,ex,ey,hc,h0⟩
  refine gQ ?_
  have husl:=hts.length
  rw [List.length_map] at husl
  have he:s0+i < N.length:=by omega
  have hmod:(s0+i+1) % N.length < N.length:=Nat.mod_lt _ (by omega)
  obtain ⟨vx,hvx,hvxH⟩:=hNG.get (j:=s0+i) (d:=N[s0+i]) (List.getElem?_eq_getElem he)
  obtain ⟨vy,hvy,hvyH⟩:=hNG.get (j:=(s0+i+1) % N.length) (d:=N[(s0+i+1) % N.length]) (List.getElem?_eq_getElem hmod)
  have hye:(N.drop 1++N.take 1)[s0+i]?=some N[(s0+i+1) % N.length]:=by
   rw [← List.getElem?_eq_getElem hmod]
   by_cases z:s0+i+1 < N.length
   ·rw [List.getElem?_append_left (by rw [List.length_drop];omega),List.getElem?_drop,Nat.mod_eq_of_lt z,Nat.add_comm 1]
   ·have z':s0+i+1=N.length:=by omega
    rw [z',Nat.mod_self,List.getElem?_append_right (by rw [List.length_drop];omega),List.length_drop,show s0+i - (N.length - 1)=0 by omega,List.getElem?_take]
    rfl
  have ix1:(us0.length:Int)+(i:Int)=((s0+i:Nat):Int):=by omega
  have ix2:((us0.length:Int)+(i:Int)+1) % (un'.length:Int)=(((s0+i+1) % N.length:Nat):Int):=by
   rw [ix1,← hunl]
   rfl
  have hx1:atI un' ((us0.length:Int)+(i:Int))=some vx:=by rw [ix1];exact kI hvx
  have hy1:atI un' (((us0.length:Int)+(i:Int)+1) % (un'.length:Int))=some vy:=by rw [ix2];exact kI hvy
  refine ⟨_,rfl,.inl ⟨rfl,_,SqL.of gr⟩,_,rfl,_,rfl,pn',_,_,_,rfl,rfl,SqL.of gN,hx1,_,rfl,_,rfl,_,_,rfl,rfl,_,rfl,pn',_,rfl,.inl (SqL.of gN),_,_,rfl,rfl,(by show (0:Int) < _;omega),pn',_,_,_,rfl,rfl,SqL.of gN,hy1,?_⟩
  refine ⟨_,rfl,_,rfl,_,rfl,_,_,rfl,rfl,a,ns,k+((us0.length:Int)+(i:Int)),rfl,jE sG hS,by omega,by omega,fun c c0 c1=>⟨sm rfl,fun t ht=>?_⟩⟩
  have st:=je ht (.tup [vx,vy,V.int c])
  have et:upd G t (.tup [vx,vy,V.int c]) t=some (.tup [vx,vy,V.int c]):=jd
  generalize upd G t (.tup [vx,vy,V.int c])=G1 at *
  refine ⟨pr,us,.ref t,rfl,rfl,st _ _ gr,jx (by omega),?_⟩
  have tk:TK G1 (upd G1 pr (.lst (us++[.ref t]))):=TK.upd (st _ _ gr) (fun xs z=>by cases z)
  have hT:Held G1 (Ti.toD ⟨N[s0+i],N[(s0+i+1) % N.length],c⟩) (.ref t):=qw (t:=⟨N[s0+i],N[(s0+i+1) % N.length],c⟩) et (hvxH.mono st) (hvyH.mono st)
  refine ⟨_,us++[.ref t],ts++[⟨N[s0+i],N[(s0+i+1) % N.length],c⟩],rfl,fun b o e=>?_,?_,tk.heldL (hNG.mono st),jd,?_,by rw [List.length_append];simp only [List.length_cons,List.length_nil];omega,?_,?_,fun t' ht'=>?_,?_⟩
  ·rw [jm (js e hHpr)]
   exact st _ _ (sG _ _ e)
  ·rw [jm nnr];exact st _ _ gN
  ·unfold tsD
   rw [List.map_append]
   exact jJ (tk.heldL (hts.mono st)) (jg (tk.held hT) ji)
  ·rw [← Nat.add_assoc,List.take_succ,List.map_append,ex,List.getElem?_eq_getElem he];rfl
  ·rw [← Nat.add_assoc,List.take_succ,List.map_append,ey,hye];rfl
  ·rcases List.mem_append.mp ht' with z | z
   ·exact hc _ z
   ·rw [List.mem_singleton.mp z];show c.natAbs≤_;omega
  ·rw [List.take_append_of_le_length (by omega)];exact h0
 rintro σ' G ⟨u9,us,ts,rfl,sG,gN,hNG,gr,hts,hl,ex,ey,hc,h0⟩
 rw [show s0+((un'.length:Int) - (us0.length:Int)).toNat=N.length by omega] at hl ex ey
 rw [List.take_length] at ex
 rw [List.take_of_length_le (by rw [List.length_append,List.length_drop,List.length_take];omega)] at ey
 have husl:=hts.length
 rw [List.length_map] at husl
 obtain ⟨ts1,tl,rfl⟩:∃ a b,ts=a++[b]:=jaU (fun z=>by rw [z] at hl;simp only [List.length_nil] at hl;omega)
 obtain ⟨us1,ul,rfl,hts1,htl⟩:∃ r v,us=r++[v]∧HeldL G (tsD ts1) r∧Held G tl.toD v:=kS (by
  unfold tsD at hts
  rw [List.map_append] at hts
  exact hts)
 have hul1:=hts1.length
 rw [List.length_map] at hul1
 rw [List.length_append] at hl
 simp only [List.length_cons,List.length_nil] at hl
 refine ⟨_,rfl,1,rfl,?_⟩
 refine ⟨_,rfl,pr,_,rfl,SqL.of gr,fun p2 hp2=>?_⟩
 rw [show qG (us1++[ul]) none (some (-1))=us1 from jdV _ _]
 have s2:=je hp2 (.lst us1)
 have e2:upd G p2 (.lst us1) p2=some (.lst us1):=jd
 generalize upd G p2 (.lst us1)=G1 at *
 refine ⟨p2,rfl,⟨_,SqL.of e2⟩,fun p3 hp3=>?_⟩
 refine zI (g:=fun t=>.int t.c) rfl hp3 e2 (hts1.mono s2) (by omega) (fun t G v h=>?_) fun G2 ys s3 e3 hY=>?_
 ·obtain ⟨a,vx,vy,rfl,ha,h1,h2⟩:=kf h
  exact ⟨a,_,_,rfl,ha,rfl,j3⟩
 have hY':ys=(ts1.map Ti.c).map V.int:=qD (by rw [List.map_map];exact hY)
 subst hY'
 have s23:=s2.trans s3
 have sG2:=sG.trans s23
 refine ⟨p3,_,rfl,SqL.of e3,?_⟩
 refine gQ ?_
 generalize htot:(ts1.map Ti.c).sum=tot at *
 have htotb:tot.natAbs≤32 * (2 * 10 ^ 16):=by
  rw [← htot]
  refine Nat.le_trans (jaP (B:=2 * 10 ^ 16) fun t ht=>hc t (List.mem_append_left _ ht)) ?_
  exact Nat.mul_le_mul_right _ (by omega)
 refine ⟨_,rfl,_,rfl,_,_,rfl,rfl,a,ns,k+3,rfl,jE sG2 hS,(kb1 (kb hkb (j:=3) (by decide) (by decide))).1,(kb1 (kb hkb (j:=3) (by decide) (by decide))).2,fun c3=>?_⟩
 have y0:=Int.emod_nonneg c3 (b:=10 ^ 16) (by decide)
 have y1:=Int.emod_lt_of_pos c3 (b:=10 ^ 16) (by decide)
 refine ⟨10,16,rfl,rfl,⟨by decide,by decide,by decide⟩,c3,10 ^ 16,rfl,rfl,(show (0:Int) < 10 ^ 16 by decide),sm rfl,fun p4 hp4=>?_⟩
 dsimp only
 generalize c3 % 10 ^ 16=c4 at *
 have s4:=je hp4 (.lst [V.int 0,V.int 0,V.int c4])
 have e4:upd G2 p4 (.lst [V.int 0,V.int 0,V.int c4]) p4=some (.lst [V.int 0,V.int 0,V.int c4]):=jd
 generalize upd G2 p4 (.lst [V.int 0,V.int 0,V.int c4])=G3 at *
 have sG3:=sG2.trans s4
 have sGG3:=s23.trans s4
 refine ⟨_,rfl,_,rfl,_,_,rfl,rfl,a,ns,k+3,3,rfl,jE sG3 hS,(kb1 (kb hkb (j:=3) (by decide) (by decide))).1,(kb1 (kb hkb (j:=3) (by decide) (by decide))).2,by decide,fun z z0 z1=>?_⟩
 obtain ⟨bl,hbl,bl0,bl1⟩:∃ b:Int,atI [V.int 0,V.int 0,V.int c4] z=some (.int b)∧0≤b∧b < 10 ^ 16:=by
  obtain ⟨n,rfl⟩:=Int.eq_ofNat_of_zero_le z0
  match n,z1 with
  | 0,_=>exact ⟨0,rfl,by decide,by decide⟩
  | 1,_=>exact ⟨0,rfl,by decide,by decide⟩
  | 2,_=>exact ⟨c4,rfl,y0,y1⟩
  | n+3,h=>exact absurd h (by omega)
 refine ⟨p4,_,_,_,rfl,rfl,SqL.of e4,hbl,_,_,rfl,rfl,?_⟩
 refine gQ ?_
 obtain ⟨al,vx,vy,rfl,hal,hvx,hvy⟩:=kf htl
 have gr3:=sGG3 _ _ gr
 have hal3:=sGG3 _ _ hal
 refine ⟨_,rfl,1,rfl,pr,_,_,_,rfl,rfl,SqL.of gr3,zL _ _,al,_,_,_,rfl,rfl,SqT.of hal3,rfl,_,rfl,1,rfl,pr,_,_,_,rfl,rfl,SqL.of gr3,zL _ _,al,_,_,_,rfl,rfl,SqT.of hal3,rfl,?_⟩
 refine ⟨_,rfl,_,_,rfl,rfl,_,rfl,_,_,rfl,rfl,sm rfl,fun p5 hp5=>?_⟩
 obtain ⟨tn,htn⟩:∃ tn:Ti,tn=⟨tl.x,tl.y,0 - (1+bl) - tot⟩:=⟨_,rfl⟩
 have s5:=je hp5 (.tup [vx,vy,V.int (0 - (1+bl) - tot)])
 have e5:upd G3 p5 (.tup [vx,vy,V.int (0 - (1+bl) - tot)]) p5=some (.tup [vx,vy,V.int (0 - (1+bl) - tot)]):=jd
 generalize upd G3 p5 (.tup [vx,vy,V.int (0 - (1+bl) - tot)])=G4 at *
 have sGG4:=sGG3.trans s5
 have gr4:=s5 _ _ gr3
 refine ⟨_,rfl,1,rfl,pr,_,_,_,rfl,rfl,gr4,jdy _ _,?_⟩
 rw [jcV]
 have tk4:TK G4 (upd G4 pr (.lst (us1++[V.ref p5]))):=TK.upd gr4 (fun xs z=>by cases z)
 have sH5:Same H (upd G4 pr (.lst (us1++[V.ref p5]))):=fun b o e=>by
  rw [jm (js e hHpr)]
  exact sGG4 _ _ (sG _ _ e)
 have e6:upd G4 pr (.lst (us1++[V.ref p5])) pr=some (.lst (us1++[V.ref p5])):=jd
 have hT5:HeldL (upd G4 pr (.lst (us1++[V.ref p5]))) (tsD (ts1++[tn])) (us1++[V.ref p5]):=by
  unfold tsD
  rw [List.map_append]
  refine jJ (tk4.heldL (hts1.mono sGG4)) (jg (tk4.held ?_) ji)
  rw [htn]
  exact qw (t:=⟨tl.x,tl.y,0 - (1+bl) - tot⟩) e5 (hvx.mono sGG4) (hvy.mono sGG4)
 generalize upd G4 pr (.lst (us1++[V.ref p5]))=G5 at *
 have B5:=hB.mono sH5
 have npb:=hB.ne hHpr
 have hrx:(ts1++[tn]).map Ti.x=N:=by rw [← ex,List.map_append,List.map_append,htn];rfl
 have hry:(ts1++[tn]).map Ti.y=N.drop 1++N.take 1:=by rw [← ey,List.map_append,List.map_append,htn];rfl
 have hneg:((ts1++[tn]).map Ti.c).sum < 0:=by
  rw [List.map_append,List.sum_append,htot,htn]
  show tot+(0 - (1+bl) - tot+0) < 0
  omega
 have hcb:∀ t∈ts1++[tn],t.c.natAbs < 10 ^ 36:=fun t ht=>by
  rcases List.mem_append.mp ht with z | z
  ·exact Nat.lt_of_le_of_lt (hc t (List.mem_append_left _ z)) (by decide)
  ·rw [List.mem_singleton.mp z,htn]
   refine Nat.lt_of_le_of_lt (m:=10 ^ 18) ?_ (by decide)
   show (0 - (1+bl) - tot).natAbs≤10 ^ 18
   omega
 have hsh:(N=pns n m∧(n=0→ws=[]))∨∃ t r,t∈ws∧ts1++[tn]=t :: r∧N=t.x :: t.y :: pns n m∧(n=0→ws.head?=some t):=by
  rcases sh with ⟨h1,h2,_⟩ | ⟨t,ht,h1,h2,h3⟩
  ·exact .inl ⟨h1,h2⟩
  ·refine .inr ⟨t,?_⟩
   rw [h2] at hs0 h0
   rw [← hs0] at h0
   cases ts1 with
   | nil=>
    rw [h1] at hl
    simp only [List.length_nil,List.length_cons,kA] at hl
    omega
   | cons t1 r1=>
    have:t1=t:=by
     have h0:[t1]=[t]:=h0
     injection h0
    rw [this]
    exact ⟨_,ht,rfl,h1,h3⟩
 have hrl:(ts1++[tn]).length≤32:=by rw [List.length_append];simp only [List.length_cons,List.length_nil];omega
 generalize ts1++[tn]=R at *
 generalize us1++[V.ref p5]=uR at *
 have hRl:=hT5.length
 rw [List.length_map] at hRl
 have hRnd:R.Nodup:=Z4 hn hm0 hm (fun a ha=>(hw a ha).1) hrx hry hsh
 have npr0:=npb.2.1
 have npr1:=npb.2.2
 refine ⟨_,rfl,pr,rfl,⟨_,SqL.of e6⟩,?_⟩
 refine J9 (xs:=uR) (fun i σ G=>∃ (u12:Option V) (T':List Ti) (C':List Cla),σ=[some (.ref a),some (.int (n:Nat)),some (.ref wl),some (.ref pb),some vw,some (.int k),some (.int (m:Nat)),some (.ref pn'),some (.ref pr),u9,some (.int tot),some (.int (1+bl)),u12]∧SB b0 b1 G5 G∧BkAt G pb b0 b1 (T++T') (C++C')∧LPr R ws T i T' C') ⟨none,[],[],rfl,(fun b o _ _ e=>e),by rw [List.append_nil,List.append_nil];exact B5,LPr.zero _ _ _⟩ ?_ ?_ ?_
 ·rintro i σ G _ ⟨u12,T',C',rfl,sb,Bk,L⟩
  exact SqL.of (sb _ _ npr0 npr1 e6)
 ·rintro i x σ G hx ⟨u12,T',C',rfl,sb,Bk,L⟩
  have hi:i < R.length:=by have:=(List.getElem?_eq_some_iff.mp hx).1;omega
  obtain ⟨v,e7,e8⟩:=hT5.get (j:=i) (d:=R[i].toD) (by rw [List.getElem?_map,List.getElem?_eq_getElem hi];rfl)
  rw [hx] at e7
  cases e7
  have tk:=sb.tk B5
  have hxH:=tk.held e8
  have sbH:SB b0 b1 H G:=(SB.of sH5).trans sb
  have hwG:G wl=some (.lst xs):=sb _ _ nw0 nw1 (sH5 _ _ hwl)
  have hWG:HeldL G (tsD ws) xs:=tk.heldL (hW.mono sH5)
  have hSG:SqL K G a (ns.map V.int):=sbH.sq hO
  have hLl:=L.len
  refine gQ ?_
  refine ⟨_,rfl,_,rfl,wl,xs,R[i].toD,tsD ws,rfl,hwG,qe (fun d hd=>?_),hxH,hWG,_,rfl,j6 (fun d=>?_) (fun d=>?_)⟩
  ·obtain ⟨t,ht,rfl⟩:=List.mem_map.mp hd
   have h1:=q5 (hw t ht).1.1.x
   have h2:=q5 (hw t ht).1.1.y
   unfold Ti.toD
   simp only [D.depth,D.depthL]
   omega
  rotate_left
  ·have:R[i]∈ws:=by
    have d':decide (R[i].toD∈tsD ws)=true:=by
     cases h:decide (R[i].toD∈tsD ws) with
     | true=>rfl
     | false=>rw [h] at d;exact absurd rfl d
    obtain ⟨t,ht,e⟩:=List.mem_map.mp (of_decide_eq_true d')
    rw [← Ti.toD_inj e];exact ht
   exact ⟨_,T',C',rfl,sb,Bk,L.skip hi this⟩
  have nw:R[i] ∉ ws:=fun z=>by
   have d':decide (R[i].toD∈tsD ws)=true:=decide_eq_true (List.mem_map.mpr ⟨_,z,rfl⟩)
   rw [d'] at d;cases d
  obtain ⟨x0,g0,h0⟩:=Bk.h0
  obtain ⟨x1,g1,h1⟩:=Bk.h1
  have l0:=h0.length
  have l1:=h1.length
  rw [List.length_map,List.length_append] at l0 l1
  obtain ⟨ax,vx',vy',rfl,hax,hx1,hx2⟩:=kf hxH
  refine jbh (fun _=>True) (fun b _=>?_) (fun kk=>?_)
  rotate_left
  ·refine ⟨_,rfl,_,rfl,_,_,rfl,rfl,a,ns,k+4,3,rfl,hSG,(kb1 (kb hkb (j:=4) (by decide) (by decide))).1,(kb1 (kb hkb (j:=4) (by decide) (by decide))).2,by decide,fun c' c0' c1'=>?_⟩
   refine ⟨rfl,_,rfl,j6 (fun e=>kk true trivial) (fun e=>?_)⟩
   exact ⟨_,rfl,ax,_,_,_,rfl,rfl,SqT.of hax,rfl,_,_,rfl,rfl,(by show (0:Int) < 2;decide),rfl,_,rfl,kk _ trivial⟩
  cases b with
  | false=>
   refine Zx ?_
   refine ⟨_,rfl,pb,_,_,_,rfl,rfl,SqL.of Bk.p,rfl,.inl ⟨rfl,_,SqL.of g1⟩,?_⟩
   refine ⟨_,rfl,_,rfl,_,_,rfl,rfl,_,rfl,_,rfl,pb,_,_,_,rfl,rfl,SqL.of Bk.p,rfl,_,rfl,b0,_,rfl,SqL.of g0,fun p6 hp6=>?_⟩
   rw [show qG x0 none (some 3)=x0.take 3 from jgg _]
   have s6:=je hp6 (.lst (x0.take 3))
   have e6':upd G p6 (.lst (x0.take 3)) p6=some (.lst (x0.take 3)):=jd
   generalize upd G p6 (.lst (x0.take 3))=G6 at *
   have hT3:HeldL G6 (tsD ((T++T').take 3)) (x0.take 3):=by
    unfold tsD
    rw [List.map_take]
    exact J8 3 (h0.mono s6)
   refine ⟨a,wl,p6,ns,k+3,xs,_,ws,(T++T').take 3,rfl,jE s6 hSG,(kb hkb (j:=3) (by decide) (by decide)).1,(kb hkb (j:=3) (by decide) (by decide)).2,s6 _ _ hwG,hWG.mono s6,e6',hT3,by rw [List.length_take];omega,fun pg gs G7 s7 npg hgs hin hgl=>?_⟩
   have s67:=s6.trans s7
   refine ⟨_,rfl,sm rfl,fun p8 hp8=>?_⟩
   have s8:=je hp8 (.tup [V.ref pg,V.ref ax])
   have e8':upd G7 p8 (.tup [V.ref pg,V.ref ax]) p8=some (.tup [V.ref pg,V.ref ax]):=jd
   generalize upd G7 p8 (.tup [V.ref pg,V.ref ax])=G8 at *
   have s68:=s67.trans s8
   have hcl:Held G8 (clD (gs,R[i])) (.ref p8):=jF e8' (jg (hgs.mono s8) (jg (hxH.mono s68) ji))
   refine ⟨b1,x1,.ref p8,rfl,rfl,s68 _ _ g1,jx (by omega),?_⟩
   obtain ⟨B9,sb9⟩:=(Bk.mono s68).add1 (c:=(gs,R[i])) (s68 _ _ g1) hcl
   refine ⟨_,T',C'++[(gs,R[i])],rfl,sb.trans ((SB.of s68).trans sb9),by rw [← List.append_assoc];exact B9,L.add1 hRnd hi nw (fun g hg=>?_) hgl⟩
   rcases List.mem_append.mp (hin g hg) with z | z
   ·exact .inl z
   ·exact .inr (List.mem_of_mem_take z)
  | true=>
   refine zm ?_
   refine ⟨_,rfl,pb,_,_,_,rfl,rfl,SqL.of Bk.p,rfl,.inl ⟨rfl,_,SqL.of g0⟩,_,rfl,b0,x0,_,rfl,rfl,g0,jx (by omega),?_⟩
   obtain ⟨B9,sb9⟩:=Bk.add0 (t:=R[i]) g0 hxH
   exact ⟨_,T'++[R[i]],C',rfl,sb.trans sb9,by rw [← List.append_assoc];exact B9,L.add0 hRnd hi nw⟩
 ·rintro σ G ⟨u12,T',C',rfl,sb,Bk,L⟩
  have tk:=sb.tk B5
  rw [← hRl] at L
  obtain ⟨g,ts_,tn_,cs_,cn_,ln_⟩:=L
  rw [List.take_length] at g ts_ cs_
  obtain ⟨os,LF⟩:=jce (T0:=T) hn hm0 hm (fun a ha=>(hw a ha).1) hrx hry hcb hneg hsh g ts_ tn_ cs_ cn_ ln_
  exact ⟨_,rfl,q pr uR R os T' C' G ((SB.of sH5).trans sb) hHpr (sb _ _ npr0 npr1 e6) (tk.heldL hT5) Bk LF⟩
end
abbrev yh:Stmt:=top 17
def S3 (b0 b1 r:Addr) (H H':Hp):Prop:=∀ b o,b≠b0→b≠b1→b≠r→H b=some o→H' b=some o
theorem S3.of {b0 b1 r:Addr} {H H':Hp} (s:Same H H'):S3 b0 b1 r H H':=fun b o _ _ _ e=>s b o e
theorem S3.sb {b0 b1 r:Addr} {H H':Hp} (s:SB b0 b1 H H'):S3 b0 b1 r H H':=fun b o h h' _ e=>s b o h h' e
theorem S3.trans {b0 b1 r:Addr} {H H1 H2:Hp} (s:S3 b0 b1 r H H1) (s':S3 b0 b1 r H1 H2):S3 b0 b1 r H H2:=fun b o h h' h2 e=>s' b o h h' h2 (s b o h h' h2 e)
theorem S3.tk {H H':Hp} {pb b0 b1 r:Addr} {T:List Ti} {C:List Cla} {us:List V} (s:S3 b0 b1 r H H') (B:BkAt H pb b0 b1 T C) (hr:H r=some (.lst us)):TK H H':=fun b xs e=>by
 obtain ⟨x,e0,_⟩:=B.h0
 obtain ⟨y,e1,_⟩:=B.h1
 exact s b _ (fun z=>by rw [z,e0] at e;cases e) (fun z=>by rw [z,e1] at e;cases e) (fun z=>by rw [z,hr] at e;cases e) e
def PapN (N:Addr→Prop) (H:Hp):Pap→V→Prop
 | .ring ts,v=>∃ a l xs,v=.ref a∧H a=some (.tup [.str "ring",.ref l])∧N l∧H l=some (.lst xs)∧HeldL H (tsD ts) xs
 | .split t x y,v=>∃ a vt vx vy,v=.ref a∧H a=some (.tup [.str "split",vt,vx,vy])∧Held H t.toD vt∧PapN N H x vx∧PapN N H y vy
theorem PapN.keep {N:Addr→Prop} {H H':Hp} (tk:TK H H') (s:∀ l o,N l→H l=some o→H' l=some o):∀ {p:Pap} {v:V},PapN N H p v→PapN N H' p v
 | .ring ts,v,h=>by
  obtain ⟨a,l,xs,e,h1,h2,h3,h4⟩:=h
  exact ⟨a,l,xs,e,tk _ _ h1,h2,s _ _ h2 h3,tk.heldL h4⟩
 | .split t x y,v,h=>by
  obtain ⟨a,vt,vx,vy,e,h1,h2,h3,h4⟩:=h
  exact ⟨a,vt,vx,vy,e,tk _ _ h1,tk.held h2,PapN.keep tk s h3,PapN.keep tk s h4⟩
theorem PapN.at {N:Addr→Prop} {H:Hp}:∀ {p:Pap} {v:V},PapN N H p v→PapAt H p v
 | .ring ts,v,h=>by
  obtain ⟨a,l,xs,e,h1,h2,h3,h4⟩:=h
  exact ⟨a,l,xs,e,h1,h3,h4⟩
 | .split t x y,v,h=>by
  obtain ⟨a,vt,vx,vy,e,h1,h2,h3,h4⟩:=h
  exact ⟨a,vt,vx,vy,e,h1,h2,PapN.at h3,PapN.at h4⟩
def PapV (w0 w1 w2:Str):Pap→Prop
 | .ring ts=>ts.length≤32∧∀ t∈ts,VT w0 w1 w2 t
 | .split t x y=>VT w0 w1 w2 t∧t.c.natAbs < 10 ^ 30∧PapV w0 w1 w2 x∧PapV w0 w1 w2 y
theorem PapV.ok {w0 w1 w2:Str} (W:Wds w0 w1 w2):∀ {p:Pap},PapV w0 w1 w2 p→ye p
 | .ring ts,h=>⟨Nat.le_trans h.1 (by decide),fun t ht=>(h.2 t ht).ok W⟩
 | .split t x y,h=>⟨h.1.ok W,(h.1.turn h.2.1).ok W,PapV.ok W h.2.2.1,PapV.ok W h.2.2.2⟩
def yS (thin:Bool) (d:Nat):Nat:=if thin then d+1 else 2 ^ d
theorem jby (thin:Bool) (d:Nat):1≤yS thin d:=by
 unfold yS
 split
 ·omega
 ·exact Nat.one_le_two_pow
structure GrR (w0 w1 w2:Str) (thin:Bool) (d r:Nat) (ws T:List Ti) (C:List Cla) (p:Pap) (r2:Nat) (T2:List Ti) (C2:List Cla):Prop where
 lv:Lvs w0 w1 w2 r T C (p.lw ws) r2 T2 C2
 few:r2≤r+yS thin d
 deep:p.deep≤d
 ok:PapV w0 w1 w2 p
 tlen:T2.length+C2.length≤32 * r2
 first:∃ jG ts L,p.lw ws=(ws++jG,ts) :: L∧∀ a∈jG,∃ e,e≤d∧a.x=pk (2000+r+40 * e)
 root:∀ t x y,p=.split t x y→t.x=pk (2000+r+40 * d)∧SrcD w0 w1 w2 t.y∧∃ jG ts L,x.lw (ws++[t])=((ws++[t])++jG,ts) :: L∧∀ a∈jG,∃ e,e < d∧a.x=pk (2000+r+40 * e)
def Scr (K:W.Frag) (H:Hp) (a:Addr) (xs:List V) (b0 b1 r:Addr):Prop:=∃ H0,SqL K H0 a xs∧Same H0 H∧H0 b0=none∧H0 b1=none∧H0 r=none
theorem Scr.s3 {K:W.Frag} {H H':Hp} {a b0 b1 r:Addr} {xs:List V} (h:Scr K H a xs b0 b1 r) (s:S3 b0 b1 r H H'):Scr K H' a xs b0 b1 r:=by
 obtain ⟨H0,h,e,n0,n1,n2⟩:=h
 exact ⟨H0,h,fun b o z=>s b o (js z n0) (js z n1) (js z n2) (e b o z),n0,n1,n2⟩
theorem Scr.sq {K:W.Frag} {H:Hp} {a b0 b1 r:Addr} {xs:List V} (h:Scr K H a xs b0 b1 r):SqL K H a xs:=by
 obtain ⟨H0,h,e,_⟩:=h
 exact jE e h
theorem Scr.off {K:W.Frag} {H:Hp} {a b0 b1 r:Addr} {xs:List V} (h:Scr K H a xs b0 b1 r):Off K H a xs b0 b1:=by
 obtain ⟨H0,h,e,n0,n1,_⟩:=h
 exact ⟨H0,h,e,n0,n1⟩
def yA (K:W.Frag) (dd:Nat):Sp:=fun vs H Q _=>∃ (a wl pb b0 b1 rl wd:Addr) (thin:Bool) (ns:List Int) (n d:Nat) (xs us:List V) (ws T:List Ti) (C:List Cla) (w0 w1 w2:Str),vs=[.ref a,.int (n:Nat),.int (d:Nat),.bl thin,.ref wl,.ref pb,.ref rl,.ref wd]∧SqL K H a (ns.map V.int)∧Scr K H a (ns.map V.int) b0 b1 rl∧d < dd∧(n+2) * 2 ^ d≤16384∧H wl=some (.lst xs)∧HeldL H (tsD ws) xs∧(wl≠b0∧wl≠b1∧wl≠rl)∧ws.length+d≤12∧(∀ t∈ws,(VT w0 w1 w2 t∧FarT t)∧t.c.natAbs≤2 * 10 ^ 16)∧BkAt H pb b0 b1 T C∧H rl=some (.lst us)∧(rl≠pb∧rl≠b0∧rl≠b1)∧T.length+C.length≤32 * us.length∧us.length+yS thin d≤14∧H wd=some (.lst [.str w0,.str w1,.str w2])∧(wd≠b0∧wd≠b1∧wd≠rl)∧
 ∀ (v:V) (p:Pap) (T2:List Ti) (C2:List Cla) (us2:List V) H',S3 b0 b1 rl H H'→H' rl=some (.lst us2)→BkAt H' pb b0 b1 T2 C2→PapN (fun l=>l≠b0∧l≠b1∧l≠rl) H' p v→GrR w0 w1 w2 thin d us.length ws T C p us2.length T2 C2→Q v H'
theorem BkAt.off {H:Hp} {pb b0 b1 r:Addr} {T:List Ti} {C:List Cla} {us ys:List V} (B:BkAt H pb b0 b1 T C) (hr:H r=some (.lst us)) (n:r≠pb∧r≠b0∧r≠b1):BkAt (upd H r (.lst ys)) pb b0 b1 T C:=by
 obtain ⟨p,⟨x,e0,g0⟩,⟨y,e1,g1⟩,n1,n2,n3⟩:=B
 have tk:TK H (upd H r (.lst ys)):=TK.upd hr (fun xs z=>by cases z)
 exact ⟨by rw [jm (Ne.symm n.1)];exact p,⟨x,by rw [jm (Ne.symm n.2.1)];exact e0,tk.heldL g0⟩,⟨y,by rw [jm (Ne.symm n.2.2)];exact e1,tk.heldL g1⟩,n1,n2,n3⟩
theorem LeafR.vt {w0 w1 w2:Str} {n:Nat} {ws T0 ts os T':List Ti} {C':List Cla} (L:LeafR w0 w1 w2 n ws T0 ts os T' C') (hw:∀ t∈ws,VT w0 w1 w2 t):∀ t∈ts,VT w0 w1 w2 t:=fun t ht=>by
 rcases L.shape with ⟨e,_⟩ | ⟨a,ha,e,_⟩
 ·rw [e] at ht;exact (L.own t ht).v
 ·rw [e] at ht
  rcases List.mem_cons.mp ht with z | z
  ·rw [z];exact hw a ha
  ·exact (L.own t z).v
theorem jbA {t:TE} {g:TG} {u:TS} {D:L2.Ends} {σ:St} {H:Hp} (C:V→Prop) (k:∀ v,C v→g v σ H (u D)) (h:(∀ v,C v→g v σ H (u D))→t σ H fun v H1=>g v σ H1 (u D)):jv (K7 t g) u D σ H:=h k
theorem je0 {thin:Bool} {d:Nat} (h:d≠0):yS thin (d - 1)+yS thin (if thin then 0 else d - 1)≤yS thin d:=by
 obtain ⟨e,rfl⟩:∃ e,d=e+1:=⟨d - 1,by omega⟩
 unfold yS
 cases thin
 ·simp only [Nat.add_sub_cancel,Bool.false_eq_true,if_false]
  rw [Nat.pow_succ];omega
 ·simp only [Nat.add_sub_cancel,if_true]
  omega
theorem Zb {n d j e:Nat} (h:(n+2) * 2 ^ d≤16384) (hd:d≠0) (hj:j≤2) (he:e≤d - 1):(2 * n+j+2) * 2 ^ e≤16384:=by
 obtain ⟨f,rfl⟩:∃ f,d=f+1:=⟨d - 1,by omega⟩
 have h1:2 ^ e≤2 ^ f:=Nat.pow_le_pow_right (by decide) (by omega)
 have h2:(2 * n+j+2) * 2 ^ e≤(2 * (n+2)) * 2 ^ f:=Nat.mul_le_mul (by omega) h1
 have h3:(2 * (n+2)) * 2 ^ f=(n+2) * 2 ^ (f+1):=by rw [Nat.pow_succ,Nat.mul_comm 2 (n+2),Nat.mul_assoc,Nat.mul_comm 2]
 omega
theorem FarT.turn {t:Ti} (f:FarT t):FarT t.turn:=by
 obtain ⟨a,b,i,h1,h2,h3⟩:=f
 exact ⟨b,a,i,h1,h2,h3.symm⟩
theorem Yd {tt:TT} {ta tb u:TS} {D:L2.Ends} {σ:St} {H:Hp} (C:Bool→Prop) (k:∀ b,C b→if b=true then ta { D with nx:=u D } σ H else tb { D with nx:=u D } σ H) (h:(∀ b,C b→if b=true then ta { D with nx:=u D } σ H else tb { D with nx:=u D } σ H)→jbS tt ta tb { D with nx:=u D } σ H):jv (jbS tt ta tb) u D σ H:=h k
section
variable {P:Program} {w:World} {K:W.Frag} {mg:Str→Option Value} {base:Heap}
theorem jb8 {k:Nat} {f:Addr} {fd:FuncData} (F:Fun K "_law_grown" "_law_grown" yh f fd):FnOk P w K mg base CX0 (k+1) f fd ["_law_script","_law_n","_law_deep","_law_thin","_law_way","_law_book","_law_rings","_law_words"] (yA K 0):=by
 have sc:FnScope ["_law_script","_law_n","_law_deep","_law_thin","_law_way","_law_book","_law_rings","_law_words","_law_tie","_law_other","_law_yes","_law_left"] ["_law_script","_law_n","_law_deep","_law_thin","_law_way","_law_book","_law_rings","_law_words"] (jk yh):=fQ
 refine F.okZ sc (fun vs H Q E h=>?_) (fun cdv A outer s H vs Q E hr h=>?_)
 ·obtain ⟨a,wl,pb,b0,b1,rl,wd,thin,ns,n,d,xs,us,ws,T,C,w0,w1,w2,rfl,_⟩:=h
  rfl
 ·obtain ⟨a,wl,pb,b0,b1,rl,wd,thin,ns,n,d,xs,us,ws,T,C,w0,w1,w2,_,_,_,hd,_⟩:=h
  exact absurd hd (Nat.not_lt_zero _)
theorem jdo {k dd:Nat} (hk:4≤k) {f:Addr} {fd:FuncData} (F:Fun K "_law_grown" "_law_grown" yh f fd) (B:Free0 mg) (F_pick:Fn P w K mg base 2 "_law_pick" ["_law_script","_law_k","_law_many"] (zf K)) (F_number:Fn P w K mg base 3 "_law_number" ["_law_script","_law_k"] (zE K)) (F_source:Fn P w K mg base 3 "_law_source" ["_law_script","_law_k","_law_words"] (yz K)) (F_leaf:Fn P w K mg base 4 "_law_leaf" ["_law_script","_law_n","_law_way","_law_book","_law_words"] (Z0 K)) (F_grown:Fn P w K mg base k "_law_grown" ["_law_script","_law_n","_law_deep","_law_thin","_law_way","_law_book","_law_rings","_law_words"] (yA K dd)):FnOk P w K mg base CX0 (k+1) f fd ["_law_script","_law_n","_law_deep","_law_thin","_law_way","_law_book","_law_rings","_law_words"] (yA K (dd+1)):=by
 have sc:FnScope ["_law_script","_law_n","_law_deep","_law_thin","_law_way","_law_book","_law_rings","_law_words","_law_tie","_law_other","_law_yes","_law_left"] ["_law_script","_law_n","_law_deep","_law_thin","_law_way","_law_book","_law_rings","_law_words"] (jk yh):=fQ
 refine F.okZ sc (fun vs H Q E h=>?_) (fun cdv A outer s H vs Q E hr h=>?_)
 ·obtain ⟨a,wl,pb,b0,b1,rl,wd,thin,ns,n,d,xs,us,ws,T,C,w0,w1,w2,rfl,_⟩:=h
  rfl
 obtain ⟨a,wl,pb,b0,b1,rl,wd,thin,ns,n,d,xs,us,ws,T,C,w0,w1,w2,rfl,hS,hO,hd,hn,hwl,hW,nwl,hwz,hw,hB,hrl,nrl,hz,hcap,hwd,nwd,q⟩:=h
 refine ⟨_,(jf (jN (yV (jq kR (zpv 2) jb (jB _)) (zM (yo (KZ (yp (zpv 3))) (yo (jq Jm (zpv 1) jb (jB _)) (yn (jq kR (kM F_pick hr (ja (zpv 0) (ja (jj jH jb (zpv 1)) (ja jb jc)))) jb (jB _))))).pt)).pt (jf (jZ (kN PySem.F.plainAttrs_list PySem.F.slot_list_append PySem.F.type_list_append jO (zpv 6) (ja (zpv 1) jc)))
   (jl (ju (jo (ja jL (ja (kM F_leaf hr (ja (zpv 0) (ja (jj kP (jM jz (by rfl) B.len_ kc (ja (zpv 6) jc)) jb) (ja (zpv 4) (ja (zpv 5) (ja (zpv 7) jc)))))) jc)))))) jD)
   (jf (jp (i:=8) sc.nd rfl oQ (jo (ja (jo (ja jL (ja (jj jH (jj jH jb (jM jz (by rfl) B.len_ kc (ja (zpv 6) jc))) (jj kQ jb (zpv 2))) jc))) (ja (kM F_source hr (ja (zpv 0) (ja (jj jH jb (zpv 1)) (ja (zpv 7) jc)))) (ja (kM F_number hr (ja (zpv 0) (ja (jj jH jb (zpv 1)) jc))) jc)))))
   (jf (jp (i:=9) sc.nd rfl oQ (jo (ja (jh jy (zpv 8) jb (fun _ _=>rfl)) (ja (jh jy (zpv 8) jb (fun _ _=>rfl)) (ja (jj kP (jj kP jb jb) (jh jy (zpv 8) jb (fun _ _=>rfl))) jc)))))
   (jf (jp (i:=10) sc.nd rfl oQ (kM F_grown hr (ja (zpv 0) (ja (jj jH (jj kQ jb (zpv 1)) jb) (ja (jj kP (zpv 2) jb) (ja (zpv 3) (ja (jj qz (zpv 4) (jC (ja (zpv 8) jc))) (ja (zpv 5) (ja (zpv 6) (ja (zpv 7) jc))))))))))
   (jf (jp (i:=11) sc.nd rfl oQ (zO (yp (zpv 3)) jb (jj kP (zpv 2) jb)))
   (jl (ju (jo (ja jL (ja (zpv 8) (ja (zpv 10) (ja (kM F_grown hr (ja (zpv 0) (ja (jj jH (jj kQ jb (zpv 1)) jb) (ja (zpv 11) (ja (zpv 3) (ja (jj qz (zpv 4) (jC (ja (zpv 9) jc))) (ja (zpv 5) (ja (zpv 6) (ja (zpv 7) jc))))))))) jc)))))))))))),?_⟩
 refine kD (σ':=[some (.ref a),some (.int (n:Nat)),some (.int (d:Nat)),some (.bl thin),some (.ref wl),some (.ref pb),some (.ref rl),some (.ref wd),none,none,none,none]) rfl ?_
 try dsimp only [kZ]
 refine jgX ?_
 intro _ _ _ _ _
 have hn':n≤16382:=by
  have:(n+2) * 1≤(n+2) * 2 ^ d:=Nat.mul_le_mul_left _ Nat.one_le_two_pow
  omega
 refine Yd (fun b=>b=false→d≠0) (fun b hb=>?_) (fun kk=>?_)
 rotate_left
 ·have dn:∀ {c:Bool},¬ (decide (V.int ((d:Nat):Int)=V.int 0)=true)→c=false→d≠0:=fun h _ z=>h (decide_eq_true (by rw [z];rfl))
  refine ⟨_,rfl,rfl,_,rfl,j6 (fun e=>kk true (fun z=>by cases z)) (fun e=>?_)⟩
  refine ⟨_,rfl,_,rfl,j6 (fun e1=>?_) (fun e1=>kk false (dn e))⟩
  refine ⟨_,rfl,_,_,rfl,rfl,_,rfl,j6 (fun e2=>?_) (fun e2=>kk false (dn e))⟩
  exact ⟨_,rfl,_,rfl,_,_,rfl,rfl,a,ns,3+(n:Nat),4,rfl,hS,by omega,by omega,by decide,fun c c0 c1=>⟨rfl,_,rfl,kk _ (dn e)⟩⟩
 have cp:=jby thin d
 cases b with
 | true=>
  refine zm ?_
  refine ⟨_,rfl,.inl ⟨rfl,_,SqL.of hrl⟩,_,rfl,rl,us,_,rfl,rfl,hrl,jx (by omega),?_⟩
  have B1:=hB.off (ys:=us++[V.int (n:Nat)]) hrl nrl
  have tk1:TK H (upd H rl (.lst (us++[V.int (n:Nat)]))):=TK.upd hrl (fun xs z=>by cases z)
  have e1:upd H rl (.lst (us++[V.int (n:Nat)])) rl=some (.lst (us++[V.int (n:Nat)])):=jd
  have k1:∀ b o,b≠rl→H b=some o→upd H rl (.lst (us++[V.int (n:Nat)])) b=some o:=fun b o h e=>by rw [jm h];exact e
  have k1':∀ b o,b≠rl→upd H rl (.lst (us++[V.int (n:Nat)])) b=some o→H b=some o:=fun b o h e=>by rw [jm h] at e;exact e
  generalize upd H rl (.lst (us++[V.int (n:Nat)]))=H1 at *
  have ul:(us++[V.int (n:Nat)]).length=us.length+1:=by rw [List.length_append];rfl
  have hO1:=hO.s3 (H':=H1) fun b o _ _ h e=>k1 b o h e
  refine ⟨_,rfl,_,rfl,rl,_,rfl,.inl (SqL.of e1),_,_,rfl,rfl,_,rfl,_,rfl,_,rfl,?_⟩
  refine ⟨a,wl,pb,b0,b1,_,ns,us.length,xs,ws,T,C,w0,w1,w2,(by show [V.ref a,V.int (((us++[V.int (n:Nat)]).length:Nat) - 1),V.ref wl,V.ref pb,V.ref wd]=_;rw [ul,show (((us.length+1:Nat):Int) - 1)=(us.length:Nat) by omega]),hO1.sq,hO1.off,by omega,k1 _ _ nwl.2.2 hwl,tk1.heldL hW,nwl.1,nwl.2.1,by omega,hw,B1,by omega,fun l xs' ts os T' C' H2 sb nl el hts Bk LF=>⟨sm rfl,fun pt hpt=>?_⟩⟩
  have s3:=je hpt (.tup [V.str "ring",V.ref l])
  have e3:upd H2 pt (.tup [V.str "ring",V.ref l]) pt=some (.tup [V.str "ring",V.ref l]):=jd
  generalize upd H2 pt (.tup [V.str "ring",V.ref l])=H3 at *
  have hlr:l≠rl:=fun z=>by rw [z,e1] at nl;cases nl
  have hlb:=B1.ne nl
  refine q (.ref pt) (.ring ts) (T++T') (C++C') (us++[V.int (n:Nat)]) H3 (fun b o h0 h1 h2 e=>s3 _ _ (sb _ _ h0 h1 (k1 _ _ h2 e))) (s3 _ _ (sb _ _ nrl.2.1 nrl.2.2 e1)) (Bk.mono s3) ⟨pt,l,xs',rfl,e3,⟨hlb.2.1,hlb.2.2,hlr⟩,s3 _ _ el,hts.mono s3⟩ ?_
  have htl:=LF.tlen
  refine ⟨by rw [ul];exact .cons LF (fun t ht=>(hw t ht).1) .nil,by omega,Nat.zero_le _,⟨LF.len,LF.vt fun t ht=>(hw t ht).1.1⟩,by rw [ul,List.length_append,List.length_append];omega,⟨[],ts,[],by rw [List.append_nil];rfl,fun a ha=>by cases ha⟩,fun t x y e=>by cases e⟩
 | false=>
  have hd0:d≠0:=hb rfl
  refine Zx ?_
  refine ⟨_,rfl,rl,us,rfl,.inl (SqL.of hrl),_,_,rfl,rfl,_,rfl,_,_,rfl,rfl,.inl ⟨by decide,by decide⟩,_,_,rfl,rfl,sm rfl,fun pp hpp=>?_⟩
  dsimp only
  rw [show (2000+(us.length:Int)+40 * ((d:Nat):Int))=((2000+us.length+40 * d:Nat):Int) by omega]
  have s1:=je hpp (.tup [V.str "pick",V.int ((2000+us.length+40 * d:Nat):Int)])
  have e1:Held (upd H pp (.tup [V.str "pick",V.int ((2000+us.length+40 * d:Nat):Int)])) (pk (2000+us.length+40 * d)) (.ref pp):=jF jd (jg j8 (jg j3 ji))
  generalize upd H pp (.tup [V.str "pick",V.int ((2000+us.length+40 * d:Nat):Int)])=H1 at *
  refine ⟨_,rfl,_,rfl,_,_,rfl,rfl,_,rfl,a,wd,ns,5+(n:Nat),w0,w1,w2,rfl,jE s1 hS,by omega,by omega,s1 _ _ hwd,fun vs D' H2 s2 hv hsrc=>?_⟩
  have s12:=s1.trans s2
  refine ⟨_,rfl,_,rfl,_,_,rfl,rfl,a,ns,6+(n:Nat),rfl,jE s12 hS,by omega,by omega,fun c c0 c1=>⟨sm rfl,fun pt hpt=>?_⟩⟩
  have s3:=je hpt (.tup [V.ref pp,vs,V.int c])
  have e3:upd H2 pt (.tup [V.ref pp,vs,V.int c]) pt=some (.tup [V.ref pp,vs,V.int c]):=jd
  generalize upd H2 pt (.tup [V.ref pp,vs,V.int c])=H3 at *
  obtain ⟨t,ht⟩:∃ t:Ti,t=⟨pk (2000+us.length+40 * d),D',c⟩:=⟨_,rfl⟩
  have hT:Held H3 t.toD (.ref pt):=by rw [ht];exact qw (t:=⟨pk (2000+us.length+40 * d),D',c⟩) e3 (e1.mono (s2.trans s3)) (hv.mono s3)
  refine gQ ?_
  refine ⟨_,rfl,pt,_,_,_,rfl,rfl,SqT.of e3,rfl,_,rfl,pt,_,_,_,rfl,rfl,SqT.of e3,rfl,_,_,rfl,rfl,_,rfl,pt,_,_,_,rfl,rfl,SqT.of e3,rfl,_,_,rfl,rfl,sm rfl,fun po hpo=>?_⟩
  have s4:=je hpo (.tup [vs,V.ref pp,V.int (0 - 1 - c)])
  have e4:upd H3 po (.tup [vs,V.ref pp,V.int (0 - 1 - c)]) po=some (.tup [vs,V.ref pp,V.int (0 - 1 - c)]):=jd
  generalize upd H3 po (.tup [vs,V.ref pp,V.int (0 - 1 - c)])=H4 at *
  have hU:Held H4 t.turn.toD (.ref po):=by
   rw [ht]
   exact qw (t:=Ti.turn ⟨pk (2000+us.length+40 * d),D',c⟩) e4 (hv.mono (s3.trans s4)) (e1.mono (s2.trans (s3.trans s4)))
  have hT4:=hT.mono s4
  have s14:=s12.trans (s3.trans s4)
  refine gQ ?_
  refine ⟨_,rfl,_,rfl,_,_,rfl,rfl,.inl ⟨by decide,by decide⟩,_,_,rfl,rfl,_,rfl,_,_,rfl,rfl,_,rfl,_,rfl,_,rfl,sm rfl,fun pl hpl=>?_⟩
  have s5:=je hpl (.lst [V.ref pt])
  have e5:upd H4 pl (.lst [V.ref pt]) pl=some (.lst [V.ref pt]):=jd
  generalize upd H4 pl (.lst [V.ref pt])=H5 at *
  have s15:=s14.trans s5
  have hxl:=hW.length
  rw [List.length_map] at hxl
  refine ⟨wl,pl,xs,_,rfl,rfl,s15 _ _ hwl,e5,zv (by simp only [List.length_cons,List.length_nil];omega),fun pw hpw=>?_⟩
  have s6:=je hpw (.lst (xs++[V.ref pt]))
  have e6:upd H5 pw (.lst (xs++[V.ref pt])) pw=some (.lst (xs++[V.ref pt])):=jd
  generalize upd H5 pw (.lst (xs++[V.ref pt]))=H6 at *
  have s16:=s15.trans s6
  have hHpw:H pw=none:=s15.free hpw
  have vt:VT w0 w1 w2 t:=by
   rw [ht]
   refine ⟨.pick _ ?_,.src hsrc,?_⟩
   ·exact Nat.lt_of_le_of_lt (show (((2000+us.length+40 * d:Nat):Int)).natAbs≤3000 by omega) (by decide)
   ·exact Nat.lt_of_le_of_lt (show c.natAbs≤10 ^ 16 by omega) (by decide)
  have ft:FarT t:=by rw [ht];exact ⟨jdL (by omega),jbn hsrc,_,by omega,by omega,.inl rfl⟩
  have ct:t.c.natAbs≤10 ^ 16:=by rw [ht];show c.natAbs≤10 ^ 16;omega
  have ct':t.turn.c.natAbs≤2 * 10 ^ 16:=by show (-1 - t.c).natAbs≤_;omega
  have ct3:t.c.natAbs < 10 ^ 30:=Nat.lt_of_le_of_lt ct (by decide)
  have hw1:∀ u∈ws++[t],(VT w0 w1 w2 u∧FarT u)∧u.c.natAbs≤2 * 10 ^ 16:=fun u hu=>by
   rcases List.mem_append.mp hu with z | z
   ·exact hw u z
   ·rw [List.mem_singleton.mp z];exact ⟨⟨vt,ft⟩,by omega⟩
  have hw2:∀ u∈ws++[t.turn],(VT w0 w1 w2 u∧FarT u)∧u.c.natAbs≤2 * 10 ^ 16:=fun u hu=>by
   rcases List.mem_append.mp hu with z | z
   ·exact hw u z
   ·rw [List.mem_singleton.mp z];exact ⟨⟨vt.turn ct3,ft.turn⟩,ct'⟩
  have hc2:=je0 (thin:=thin) hd0
  have cp1:=jby thin (if thin then 0 else d - 1)
  have nb:∀ {p:Addr},H p=none→p≠b0∧p≠b1∧p≠rl:=fun {p} h=>⟨(hB.ne h).2.1,(hB.ne h).2.2,fun z=>by rw [z,hrl] at h;cases h⟩
  have dI:((d:Nat):Int) - 1=((d - 1:Nat):Int):=by omega
  have s06:=hW.mono s16
  refine ⟨_,rfl,_,rfl,_,rfl,a,pw,pb,b0,b1,rl,wd,thin,ns,2 * n+1,d - 1,_,us,ws++[t],T,C,w0,w1,w2,(by show [V.ref a,V.int (2 * ((n:Nat):Int)+1),V.int (((d:Nat):Int) - 1),_,_,_,_,_]=_;rw [dI];rfl),jE s16 hS,hO.s3 (S3.of s16),by omega,Zb hn hd0 (by decide) (Nat.le_refl _),e6,?_,nb hHpw,by rw [List.length_append];simp only [List.length_cons,List.length_nil];omega,hw1,hB.mono s16,s16 _ _ hrl,nrl,hz,by omega,s16 _ _ hwd,nwd,fun v1 p1 T1 C1 us1 H7 sy er1 B1 pn1 G1=>?_⟩
  ·unfold tsD
   rw [List.map_append]
   exact jJ s06 (jg (hT4.mono (s5.trans s6)) ji)
  refine gQ ?_
  obtain ⟨left,hleft⟩:∃ l:Nat,l=if thin then 0 else d - 1:=⟨_,rfl⟩
  have hleft':left≤d - 1:=by rw [hleft];cases thin <;> simp
  rw [← hleft] at hc2 cp1
  dsimp only
  refine jbA (fun v=>v=.int (left:Nat)) (fun v hv'=>?_) (fun kk=>?_)
  rotate_left
  ·refine ⟨_,rfl,_,rfl,j6 (fun e=>?_) (fun e=>?_)⟩
   ·exact kk _ (by rw [hleft,e];rfl)
   ·have e':thin=false:=by cases thin with | true=>exact absurd rfl e | false=>rfl
    refine ⟨_,rfl,_,_,rfl,rfl,kk _ ?_⟩
    rw [hleft,e']
    show V.int (((d:Nat):Int) - 1)=V.int ((d - 1:Nat):Int)
    rw [dI]
  subst hv'
  refine gQ ?_
  have B6:=hB.mono s16
  have rl6:=s16 _ _ hrl
  have tk67:=sy.tk B6 rl6
  have k7:∀ b o,b≠b0∧b≠b1∧b≠rl→H b=some o→H7 b=some o:=fun b o h e=>sy b o h.1 h.2.1 h.2.2 (s16 _ _ e)
  refine ⟨_,rfl,_,rfl,_,rfl,_,rfl,_,_,rfl,rfl,.inl ⟨by decide,by decide⟩,_,_,rfl,rfl,_,rfl,_,rfl,_,rfl,_,rfl,sm rfl,fun pl2 hpl2=>?_⟩
  have s8:=je hpl2 (.lst [V.ref po])
  have e8:upd H7 pl2 (.lst [V.ref po]) pl2=some (.lst [V.ref po]):=jd
  generalize upd H7 pl2 (.lst [V.ref po])=H8 at *
  refine ⟨wl,pl2,xs,_,rfl,rfl,s8 _ _ (k7 _ _ nwl hwl),e8,zv (by simp only [List.length_cons,List.length_nil];omega),fun pw2 hpw2=>?_⟩
  have s9:=je hpw2 (.lst (xs++[V.ref po]))
  have e9:upd H8 pw2 (.lst (xs++[V.ref po])) pw2=some (.lst (xs++[V.ref po])):=jd
  generalize upd H8 pw2 (.lst (xs++[V.ref po]))=H9 at *
  have s79:=s8.trans s9
  have B9:=B1.mono s79
  have er9:=s79 _ _ er1
  have tk69:=tk67.trans (TK.same s79)
  have nb2:pw2≠b0∧pw2≠b1∧pw2≠rl:=by
   have h7:=s8.free hpw2
   exact ⟨(B1.ne h7).2.1,(B1.ne h7).2.2,fun z=>by rw [z,er1] at h7;cases h7⟩
  have few1:=G1.few
  have hO9:=hO.s3 (((S3.of s16).trans sy).trans (S3.of s79))
  refine ⟨_,rfl,_,rfl,_,rfl,a,pw2,pb,b0,b1,rl,wd,thin,ns,2 * n+2,left,_,us1,ws++[t.turn],T1,C1,w0,w1,w2,rfl,hO9.sq,hO9,by omega,Zb hn hd0 (by decide) hleft',e9,?_,nb2,by rw [List.length_append];simp only [List.length_cons,List.length_nil];omega,hw2,B9,er9,nrl,G1.tlen,by omega,s79 _ _ (k7 _ _ nwd hwd),nwd,fun v2 p2 T2 C2 us2 Ha sz er2 B2 pn2 G2=>⟨sm rfl,fun pz hpz=>?_⟩⟩
  ·unfold tsD
   rw [List.map_append]
   exact jJ (tk69.heldL s06) (jg (tk69.held (hU.mono (s5.trans s6))) ji)
  have s11:=je hpz (.tup [V.str "split",V.ref pt,v1,v2])
  have e11:upd Ha pz (.tup [V.str "split",V.ref pt,v1,v2]) pz=some (.tup [V.str "split",V.ref pt,v1,v2]):=jd
  generalize upd Ha pz (.tup [V.str "split",V.ref pt,v1,v2])=Hb at *
  have tk9b:TK H9 Hb:=(sz.tk B9 er9).trans (TK.same s11)
  have few2:=G2.few
  have txe:t.x=pk (2000+us.length+40 * d):=by rw [ht]
  have sye:SrcD w0 w1 w2 t.y:=by rw [ht];exact hsrc
  obtain ⟨jG,fs,L,ef,hf⟩:=G1.first
  refine q (.ref pz) (.split t p1 p2) T2 C2 us2 Hb (((S3.of s16).trans sy).trans ((S3.of s79).trans (sz.trans (S3.of s11)))) (s11 _ _ er2) (B2.mono s11) ⟨pz,.ref pt,v1,v2,rfl,e11,(tk69.trans tk9b).held (hT4.mono (s5.trans s6)),?_,?_⟩ ?_
  ·exact (pn1.keep ((TK.same s79).trans tk9b) fun l o hl e=>s11 _ _ (sz _ _ hl.1 hl.2.1 hl.2.2 (s79 _ _ e)))
  ·exact pn2.keep (TK.same s11) fun l o _ e=>s11 _ _ e
  ·refine ⟨G1.lv.app G2.lv,by omega,?_,⟨vt,ct3,G1.ok,G2.ok⟩,G2.tlen,?_,fun t' x' y' e=>?_⟩
   ·show max p1.deep p2.deep+1≤d
    have:=G1.deep
    have:=G2.deep
    omega
   ·refine ⟨[t]++jG,fs,L++p2.lw (ws++[t.turn]),?_,fun a' ha'=>?_⟩
    ·show p1.lw (ws++[t])++_=_
     rw [ef,← List.append_assoc];rfl
    ·rcases List.mem_append.mp ha' with z | z
     ·rw [List.mem_singleton.mp z];exact ⟨d,Nat.le_refl _,txe⟩
     ·obtain ⟨e,he,hx⟩:=hf a' z
      exact ⟨e,by omega,hx⟩
   ·cases e
    refine ⟨txe,sye,jG,fs,L,ef,fun a' ha'=>?_⟩
    obtain ⟨e,he,hx⟩:=hf a' ha'
    exact ⟨e,by omega,hx⟩
end
def InB (T:List Ti) (C:List Cla) (t:Ti):Prop:=t∈T∨∃ c∈C,c.2=t
structure Acc (w0 w1 w2:Str) (n:Nat) (T:List Ti) (C:List Cla):Prop where
 own:∀ t,InB T C t→∃ m,m < n∧OwnT w0 w1 w2 m t
 gd:∀ c∈C,c.1.length≤3∧∀ g∈c.1,VT w0 w1 w2 g
 uniq:∀ t u,InB T C t→InB T C u→t.x=u.x→t.y=u.y→t=u
 tnd:T.Nodup
 cnd:(C.map (·.2)).Nodup
theorem JA {T T':List Ti} {C C':List Cla} {t:Ti}:InB (T++T') (C++C') t↔InB T C t∨InB T' C' t:=by
 unfold InB
 constructor
 ·rintro (h | ⟨c,hc,e⟩)
  ·exact (List.mem_append.mp h).elim (fun z=>.inl (.inl z)) (fun z=>.inr (.inl z))
  ·exact (List.mem_append.mp hc).elim (fun z=>.inl (.inr ⟨c,z,e⟩)) (fun z=>.inr (.inr ⟨c,z,e⟩))
 ·rintro ((h | ⟨c,hc,e⟩) | (h | ⟨c,hc,e⟩))
  ·exact .inl (List.mem_append_left _ h)
  ·exact .inr ⟨c,List.mem_append_left _ hc,e⟩
  ·exact .inl (List.mem_append_right _ h)
  ·exact .inr ⟨c,List.mem_append_right _ hc,e⟩
theorem jed {os:List Ti} (nd:(os.map Ti.xy).Nodup) {t u:Ti} (ht:t∈os) (hu:u∈os) (ex:t.x=u.x) (ey:t.y=u.y):t=u:=by
 induction os with
 | nil=>cases ht
 | cons a os ih=>
  rw [List.map_cons] at nd
  obtain ⟨n1,n2⟩:=List.nodup_cons.mp nd
  have e:t.xy=u.xy:=by unfold Ti.xy;rw [ex,ey]
  rcases List.mem_cons.mp ht with z | z <;> rcases List.mem_cons.mp hu with y | y
  ·rw [z,y]
  ·rw [z] at e;exact absurd (List.mem_map.mpr ⟨u,y,e.symm⟩) n1
  ·rw [y] at e;exact absurd (List.mem_map.mpr ⟨t,z,e⟩) n1
  ·exact ih n2 z y
theorem LeafR.inB {w0 w1 w2:Str} {n:Nat} {ws T0 ts os T':List Ti} {C':List Cla} (L:LeafR w0 w1 w2 n ws T0 ts os T' C') {t:Ti}:InB T' C' t↔t∈os:=by
 constructor
 ·rintro (h | ⟨c,hc,e⟩)
  ·exact L.tsub t h
  ·rw [← e];exact (L.csub c hc).1
 ·intro h;exact L.got t h
theorem Jc {α:Type} {l r:List α} (h:l.Nodup) (h':r.Nodup) (d:∀ a,a∈l→a∈r→False):(l++r).Nodup:=List.nodup_append.mpr ⟨h,h',fun a ha b hb e=>d a ha (by rw [e];exact hb)⟩
theorem Acc.step {w0 w1 w2:Str} {n:Nat} {ws T ts os T':List Ti} {C C':List Cla} (A:Acc w0 w1 w2 n T C) (L:LeafR w0 w1 w2 n ws T ts os T' C') (hw:∀ a∈ws,VT w0 w1 w2 a∧FarT a) (hn:n≤30):Acc w0 w1 w2 (n+1) (T++T') (C++C'):=by
 have dis:∀ t u,InB T C t→InB T' C' u→t.x=u.x→t.y=u.y→False:=fun t u h h' ex ey=>by
  obtain ⟨m,hm,o⟩:=A.own t h
  have:=jgQ hn o (L.own u (L.inB.mp h')) ex ey
  omega
 refine ⟨fun t ht=>?_,fun c hc=>?_,fun t u ht hu ex ey=>?_,Jc A.tnd L.tnd fun a h h'=>dis a a (.inl h) (.inl h') rfl rfl,?_⟩
 ·rcases JA.mp ht with z | z
  ·obtain ⟨m,hm,o⟩:=A.own t z
   exact ⟨m,by omega,o⟩
  ·exact ⟨n,by omega,L.own t (L.inB.mp z)⟩
 ·rcases List.mem_append.mp hc with z | z
  ·exact A.gd c z
  ·refine ⟨(L.csub c z).2.2,fun g hg=>?_⟩
   rcases (L.csub c z).2.1 g hg with y | y
   ·exact (hw g y).1
   ·rcases List.mem_append.mp y with y | y
    ·obtain ⟨m,_,o⟩:=A.own g (.inl y);exact o.v
    ·exact (L.own g (L.tsub g y)).v
 ·rcases JA.mp ht with z | z <;> rcases JA.mp hu with y | y
  ·exact A.uniq t u z y ex ey
  ·exact (dis t u z y ex ey).elim
  ·exact (dis u t y z ex.symm ey.symm).elim
  ·exact jed L.nd (L.inB.mp z) (L.inB.mp y) ex ey
 ·rw [List.map_append]
  refine Jc A.cnd L.cnd fun a h h'=>?_
  obtain ⟨c,hc,e⟩:=List.mem_map.mp h
  obtain ⟨c',hc',e'⟩:=List.mem_map.mp h'
  exact dis a a (.inr ⟨c,hc,e⟩) (.inr ⟨c',hc',e'⟩) rfl rfl
theorem Lvs.acc {w0 w1 w2:Str} {n n2:Nat} {T T2:List Ti} {C C2:List Cla} {L:List (List Ti×List Ti)} (h:Lvs w0 w1 w2 n T C L n2 T2 C2) (hn:n2≤30) (A:Acc w0 w1 w2 n T C):Acc w0 w1 w2 n2 T2 C2:=by
 induction h with
 | nil=>exact A
 | cons a hw h2 ih=>exact ih hn (A.step a hw (by have:=h2.num;omega))
theorem Acc.zero (w0 w1 w2:Str):Acc w0 w1 w2 0 [] []:=⟨fun t h=>(by rcases h with h | ⟨c,h,_⟩ <;> cases h),fun c h=>(by cases h),fun t u h=>(by rcases h with h | ⟨c,h,_⟩ <;> cases h),List.nodup_nil,List.nodup_nil⟩
theorem Lvs.sub {w0 w1 w2:Str} {n n2:Nat} {T T2:List Ti} {C C2:List Cla} {L:List (List Ti×List Ti)} (h:Lvs w0 w1 w2 n T C L n2 T2 C2):(∀ t∈T,t∈T2)∧∀ c∈C,c∈C2:=by
 induction h with
 | nil=>exact ⟨fun _ h=>h,fun _ h=>h⟩
 | cons a hw h2 ih=>exact ⟨fun t ht=>ih.1 t (List.mem_append_left _ ht),fun c hc=>ih.2 c (List.mem_append_left _ hc)⟩
theorem Lvs.leaf {w0 w1 w2:Str} {n n2:Nat} {T T2:List Ti} {C C2:List Cla} {L:List (List Ti×List Ti)} (h:Lvs w0 w1 w2 n T C L n2 T2 C2):∀ {i:Nat} {w ts:List Ti},L[i]?=some (w,ts)→∃ T0 os T' C',LeafR w0 w1 w2 (n+i) w T0 ts os T' C'∧(∀ a∈w,VT w0 w1 w2 a∧FarT a)∧(∀ t∈T0++T',t∈T2)∧∀ c∈C',c∈C2:=by
 induction h with
 | nil=>intro i w ts e;simp at e
 | cons a hw h2 ih=>
  intro i w ts e
  cases i with
  | zero=>
   cases e
   exact ⟨_,_,_,_,a,hw,h2.sub.1,fun c hc=>h2.sub.2 c (List.mem_append_right _ hc)⟩
  | succ i=>
   rw [List.getElem?_cons_succ] at e
   obtain ⟨T0,os,T',C',h,r⟩:=ih e
   exact ⟨T0,os,T',C',by rw [show ∀ m,m+1+i=m+(i+1) from fun m=>by omega] at h;exact h,r⟩
structure Whole (w0 w1 w2:Str) (p:Pap) (r:Nat) (T:List Ti) (C:List Cla) (mo tm:Ti):Prop where
 W:Wds w0 w1 w2
 lv:Lvs w0 w1 w2 0 [] [] (p.lw []) r T C
 few:r≤14
 ok:PapV w0 w1 w2 p
 deep:p.deep≤12
 tlen:T.length+C.length≤32 * r
 root:∀ t x y,p=.split t x y→∃ i:Nat,2000≤i∧t.x=pk i∧SrcD w0 w1 w2 t.y∧∃ jG ts L,x.lw [t]=([t]++jG,ts) :: L∧∀ a∈jG,a.x≠pk i
 mx:mo.x=.tup [.str "own",.int 0]
 my:SrcD w0 w1 w2 mo.y
 mc:mo.c.natAbs≤10 ^ 16
 tx:tm.x=mo.y
 ty:tm.y=mo.x
 tc:tm.c.natAbs≤10 ^ 16
section
variable {w0 w1 w2:Str} {p:Pap} {r:Nat} {T:List Ti} {C:List Cla} {mo tm:Ti}
theorem Whole.acc (h:Whole w0 w1 w2 p r T C mo tm):Acc w0 w1 w2 r T C:=h.lv.acc (by have:=h.few;omega) (Acc.zero _ _ _)
theorem jbo (n:Int):Far (.tup [.str "own",.int n]):=fun m e=>by rw [Jx] at e;cases e
theorem Whole.mofar (h:Whole w0 w1 w2 p r T C mo tm):Far mo.x∧Far mo.y:=⟨by rw [h.mx];exact jbo 0,jbn h.my⟩
theorem Whole.mov (h:Whole w0 w1 w2 p r T C mo tm):VT w0 w1 w2 mo:=⟨by rw [h.mx];exact .own 0 (by decide),.src h.my,Nat.lt_of_le_of_lt h.mc (by decide)⟩
theorem Whole.tmv (h:Whole w0 w1 w2 p r T C mo tm):VT w0 w1 w2 tm:=⟨by rw [h.tx];exact .src h.my,by rw [h.ty,h.mx];exact .own 0 (by decide),Nat.lt_of_le_of_lt h.tc (by decide)⟩
theorem Whole.nofar (h:Whole w0 w1 w2 p r T C mo tm) {t:Ti} (hb:InB T C t) (fx:Far t.x) (fy:Far t.y):False:=by
 obtain ⟨m,hm,o⟩:=h.acc.own t hb
 obtain ⟨j,hj,e | e⟩:=o.o
 ·exact yj fx (by omega) (by have:=h.few;omega) e
 ·exact yj fy (by omega) (by have:=h.few;omega) e
abbrev TB (T:List Ti) (mo:Ti):List Ti:=T++[mo]
abbrev CB (C:List Cla) (mo tm:Ti):List Cla:=C++[([mo],tm)]
theorem zo {t:Ti}:InB (TB T mo) (CB C mo tm) t↔InB T C t∨t=mo∨t=tm:=by
 rw [JA]
 refine or_congr Iff.rfl ⟨?_,?_⟩
 ·rintro (h | ⟨c,hc,e⟩)
  ·exact .inl (List.mem_singleton.mp h)
  ·rw [List.mem_singleton.mp hc] at e;exact .inr e.symm
 ·rintro (h | h)
  ·exact .inl (List.mem_singleton.mpr h)
  ·exact .inr ⟨_,List.mem_singleton.mpr rfl,h.symm⟩
theorem jd4 {T:List Ti} {C:List Cla} {t:Ti} (h:t∈T):InB T C t:=.inl h
theorem Whole.noway (h:Whole w0 w1 w2 p r T C mo tm) {t:Ti} (f:FarT t):¬ InB (TB T mo) (CB C mo tm) t:=fun z=>by
 obtain ⟨fx,fy,i,i0,i1,e⟩:=f
 have ns:∀ d,SrcD w0 w1 w2 d→d≠pk i:=fun d hd z=>by
  rcases Jw hd with y | y
  ·rw [z,qU] at y;cases y
  ·rw [z,qU] at y;injection y with y;omega
 have no:(D.tup [.str "own",.int 0])≠pk i:=fun z=>by have:=Jx 0;rw [z,qU] at this;cases this
 rcases zo.mp z with z | z | z
 ·exact h.nofar z fx fy
 ·rcases e with e | e
  ·rw [z,h.mx] at e;exact no e
  ·rw [z] at e;exact ns _ h.my e
 ·rcases e with e | e
  ·rw [z,h.tx] at e;exact ns _ h.my e
  ·rw [z,h.ty,h.mx] at e;exact no e
theorem Whole.holds (h:Whole w0 w1 w2 p r T C mo tm):YE (TB T mo) (CB C mo tm) [] p:=fun e he=>by
 obtain ⟨i,hi⟩:=List.getElem?_of_mem he
 obtain ⟨w,ts⟩:=e
 obtain ⟨T0,os,T',C',L,hw,hT,hC⟩:=h.lv.leaf hi
 refine ⟨L.closes,L.neg,fun t ht=>?_⟩
 have hos:t∈os→jd5 (TB T mo) (CB C mo tm) w t:=fun z=>by
  rcases L.got t z with y | ⟨c,hc,y⟩
  ·exact .inl (.inl (List.mem_append_left _ (hT t (List.mem_append_right _ y))))
  ·refine .inr ⟨c,List.mem_append_left _ (hC c hc),y,fun g hg=>?_⟩
   rcases (L.csub c hc).2.1 g hg with x | x
   ·exact .inr x
   ·exact .inl (List.mem_append_left _ (hT g x))
 rcases L.shape with ⟨e,_⟩ | ⟨a,ha,e,_⟩
 ·exact hos (by rw [← e];exact ht)
 ·rw [e] at ht
  rcases List.mem_cons.mp ht with z | z
  ·rw [z];exact .inl (.inr ha)
  ·exact hos z
structure VW (w0 w1 w2:Str) (t:Ti):Prop where
 x:NdD w0 w1 w2 t.x
 y:NdD w0 w1 w2 t.y
 c:t.c.natAbs < 10 ^ 38
theorem VT.vw {t:Ti} (h:VT w0 w1 w2 t):VW w0 w1 w2 t:=⟨h.x,h.y,Nat.lt_trans h.c (by decide)⟩
theorem VW.ok (W:Wds w0 w1 w2) {t:Ti} (h:VW w0 w1 w2 t):TiOk t:=by
 obtain ⟨a1,a2⟩:=ja7 W h.x
 obtain ⟨b1,b2⟩:=ja7 W h.y
 have c:=h.c
 have e:=((⟨h.x,h.y,by show (0:Int).natAbs < 10 ^ 36;decide⟩:VT w0 w1 w2 ⟨t.x,t.y,0⟩)).ok W
 refine ⟨?_,e.dep,e.big⟩
 unfold Ti.toD
 simp only [OkD,OkDL]
 exact ⟨a1,b1,Nat.lt_trans c (by decide),trivial⟩
structure Bad (w0 w1 w2:Str) (p:Pap) (T:List Ti) (C:List Cla):Prop where
 ok:ye p
 deep:p.deep≤12
 tv:∀ t∈T,VW w0 w1 w2 t
 cv:∀ c∈C,∀ t∈c.2 :: c.1,VW w0 w1 w2 t
 cl:∀ c∈C,c.1.length≤3
 tnd:T.Nodup
 cnd:C.Nodup
 tz:T.length≤900
 cz:C.length≤900
 no:¬ YE T C [] p
theorem qV (h:Whole w0 w1 w2 p r T C mo tm) {t:Ti} (z:InB (TB T mo) (CB C mo tm) t):VT w0 w1 w2 t:=by
 rcases zo.mp z with z | z | z
 ·obtain ⟨m,_,o⟩:=h.acc.own t z;exact o.v
 ·rw [z];exact h.mov
 ·rw [z];exact h.tmv
theorem Whole.cb (h:Whole w0 w1 w2 p r T C mo tm) {c:Cla} (hc:c∈CB C mo tm):(∀ t∈c.2 :: c.1,VW w0 w1 w2 t)∧c.1.length≤3:=by
 have hg:c.1.length≤3∧∀ g∈c.1,VT w0 w1 w2 g:=by
  rcases List.mem_append.mp hc with z | z
  ·exact h.acc.gd c z
  ·rw [List.mem_singleton.mp z]
   exact ⟨by show 1≤3;decide,fun g hg=>by rw [List.mem_singleton.mp hg];exact h.mov⟩
 refine ⟨fun t ht=>?_,hg.1⟩
 rcases List.mem_cons.mp ht with z | z
 ·rw [z];exact (qV h (.inr ⟨c,hc,rfl⟩)).vw
 ·exact (hg.2 t z).vw
theorem Whole.tbnd (h:Whole w0 w1 w2 p r T C mo tm):(TB T mo).Nodup:=j5 h.acc.tnd fun z=>h.nofar (.inl z) h.mofar.1 h.mofar.2
theorem Whole.cbnd (h:Whole w0 w1 w2 p r T C mo tm):(CB C mo tm).Nodup:=j5 (kB h.acc.cnd) fun z=>h.nofar (t:=tm) (.inr ⟨_,z,rfl⟩) (by rw [h.tx];exact h.mofar.2) (by rw [h.ty];exact h.mofar.1)
theorem Whole.len (h:Whole w0 w1 w2 p r T C mo tm):(TB T mo).length≤500∧(CB C mo tm).length≤500:=by
 have:=h.tlen
 have:=h.few
 rw [List.length_append,List.length_append]
 simp only [List.length_cons,List.length_nil]
 omega
structure At (w0 w1 w2:Str) (p:Pap) (T:List Ti) (C:List Cla) (mo tm:Ti) (i:Nat) (w ts os:List Ti):Prop where
 at_:(p.lw [])[i]?=some (w,ts)
 leaf:∃ n T0 T' C',n≤30∧LeafR w0 w1 w2 n w T0 ts os T' C'
 hw:∀ a∈w,VT w0 w1 w2 a∧FarT a
 inb:∀ t∈os,InB T C t
 shape:ts=os∨∃ a∈w,ts=a :: os
 lt:i < p.leaves.length
theorem Whole.at (h:Whole w0 w1 w2 p r T C mo tm) {i:Nat} (hi:i < p.leaves.length):∃ w ts os,p.leaves[i]?=some ts∧At w0 w1 w2 p T C mo tm i w ts os:=by
 have hi':i < (p.lw []).length:=by rw [Pap.lw_len];exact hi
 obtain ⟨⟨w,ts⟩,hx⟩:∃ e,(p.lw [])[i]=e:=⟨_,rfl⟩
 have e:(p.lw [])[i]?=some (w,ts):=by rw [List.getElem?_eq_getElem hi',hx]
 obtain ⟨T0,os,T',C',L,hw,hT,hC⟩:=h.lv.leaf e
 have hr:=h.lv.num
 have hf:=h.few
 refine ⟨w,ts,os,?_,e,⟨_,T0,T',C',by omega,L⟩,hw,fun t ht=>?_,?_,hi⟩
 ·rw [← Pap.lw_leaves p [],List.getElem?_map,e];rfl
 ·rcases L.got t ht with z | ⟨c,hc,z⟩
  ·exact .inl (hT t (List.mem_append_right _ z))
  ·exact .inr ⟨c,hC c hc,z⟩
 ·rcases L.shape with ⟨e,_⟩ | ⟨a,ha,e,_⟩
  ·exact .inl e
  ·exact .inr ⟨a,ha,e⟩
section
variable {i:Nat} {w ts os:List Ti}
theorem At.sub (A:At w0 w1 w2 p T C mo tm i w ts os) {t:Ti} (h:t∈os):t∈ts:=by
 rcases A.shape with e | ⟨a,_,e⟩
 ·rw [e];exact h
 ·rw [e];exact List.mem_cons_of_mem _ h
theorem At.now (A:At w0 w1 w2 p T C mo tm i w ts os) {t u:Ti} (h:t∈os) (ex:u.x=t.x) (ey:u.y=t.y):u ∉ w:=fun z=>by
 obtain ⟨n,T0,T',C',hn,L⟩:=A.leaf
 obtain ⟨j,hj,e⟩:=(L.own t h).o
 exact ja4 hn (t:=u) ⟨j,hj,by rw [ex,ey];exact e⟩ (A.hw u z).2
theorem At.nd (A:At w0 w1 w2 p T C mo tm i w ts os):ts.Nodup:=by
 obtain ⟨n,T0,T',C',hn,L⟩:=A.leaf
 have:=kB L.nd
 rcases A.shape with e | ⟨a,ha,e⟩
 ·rw [e];exact this
 ·rw [e];exact List.nodup_cons.mpr ⟨fun z=>A.now z rfl rfl ha,this⟩
theorem At.vt (A:At w0 w1 w2 p T C mo tm i w ts os) {t:Ti} (h:t∈ts):VT w0 w1 w2 t:=by
 obtain ⟨n,T0,T',C',hn,L⟩:=A.leaf
 exact L.vt (fun a ha=>(A.hw a ha).1) t h
theorem At.len (A:At w0 w1 w2 p T C mo tm i w ts os):ts.length≤32:=by
 obtain ⟨n,T0,T',C',hn,L⟩:=A.leaf
 exact L.len
theorem At.mem (A:At w0 w1 w2 p T C mo tm i w ts os):(w,ts)∈p.lw []:=List.mem_of_getElem? A.at_
theorem Whole.own (h:Whole w0 w1 w2 p r T C mo tm) (A:At w0 w1 w2 p T C mo tm i w ts os) {t:Ti} (ht:t∈ts):t∈os↔InB (TB T mo) (CB C mo tm) t:=by
 constructor
 ·intro z;exact zo.mpr (.inl (A.inb t z))
 ·intro z
  rcases A.shape with e | ⟨a,ha,e⟩
  ·rw [← e];exact ht
  ·rw [e] at ht
   rcases List.mem_cons.mp ht with y | y
   ·rw [y] at z;exact absurd z (h.noway (A.hw a ha).2)
   ·exact y
def repl (last fresh:Ti) (ts:List Ti):List Ti:=ts.map fun t=>if t.toD=last.toD then fresh else t
theorem YU {last fresh:Ti}:∀ {ts:List Ti},ts.Nodup→last∈ts→((repl last fresh ts).map Ti.c).sum=(ts.map Ti.c).sum+(fresh.c - last.c)
 | [],_,h=>by cases h
 | t :: ts,nd,h=>by
  obtain ⟨n1,n2⟩:=List.nodup_cons.mp nd
  have ih:=@YU last fresh ts n2
  unfold repl at ih ⊢
  rw [List.map_cons,List.map_cons,List.sum_cons,List.map_cons,List.sum_cons]
  by_cases e:t=last
  ·have same:(ts.map fun t=>if t.toD=last.toD then fresh else t)=ts:=by
    conv=>rhs;rw [← List.map_id ts]
    refine List.map_congr_left fun u hu=>?_
    rw [if_neg (fun z=>n1 (by rw [e,← Ti.toD_inj z];exact hu))];rfl
   rw [same,e,if_pos rfl];omega
  ·rw [if_neg (fun z=>e (Ti.toD_inj z)),ih ((List.mem_cons.mp h).resolve_left fun z=>e z.symm)];omega
theorem jcZ {last fresh t:Ti} {ts:List Ti} (h:t∈repl last fresh ts):t=fresh∨t∈ts:=by
 obtain ⟨u,hu,e⟩:=List.mem_map.mp h
 by_cases z:u.toD=last.toD
 ·rw [if_pos z] at e;exact .inl e.symm
 ·rw [if_neg z] at e;exact .inr (by rw [← e];exact hu)
theorem jc0 {last fresh:Ti} {ts:List Ti} (h:last∈ts):fresh∈repl last fresh ts:=List.mem_map.mpr ⟨last,h,if_pos rfl⟩
theorem Y6 {last fresh:Ti} {ts:List Ti}:(repl last fresh ts).length=ts.length:=List.length_map _
theorem ja0 {last fresh:Ti} (A:At w0 w1 w2 p T C mo tm i w ts os) (W:Wds w0 w1 w2) (hf:VW w0 w1 w2 fresh):∀ t∈repl last fresh ts,TiOk t:=fun t ht=>by
 rcases jcZ ht with z | z
 ·rw [z];exact hf.ok W
 ·exact (A.vt z).ok W
theorem jhk (h:Whole w0 w1 w2 p r T C mo tm) (A:At w0 w1 w2 p T C mo tm i w ts os) {last fresh:Ti} (hl:last∈os) (hf:fresh=⟨last.x,last.y,last.c - (ts.map Ti.c).sum⟩):Bad w0 w1 w2 (p.change i (repl last fresh ts)) (TB T mo++[fresh]) (CB C mo tm):=by
 obtain ⟨n,T0,T',C',hn,L⟩:=A.leaf
 have vl:=A.vt (A.sub hl)
 have hs:(ts.map Ti.c).sum.natAbs≤32 * 10 ^ 36:=by
  refine Nat.le_trans (jaP (B:=10 ^ 36) fun t ht=>Nat.le_of_lt (A.vt ht).c) ?_
  exact Nat.mul_le_mul_right _ A.len
 have vf:VW w0 w1 w2 fresh:=by
  rw [hf]
  refine ⟨vl.x,vl.y,?_⟩
  show (last.c - (ts.map Ti.c).sum).natAbs < 10 ^ 38
  have:=vl.c
  omega
 have neg:=L.neg
 have fx:fresh.x=last.x:=by rw [hf]
 have fy:fresh.y=last.y:=by rw [hf]
 have fc:fresh.c=last.c - (ts.map Ti.c).sum:=by rw [hf]
 have hlen:=h.len
 refine ⟨Pap.change_ok p i _ (h.ok.ok h.W) (by rw [Y6];have:=A.len;omega) (ja0 A h.W vf),by rw [Pap.change_deep];exact h.deep,fun t ht=>?_,fun c hc=>(h.cb hc).1,fun c hc=>(h.cb hc).2,j5 h.tbnd fun z=>?_,h.cbnd,by rw [List.length_append];simp only [List.length_cons,List.length_nil];omega,by omega,fun z=>?_⟩
 ·rcases List.mem_append.mp ht with y | y
  ·exact (qV h (.inl y)).vw
  ·rw [List.mem_singleton.mp y];exact vf
 ·rcases zo.mp (jd4 (C:=CB C mo tm) z) with y | y | y
  ·have:=h.acc.uniq fresh last y (A.inb _ hl) fx fy
   rw [this] at fc;omega
  ·exact h.nofar (A.inb _ hl) (by rw [← fx,y];exact h.mofar.1) (by rw [← fy,y];exact h.mofar.2)
  ·exact h.nofar (A.inb _ hl) (by rw [← fx,y,h.tx];exact h.mofar.2) (by rw [← fy,y,h.ty];exact h.mofar.1)
 ·have:=(z _ (Pap.change_lw p [] i (repl last fresh ts) w ts A.at_)).2.1
  rw [YU A.nd (A.sub hl),fc] at this
  omega
theorem je2 (h:Whole w0 w1 w2 p r T C mo tm) (A:At w0 w1 w2 p T C mo tm i w ts os) {last:Ti} (hl:last∈os) {X:List Cla} (hx:∀ c∈X,(∀ t∈c.2 :: c.1,VW w0 w1 w2 t)∧c.1.length≤3) (hz:X.length≤2) (hnd:X.Nodup) (hd:∀ c∈X,¬ (c∈CB C mo tm∧c.2≠last)) (hg:∀ c∈X,c.2=last→∃ g∈c.1,g ∉ TB T mo∧g ∉ w):Bad w0 w1 w2 p ((TB T mo).filter fun t=>!decide (t.toD=last.toD)) (((CB C mo tm).filter fun c=>!decide (c.2.toD=last.toD))++X):=by
 have hlen:=h.len
 have hT:∀ t,t∈((TB T mo).filter fun t=>!decide (t.toD=last.toD))→t∈TB T mo∧t≠last:=fun t ht=>by
  obtain ⟨h1,h2⟩:=List.mem_filter.mp ht
  exact ⟨h1,fun z=>by rw [z,decide_eq_true rfl] at h2;cases h2⟩
 have hC:∀ c,c∈((CB C mo tm).filter fun c=>!decide (c.2.toD=last.toD))→c∈CB C mo tm∧c.2≠last:=fun c hc=>by
  obtain ⟨h1,h2⟩:=List.mem_filter.mp hc
  exact ⟨h1,fun z=>by rw [z,decide_eq_true rfl] at h2;cases h2⟩
 refine ⟨h.ok.ok h.W,h.deep,fun t ht=>(qV h (.inl (hT t ht).1)).vw,fun c hc=>?_,fun c hc=>?_,h.tbnd.filter _,Jc (h.cbnd.filter _) hnd fun c h1 h2=>hd c h2 (hC c h1),?_,?_,fun z=>?_⟩
 ·rcases List.mem_append.mp hc with y | y
  ·exact (h.cb (hC c y).1).1
  ·exact (hx c y).1
 ·rcases List.mem_append.mp hc with y | y
  ·exact (h.cb (hC c y).1).2
  ·exact (hx c y).2
 ·exact Nat.le_trans (List.length_filter_le _ _) (by omega)
 ·rw [List.length_append]
  have:((CB C mo tm).filter fun c=>!decide (c.2.toD=last.toD)).length≤(CB C mo tm).length:=List.length_filter_le _ _
  omega
 ·rcases (z _ A.mem).2.2 last (A.sub hl) with (y | y) | ⟨c,hc,e,y⟩
  ·exact (hT _ y).2 rfl
  ·exact A.now hl rfl rfl y
  ·rcases List.mem_append.mp hc with x | x
   ·exact (hC c x).2 e
   ·obtain ⟨g,hgc,n1,n2⟩:=hg c x e
    rcases y g hgc with v | v
    ·exact n1 (hT g v).1
    ·exact n2 v
theorem jhg (h:Whole w0 w1 w2 p r T C mo tm) (A:At w0 w1 w2 p T C mo tm i w ts os) {last weak:Ti} (hl:last∈os) (hf:weak=⟨last.x,last.y,last.c+1⟩):Bad w0 w1 w2 (p.change i (repl last weak ts)) (TB T mo) (CB C mo tm):=by
 have vl:=A.vt (A.sub hl)
 have vf:VW w0 w1 w2 weak:=by
  rw [hf]
  refine ⟨vl.x,vl.y,?_⟩
  show (last.c+1).natAbs < 10 ^ 38
  have:=vl.c
  omega
 have fx:weak.x=last.x:=by rw [hf]
 have fy:weak.y=last.y:=by rw [hf]
 have fc:weak.c=last.c+1:=by rw [hf]
 have hlen:=h.len
 have nb:¬ InB (TB T mo) (CB C mo tm) weak:=fun z=>by
  rcases zo.mp z with y | y | y
  ·have:=h.acc.uniq weak last y (A.inb _ hl) fx fy
   rw [this] at fc;omega
  ·exact h.nofar (A.inb _ hl) (by rw [← fx,y];exact h.mofar.1) (by rw [← fy,y];exact h.mofar.2)
  ·exact h.nofar (A.inb _ hl) (by rw [← fx,y,h.tx];exact h.mofar.2) (by rw [← fy,y,h.ty];exact h.mofar.1)
 refine ⟨Pap.change_ok p i _ (h.ok.ok h.W) (by rw [Y6];have:=A.len;omega) (ja0 A h.W vf),by rw [Pap.change_deep];exact h.deep,fun t ht=>(qV h (.inl ht)).vw,fun c hc=>(h.cb hc).1,fun c hc=>(h.cb hc).2,h.tbnd,h.cbnd,by omega,by omega,fun z=>?_⟩
 rcases (z _ (Pap.change_lw p [] i (repl last weak ts) w ts A.at_)).2.2 weak (jc0 (A.sub hl)) with (y | y) | ⟨c,hc,e,y⟩
 ·exact nb (.inl y)
 ·exact A.now hl fx fy y
 ·exact nb (.inr ⟨c,hc,e⟩)
theorem YB (h:Whole w0 w1 w2 p r T C mo tm) {p':Pap} (ok:ye p') (dp:p'.deep≤12) (no:¬ YE (TB T mo) (CB C mo tm) [] p'):Bad w0 w1 w2 p' (TB T mo) (CB C mo tm):=
 ⟨ok,dp,fun t ht=>(qV h (.inl ht)).vw,fun c hc=>(h.cb hc).1,fun c hc=>(h.cb hc).2,h.tbnd,h.cbnd,Nat.le_trans h.len.1 (by decide),Nat.le_trans h.len.2 (by decide),no⟩
theorem jhj (h:Whole w0 w1 w2 p r T C mo tm) (A:At w0 w1 w2 p T C mo tm i w ts os) {t0 t1:Ti} {q:List Ti} (e:ts=t0 :: t1 :: q) (ne:q≠[]):Bad w0 w1 w2 (p.change i (t1 :: t0 :: q)) (TB T mo) (CB C mo tm):=by
 obtain ⟨n,T0,T',C',hn,L⟩:=A.leaf
 have hm:∀ t,t∈t1 :: t0 :: q→t∈ts:=fun t ht=>by
  rw [e]
  rcases List.mem_cons.mp ht with z | z
  ·rw [z];exact List.mem_cons_of_mem _ List.mem_cons_self
  ·rcases List.mem_cons.mp z with y | y
   ·rw [y];exact List.mem_cons_self
   ·exact List.mem_cons_of_mem _ (List.mem_cons_of_mem _ y)
 refine YB h (Pap.change_ok p i _ (h.ok.ok h.W) (by have:=A.len;rw [e] at this;simp only [List.length_cons] at this ⊢;omega) fun t ht=>(A.vt (hm t ht)).ok h.W) (by rw [Pap.change_deep];exact h.deep) fun z=>?_
 have cl:=(z _ (Pap.change_lw p [] i (t1 :: t0 :: q) w ts A.at_)).1
 unfold ql at cl
 rw [Bool.and_eq_true] at cl
 have cl:=of_decide_eq_true cl.2
 simp only [List.map_cons,List.drop_succ_cons,List.drop_zero,List.cons_append] at cl
 injection cl with c1 _
 exact L.swap t0 t1 q e ne c1
theorem jhh (h:Whole w0 w1 w2 p r T C mo tm) (A:At w0 w1 w2 p T C mo tm i w ts os):Bad w0 w1 w2 (p.change i []) (TB T mo) (CB C mo tm):=by
 refine YB h (Pap.change_ok p i _ (h.ok.ok h.W) (Nat.zero_le _) fun t ht=>by cases ht) (by rw [Pap.change_deep];exact h.deep) fun z=>?_
 have cl:=(z _ (Pap.change_lw p [] i [] w ts A.at_)).1
 cases cl
theorem jhi {t:Ti} {x y:Pap} (h:Whole w0 w1 w2 (.split t x y) r T C mo tm):Bad w0 w1 w2 (.split t y x) (TB T mo) (CB C mo tm):=by
 obtain ⟨v1,v2,v3,v4⟩:=h.ok
 refine YB h ((show PapV w0 w1 w2 (.split t y x) from ⟨v1,v2,v4,v3⟩).ok h.W) (by have:=h.deep;show max y.deep x.deep+1≤12;have:max x.deep y.deep+1≤12:=this;omega) fun z=>?_
 obtain ⟨i,i0,tx,ty,jG,ts,L,e,hr⟩:=h.root t x y rfl
 have e0:(Pap.lw [] (.split t x y))[0]?=some ([t]++jG,ts):=by
  show (x.lw [t]++_)[0]?=_
  rw [e];rfl
 obtain ⟨T0,os,T',C',LF,hw,_⟩:=h.lv.leaf e0
 obtain ⟨a,ha,ea,hd⟩:∃ a∈[t]++jG,ts=a :: os∧([t]++jG).head?=some a:=by
  rcases LF.shape with ⟨_,h0⟩ | ⟨a,ha,e,h0⟩
  ·cases h0 rfl
  ·exact ⟨a,ha,e,h0 rfl⟩
 have hat:t=a:=by injection hd
 subst hat
 have nw:=h.noway (hw t ha).2
 have hx:([t.turn]++jG,ts)∈Pap.lw [] (.split t y x):=by
  refine List.mem_append_right _ ?_
  show _∈x.lw ([]++[t.turn])
  have e1:=x.lw_shift [t] []
  rw [List.append_nil,e] at e1
  cases hl:x.lw [] with
  | nil=>rw [hl] at e1;cases e1
  | cons u us=>
   rw [hl,List.map_cons] at e1
   injection e1 with e1 _
   have e2:=x.lw_shift [t.turn] []
   rw [List.append_nil,hl,List.map_cons] at e2
   rw [List.nil_append,e2]
   obtain ⟨u1,u2⟩:=u
   simp only [Prod.mk.injEq] at e1
   have:jG=u1:=List.append_cancel_left e1.1
   rw [this,e1.2]
   exact List.mem_cons_self
 rcases (z _ hx).2.2 t (by rw [ea];exact List.mem_cons_self) with (y | y) | ⟨c,hc,e,y⟩
 ·exact nw (.inl y)
 ·rcases List.mem_append.mp y with y | y
  ·have:=List.mem_singleton.mp y
   have:t.x=t.y:=congrArg Ti.x this
   rw [tx] at this
   rcases Jw ty with v | v
   ·rw [← this,qU] at v;cases v
   ·rw [← this,qU] at v;injection v with v;omega
  ·exact hr t y tx
 ·exact nw (.inr ⟨c,hc,e⟩)
def zy:Ti:=⟨.tup [.str "own",.int 1],.tup [.str "pick",.int 9999],0⟩
theorem jcK:VW w0 w1 w2 zy:=⟨.own 1 (by decide),.pick 9999 (by decide),by show (0:Int).natAbs < 10 ^ 38;decide⟩
theorem jaQ:zy.y=pk 9999:=rfl
theorem jcN {d:D} (h:SrcD w0 w1 w2 d) {n:Nat} (hn:4≤n):d≠pk n:=fun z=>by
 rcases Jw h with y | y
 ·rw [z,qU] at y;cases y
 ·rw [z,qU] at y;injection y with y;omega
theorem Z9 (m:Int) (n:Nat):(D.tup [.str "own",.int m])≠pk n:=fun z=>by have:=Jx m;rw [z,qU] at this;cases this
theorem jfU (h:Whole w0 w1 w2 p r T C mo tm) (A:At w0 w1 w2 p T C mo tm i w ts os):(¬ InB (TB T mo) (CB C mo tm) zy)∧zy ∉ w:=by
 refine ⟨fun z=>?_,fun z=>?_⟩
 ·rcases zo.mp z with y | y | y
  ·exact h.nofar y (jbo 1) (by rw [jaQ];exact jdL (by decide))
  ·have e:=congrArg Ti.y y;rw [jaQ] at e;exact jcN h.my (by decide) e.symm
  ·have e:=congrArg Ti.y y;rw [jaQ,h.ty,h.mx] at e;exact Z9 _ _ e.symm
 ·obtain ⟨_,_,j,j0,j1,e | e⟩:=(A.hw _ z).2
  ·exact Z9 _ _ e
  ·rw [jaQ] at e;have:=Yg e;omega
theorem jeM (h:Whole w0 w1 w2 p r T C mo tm) (A:At w0 w1 w2 p T C mo tm i w ts os) {u:Ti} (hu:u=⟨mo.x,mo.y,mo.c+1⟩):u ∉ TB T mo∧u ∉ w:=by
 refine ⟨fun z=>?_,fun z=>?_⟩
 ·rcases List.mem_append.mp z with y | y
  ·exact h.nofar (.inl y) (by rw [hu];exact h.mofar.1) (by rw [hu];exact h.mofar.2)
  ·have e:=List.mem_singleton.mp y
   have e:=congrArg Ti.c e
   rw [hu] at e
   have e:mo.c+1=mo.c:=e
   omega
 ·obtain ⟨_,_,j,j0,j1,e | e⟩:=(A.hw _ z).2
  ·rw [hu] at e
   have e:mo.x=pk j:=e
   rw [h.mx] at e;exact Z9 _ _ e
  ·rw [hu] at e
   exact jcN h.my (by omega) (show mo.y=pk j from e)
theorem jef (h:Whole w0 w1 w2 p r T C mo tm) {u:Ti} (hu:u=⟨mo.x,mo.y,mo.c+1⟩):VW w0 w1 w2 u:=by
 rw [hu]
 refine ⟨h.mov.x,h.mov.y,?_⟩
 show (mo.c+1).natAbs < 10 ^ 38
 have:=h.mc
 omega
end
end
end LW
namespace L2
open PySem PySem.Spec PyProof.Rows
theorem jdi {X:Cx} {scope:Scope} {elt tg iter:Expr} {ifs:List Expr} {pos:Pos} {wi:TI} {g:TG} {tt:TT} {te:TE} (own:List Str) (fr:List Nat) (hx:∀ e s',X.xe e s'↔False) (hc:X.calm=true) (O:CompOk X scope fr) (hi:PI X tg iter wi)
  (hb:∀ s H ex,PG (blk X scope own fr s H ex) tg g∧PTs (blk X scope own fr s H ex) ifs tt∧PE (blk X scope own fr s H ex) elt te)
  (hs:∀ x,foldedSetIterable iter X.env x=pure x:=by intro _;rfl):PE X (.ListComp elt [⟨tg,iter,ifs,0⟩] scope pos) (Jj own fr wi g tt te):=by
 intro pins s σ H Q I h
 rw [eval_ListComp]
 refine ZK (X:=X) (use:=none) (Q:=Q) hc O hi hb hs I h hx fun p C H' s' m hm hC _ _ I' back q=>?_
 exact ⟨m,hm,fun h' hs'=>⟨.ref p,H',back h' hs',rfl,q⟩⟩
theorem jbI {X:Cx} {scope:Scope} {elt tg iter:Expr} {ifs:List Expr} {pos:Pos} {wi:TI} {g:TG} {tt:TT} {te:TE} (own:List Str) (fr:List Nat) (h0:∀ e s',X.xe e s'↔False) (h1:Cx.calm X=true) (h2:CompOk X scope fr) (h3:QI X tg iter wi) (h4:∀ (s:PySem.Shared) (H:Hp) (ex:List PySem.Addr),QG (blk X scope own fr s H ex) tg g∧QTs (blk X scope own fr s H ex) ifs tt∧QE (blk X scope own fr s H ex) elt te) (h5:∀ (x:Value),foldedSetIterable iter (Cx.env X) x=pure x:=by intro _;rfl):QE X (Expr.ListComp elt [{ target:=tg,iter:=iter,ifs:=ifs,is_async:=0 }] scope pos) (Jj own fr wi g tt te):=
 ⟨jdi own fr h0 h1 h2 h3.h (fun s H ex=>⟨(h4 s H ex).1.h,(h4 s H ex).2.1.h,(h4 s H ex).2.2.h⟩) h5⟩
theorem jbF {X:Cx} {tg l:Expr} {tl:TE} {K:W.Frag} (h1:QE X l tl) (h:X.K=K:=by rfl):QI X tg l (jdA K tl):=by subst h;exact jK h1
end L2
namespace LW
open PySem L2
theorem Jf {K:W.Frag} {H:Hp} {l p:Addr} {xs:List V} {ds:List D} {tt:TT} {σr:St} {Q:VK} {gg:TG} (f:D→Bool) (hgg:gg=j4 0) (hp:H p=none) (hl:H l=some (.lst xs)) (hL:HeldL H ds xs) (hz:ds.length≤900)
  (ht:∀ (d:D) (v:V) (G:Hp),Same H G→Held G d v→d∈ds→∀ R:Bool→Hp→Prop,(∀ G',Same G G'→R (f d) G')→tt (some v :: σr) G R)
  (q:∀ (G:Hp) (ys:List V),Same H G→G p=some (.lst ys)→HeldL G (ds.filter f) ys→Q (.ref p) G):qj (Itl K l) p gg tt (ya 0) Q (none :: σr) (upd H p (.lst [])):=by
 subst hgg
 have hlen:=hL.length
 refine zc (xs:=xs) (fun i σ' G'=>∃ u3,σ'=u3 :: σr∧Same H G'∧∃ ys,G' p=some (.lst ys)∧HeldL G' ((ds.take i).filter f) ys) ⟨none,rfl,je hp _,_,jd,ji⟩ ?_ ?_ ?_
 ·rintro i σ' G' _ ⟨u3,rfl,sG',_⟩
  exact SqL.of (sG' _ _ hl)
 ·rintro i x σ' G' hx ⟨u3,rfl,sG',ys,hy,hY⟩
  have hi:i < ds.length:=by have:=(List.getElem?_eq_some_iff.mp hx).1;omega
  obtain ⟨v,e1,e2⟩:=hL.get (j:=i) (d:=ds[i]) (List.getElem?_eq_getElem hi)
  rw [hx] at e1
  cases e1
  have hyl:=hY.length
  have hfl:((ds.take i).filter f).length≤i:=Nat.le_trans (List.length_filter_le _ _) (by rw [List.length_take];omega)
  unfold j4
  show tt (some x :: σr) G' _
  have ets:(ds.take (i+1)).filter f=(ds.take i).filter f++if f ds[i]=true then [ds[i]] else []:=by
   rw [List.take_succ,List.getElem?_eq_getElem hi,List.filter_append]
   congr 1
   show [ds[i]].filter f=_
   rw [List.filter_cons]
   rfl
  refine ht ds[i] x G' sG' (e2.mono sG') (List.getElem_mem hi) _ fun G2 s2=>?_
  refine j6 (fun c=>?_) (fun c=>?_)
  ·refine ⟨x,rfl,ys,s2 _ _ hy,jx (by omega),some x,rfl,?_,_,jd,?_⟩
   ·intro b o e
    rw [jm (js e hp)]
    exact s2 _ _ (sG' _ _ e)
   ·rw [ets,if_pos c]
    have tk:TK G2 (upd G2 p (.lst (ys++[x]))):=TK.upd (s2 _ _ hy) (fun xs z=>by cases z)
    exact jJ (tk.heldL (hY.mono s2)) (jg (tk.held ((e2.mono sG').mono s2)) ji)
  ·refine ⟨some x,rfl,sG'.trans s2,ys,s2 _ _ hy,?_⟩
   rw [ets,if_neg c,List.append_nil]
   exact hY.mono s2
 ·rintro σ' G' ⟨u3,rfl,sG',ys,hy,hY⟩
  rw [← hlen,List.take_length] at hY
  exact q _ _ sG' hy hY
theorem KQ {K:W.Frag} {H:Hp} {l p:Addr} {xs:List V} {ds:List D} {te:TE} {σr:St} {Q:VK} {gg:TG} (g:D→D) (hgg:gg=j4 0) (hp:H p=none) (hl:H l=some (.lst xs)) (hL:HeldL H ds xs) (hz:ds.length≤900)
  (ht:∀ (d:D) (v:V) (G:Hp),Same H G→Held G d v→d∈ds→∀ R:VK,(∀ y,Held G (g d) y→R y G)→te (some v :: σr) G R)
  (q:∀ (G:Hp) (ys:List V),Same H G→G p=some (.lst ys)→HeldL G (ds.map g) ys→Q (.ref p) G):qj (Itl K l) p gg yx te Q (none :: σr) (upd H p (.lst [])):=by
 subst hgg
 have hlen:=hL.length
 refine zc (xs:=xs) (fun i σ' G'=>∃ u3,σ'=u3 :: σr∧Same H G'∧∃ ys,G' p=some (.lst ys)∧HeldL G' ((ds.take i).map g) ys) ⟨none,rfl,je hp _,_,jd,ji⟩ ?_ ?_ ?_
 ·rintro i σ' G' _ ⟨u3,rfl,sG',_⟩
  exact SqL.of (sG' _ _ hl)
 ·rintro i x σ' G' hx ⟨u3,rfl,sG',ys,hy,hY⟩
  have hi:i < ds.length:=by have:=(List.getElem?_eq_some_iff.mp hx).1;omega
  obtain ⟨v,e1,e2⟩:=hL.get (j:=i) (d:=ds[i]) (List.getElem?_eq_getElem hi)
  rw [hx] at e1
  cases e1
  have hyl:=hY.length
  rw [List.length_map,List.length_take] at hyl
  unfold j4 yx
  refine zm ?_
  show te (some x :: σr) G' _
  refine ht ds[i] x G' sG' (e2.mono sG') (List.getElem_mem hi) _ fun y hy'=>?_
  refine ⟨ys,hy,jx (by omega),some x,rfl,?_,_,jd,?_⟩
  ·intro b o e
   rw [jm (js e hp)]
   exact sG' _ _ e
  ·rw [List.take_succ,List.getElem?_eq_getElem hi,List.map_append]
   have tk:TK G' (upd G' p (.lst (ys++[y]))):=TK.upd hy (fun xs z=>by cases z)
   exact jJ (tk.heldL hY) (jg (tk.held hy') ji)
 ·rintro σ' G' ⟨u3,rfl,sG',ys,hy,hY⟩
  rw [← hlen,List.take_length] at hY
  exact q _ _ sG' hy hY
theorem jaa {w0 w1 w2:Str} {p:Pap} {r:Nat} {T:List Ti} {C:List Cla} {mo tm:Ti} {i:Nat} {w ts os:List Ti} (h:Whole w0 w1 w2 p r T C mo tm) (A:At w0 w1 w2 p T C mo tm i w ts os):(tsD ts).filter (fun d=>decide (d∈tsD (TB T mo)) || decide (d∈(CB C mo tm).map fun c=>c.2.toD))=tsD os:=by
 unfold tsD
 rw [List.filter_map]
 congr 1
 have key:∀ t:Ti,(decide (t.toD∈tsD (TB T mo)) || decide (t.toD∈(CB C mo tm).map fun c=>c.2.toD))=true↔InB (TB T mo) (CB C mo tm) t:=fun t=>by
  rw [Bool.or_eq_true,decide_eq_true_iff,decide_eq_true_iff]
  unfold InB
  refine or_congr ⟨fun z=>?_,fun z=>List.mem_map.mpr ⟨t,z,rfl⟩⟩ ⟨fun z=>?_,fun ⟨c,hc,e⟩=>List.mem_map.mpr ⟨c,hc,by rw [e]⟩⟩
  ·obtain ⟨u,hu,e⟩:=List.mem_map.mp z
   rw [← Ti.toD_inj e];exact hu
  ·obtain ⟨c,hc,e⟩:=List.mem_map.mp z
   exact ⟨c,hc,Ti.toD_inj e⟩
 have all:os.filter ((fun d=>decide (d∈tsD (TB T mo)) || decide (d∈(CB C mo tm).map fun c=>c.2.toD)) ∘ Ti.toD)=os:=List.filter_eq_self.mpr fun t ht=>(key t).mpr ((h.own A (A.sub ht)).mp ht)
 rcases A.shape with e | ⟨a,ha,e⟩
 ·rw [e];exact all
 ·rw [e,List.filter_cons,if_neg,all]
  intro z
  exact h.noway (A.hw a ha).2 ((key a).mp z)
abbrev jhb:R2:=fun x y H Q=>∃ a b xs ys ds ds',x=.ref a∧y=.ref b∧H a=some (.tup xs)∧H b=some (.tup ys)∧D.depthL ds≤8∧HeldL H ds xs∧HeldL H ds' ys∧Q (.bl (decide (ds=ds'))) H
abbrev jgA:R2:=fun x y H Q=>∃ a b xs ys ds ds',x=.ref a∧y=.ref b∧H a=some (.tup xs)∧H b=some (.tup ys)∧D.depthL ds≤8∧HeldL H ds xs∧HeldL H ds' ys∧Q (.bl (!decide (ds=ds'))) H
theorem K6 (t u:Ti):decide ([t.x,t.y,D.int t.c]=[u.x,u.y,D.int u.c])=decide (t.toD=u.toD):=by
 unfold Ti.toD
 by_cases h:[t.x,t.y,D.int t.c]=[u.x,u.y,D.int u.c]
 ·rw [decide_eq_true h,decide_eq_true (by rw [h])]
 ·rw [decide_eq_false h,decide_eq_false (fun z=>h (by injection z))]
theorem qW {H:Hp} {t:Ti} {v:V} (h:Held H t.toD v):∃ a xs,v=.ref a∧H a=some (.tup xs)∧HeldL H [t.x,t.y,.int t.c] xs:=by
 obtain ⟨a,vx,vy,rfl,ha,h1,h2⟩:=kf h
 exact ⟨a,_,rfl,ha,jg h1 (jg h2 (jg j3 ji))⟩
theorem jae {t:Ti} (h:TiOk t):D.depthL [t.x,t.y,D.int t.c]≤8:=by
 have:=h.dep
 unfold Ti.toD at this
 simp only [D.depth,D.depthL] at this ⊢
 omega
theorem KP {K:W.Frag} {H:Hp} {l p:Addr} {xs:List V} {ts:List Ti} {last fresh:Ti} {vl vf:V} {te:TE} {Q:VK} {gg:TG} (hgg:gg=j4 0) (hte:te=tIf (YT (tOp jhb (ya 0) (ya 1))) (ya 2) (ya 0)) (hp:H p=none) (hl:H l=some (.lst xs)) (hL:HeldL H (tsD ts) xs) (hz:ts.length≤900) (hvl:Held H last.toD vl) (hvf:Held H fresh.toD vf) (ok:∀ t∈ts,TiOk t)
  (q:∀ (G:Hp) (ys:List V),Same H G→G p=some (.lst ys)→HeldL G (tsD (repl last fresh ts)) ys→Q (.ref p) G):qj (Itl K l) p gg yx te Q [none,some vl,some vf] (upd H p (.lst [])):=by
 subst hte
 refine KQ (σr:=[some vl,some vf]) (fun d=>if d=last.toD then fresh.toD else d) hgg hp hl hL (by rw [List.length_map];exact hz) (fun d v G sG hv hd R k=>?_) fun G ys sG e hY=>q G ys sG e ?_
 ·obtain ⟨t,ht,rfl⟩:=List.mem_map.mp hd
  obtain ⟨a,as,rfl,ha,h1⟩:=qW hv
  obtain ⟨b,bs,rfl,hb,h2⟩:=qW (hvl.mono sG)
  refine ⟨_,rfl,_,rfl,a,b,as,bs,_,_,rfl,rfl,ha,hb,jae (ok t ht),h1,h2,_,rfl,?_⟩
  rw [K6]
  refine j6 (fun c=>?_) (fun c=>?_)
  ·exact ⟨_,rfl,k _ (by rw [if_pos (of_decide_eq_true c)];exact hvf.mono sG)⟩
  ·exact ⟨_,rfl,k _ (by rw [if_neg (fun z=>c (decide_eq_true z))];exact hv)⟩
 ·have:tsD (repl last fresh ts)=(tsD ts).map fun d=>if d=last.toD then fresh.toD else d:=by
   unfold tsD repl
   rw [List.map_map,List.map_map]
   refine List.map_congr_left fun t _=>?_
   show (if t.toD=last.toD then fresh else t).toD=if t.toD=last.toD then fresh.toD else t.toD
   split <;> rfl
  rw [this]
  exact hY
theorem jbu {K:W.Frag} {H:Hp} {l p:Addr} {xs:List V} {ts:List Ti} {last:Ti} {vl:V} {tt:TT} {Q:VK} {gg:TG} (hgg:gg=j4 0) (hte:tt=YT (tOp jgA (ya 0) (ya 1))) (hp:H p=none) (hl:H l=some (.lst xs)) (hL:HeldL H (tsD ts) xs) (hz:ts.length≤900) (hvl:Held H last.toD vl) (ok:∀ t∈ts,TiOk t)
  (q:∀ (G:Hp) (ys:List V),Same H G→G p=some (.lst ys)→HeldL G (tsD (ts.filter fun t=>!decide (t.toD=last.toD))) ys→Q (.ref p) G):qj (Itl K l) p gg tt (ya 0) Q [none,some vl] (upd H p (.lst [])):=by
 subst hte
 refine Jf (σr:=[some vl]) (fun d=>!decide (d=last.toD)) hgg hp hl hL (by rw [List.length_map];exact hz) (fun d v G sG hv hd R k=>?_) fun G ys sG e hY=>q G ys sG e ?_
 ·obtain ⟨t,ht,rfl⟩:=List.mem_map.mp hd
  obtain ⟨a,as,rfl,ha,h1⟩:=qW hv
  obtain ⟨b,bs,rfl,hb,h2⟩:=qW (hvl.mono sG)
  refine ⟨_,rfl,_,rfl,a,b,as,bs,_,_,rfl,rfl,ha,hb,jae (ok t ht),h1,h2,_,rfl,?_⟩
  rw [K6]
  exact k G (fun _ _ e=>e)
 ·unfold tsD at hY ⊢
  rw [List.filter_map] at hY
  exact hY
def jfo:D→D
 | .tup [_,t]=>t
 | d=>d
theorem jeg (C:List Cla):(C.map clD).map jfo=C.map fun c=>c.2.toD:=by
 rw [List.map_map];rfl
theorem jbv {K:W.Frag} {H:Hp} {l p:Addr} {xs:List V} {C:List Cla} {last:Ti} {vl:V} {tt:TT} {Q:VK} {gg:TG} (hgg:gg=j4 0) (hte:tt=YT (tOp jgA (tOp (jc3 K) (ya 0) (tC (.int 1))) (ya 1))) (hp:H p=none) (hl:H l=some (.lst xs)) (hL:HeldL H (C.map clD) xs) (hz:C.length≤900) (hvl:Held H last.toD vl) (ok:∀ c∈C,TiOk c.2)
  (q:∀ (G:Hp) (ys:List V),Same H G→G p=some (.lst ys)→HeldL G ((C.filter fun c=>!decide (c.2.toD=last.toD)).map clD) ys→Q (.ref p) G):qj (Itl K l) p gg tt (ya 0) Q [none,some vl] (upd H p (.lst [])):=by
 subst hte
 refine Jf (σr:=[some vl]) (fun d=>!decide (jfo d=last.toD)) hgg hp hl hL (by rw [List.length_map];exact hz) (fun d v G sG hv hd R k=>?_) fun G ys sG e hY=>q G ys sG e ?_
 ·obtain ⟨c,hc,rfl⟩:=List.mem_map.mp hd
  obtain ⟨a0,b0,gs,vt,rfl,ha0,hb0,hgs,hvt⟩:=jas hv
  obtain ⟨a,as,rfl,ha,h1⟩:=qW hvt
  obtain ⟨b,bs,rfl,hb,h2⟩:=qW (hvl.mono sG)
  refine ⟨_,rfl,a0,_,_,_,rfl,rfl,SqT.of ha0,rfl,_,rfl,a,b,as,bs,_,_,rfl,rfl,ha,hb,jae (ok c hc),h1,h2,_,rfl,?_⟩
  rw [K6]
  exact k G (fun _ _ e=>e)
 ·rw [List.filter_map] at hY
  exact hY
theorem jdX {K:W.Frag} {H:Hp} {l p:Addr} {xs:List V} {C:List Cla} {te:TE} {Q:VK} {gg:TG} (hgg:gg=j4 0) (hte:te=tOp (jc3 K) (ya 0) (tC (.int 1))) (hp:H p=none) (hl:H l=some (.lst xs)) (hL:HeldL H (C.map clD) xs) (hz:C.length≤900)
  (q:∀ (G:Hp) (ys:List V),Same H G→G p=some (.lst ys)→HeldL G (C.map fun c=>c.2.toD) ys→Q (.ref p) G):qj (Itl K l) p gg yx te Q [none] (upd H p (.lst [])):=by
 subst hte
 refine KQ (σr:=[]) jfo hgg hp hl hL (by rw [List.length_map];exact hz) (fun d v G sG hv hd R k=>?_) fun G ys sG e hY=>q G ys sG e (by rw [jeg] at hY;exact hY)
 obtain ⟨c,hc,rfl⟩:=List.mem_map.mp hd
 obtain ⟨a0,b0,gs,vt,rfl,ha0,hb0,hgs,hvt⟩:=jas hv
 exact ⟨_,rfl,a0,_,_,_,rfl,rfl,SqT.of ha0,rfl,k _ hvt⟩
theorem jg2 (u v:V) (r:List V):qG (u :: v :: r) (some 2) none=r:=by
 unfold qG
 show ((u :: v :: r).drop (min 2 (u :: v :: r).length)).take ((u :: v :: r).length - min 2 (u :: v :: r).length)=r
 rw [show min 2 (u :: v :: r).length=2 by simp only [List.length_cons];omega]
 show r.take _=r
 exact List.take_of_length_le (by simp only [List.length_cons];omega)
theorem jcF:∀ {ts:List Ti},2 < ts.length→∃ t0 t1 tq,ts=t0 :: t1 :: tq
 | [],h=>absurd h (by decide)
 | [_],h=>absurd h (by simp only [List.length_cons,List.length_nil];omega)
 | t0 :: t1 :: tq,_=>⟨t0,t1,tq,rfl⟩
theorem Pap.leaves_pos:∀ p:Pap,0 < p.leaves.length
 | .ring ts=>Nat.zero_lt_one
 | .split t x y=>by
  show 0 < (x.leaves++y.leaves).length
  have:=Pap.leaves_pos x
  rw [List.length_append];omega
theorem LvsAt.get {H:Hp}:∀ {L:List (List Ti)} {vs:List V} {i:Nat} {ts:List Ti},LvsAt H L vs→L[i]?=some ts→∃ l xs,vs[i]?=some (.ref l)∧H l=some (.lst xs)∧HeldL H (tsD ts) xs
 | [],vs,i,ts,h,e=>by simp at e
 | u :: L,vs,0,ts,h,e=>by
  obtain ⟨l,xs,r,rfl,h1,h2,h3⟩:=h
  cases e
  exact ⟨l,xs,rfl,h1,h2⟩
 | u :: L,vs,i+1,ts,h,e=>by
  obtain ⟨l,xs,r,rfl,h1,h2,h3⟩:=h
  rw [List.getElem?_cons_succ] at e ⊢
  exact LvsAt.get h3 e
end LW
namespace L2
open PySem
theorem jdY {X:Cx} {scope:Scope} (h:scope.kind=.function∧(∀ y∈scope.names,y.2=.local)∧∀ y∈scope.names,scope.names.lookup y.1=some .local):CompOk X scope []:=
 ⟨h.1,fun y hy z=>(by rw [h.2.1 y hy] at z;cases z),fun y hy _=>h.2.2 y hy,fun y hy z=>(by rw [h.2.1 y hy] at z;cases z),fun j hj=>(by cases hj)⟩
end L2
namespace LW
open PySem L2
abbrev kz:Stmt:=top 20
def YY (K:W.Frag):Sp:=fun vs H Q _=>∃ (a pb b0 b1:Addr) (v:V) (ns:List Int) (p:Pap) (r:Nat) (T:List Ti) (C:List Cla) (mo tm:Ti) (w0 w1 w2:Str),vs=[.ref a,v,.ref pb]∧SqL K H a (ns.map V.int)∧PapAt H p v∧BkAt H pb b0 b1 (TB T mo) (CB C mo tm)∧Whole w0 w1 w2 p r T C mo tm∧
 ∀ (pt:Addr) (vp:V) (po l0 l1:Addr) (x0 x1:List V) (p':Pap) (T':List Ti) (C':List Cla) H',Same H H'→H' pt=some (.tup [vp,.ref po])→PapAt H' p' vp→H' po=some (.lst [.ref l0,.ref l1])→H' l0=some (.lst x0)→HeldL H' (tsD T') x0→H' l1=some (.lst x1)→HeldL H' (C'.map clD) x1→Bad w0 w1 w2 p' T' C'→Q (.ref pt) H'
section
variable {P:Program} {w:World} {K:W.Frag} {mg:Str→Option Value} {base:Heap}
theorem jb3 {f:Addr} {fd:FuncData} (F:Fun K "_law_spoilt" "_law_spoilt" kz f fd) (B:Free0 mg) (Z_sum:mg "sum" = none) (F_pick:Fn P w K mg base 2 "_law_pick" ["_law_script","_law_k","_law_many"] (zf K)) (F_leaves:Fn P w K mg base 13 "_law_leaves" ["_law_paper"] (qX 12)) (F_changed:Fn P w K mg base 13 "_law_changed" ["_law_paper","_law_at","_law_ring"] (qY 12)):FnOk P w K mg base CX0 14 f fd ["_law_script","_law_paper","_law_book"] (YY K):=by
 have sc:FnScope ["_law_script","_law_paper","_law_book","_law_form","_law_leaves_here","_law_at","_law_ring","_law_own","_law_strange","_law_total","_law_last","_law_fresh","_law_changed_here","_law_ties","_law_clauses","_law_weak","_law_more"] ["_law_script","_law_paper","_law_book"] (jk kz):=fQ
 refine F.okZ sc (fun vs H Q E h=>?_) (fun cdv A outer s H vs Q E hr h=>?_)
 ·obtain ⟨a,pb,b0,b1,v,ns,p,r,T,C,mo,tm,w0,w1,w2,rfl,_⟩:=h
  rfl
 obtain ⟨a,pb,b0,b1,v,ns,p,r,T,C,mo,tm,w0,w1,w2,rfl,hS,hp,hB,hWh,q⟩:=h
 have hu9:(A.deeper (PyProof.Rows.envOfC "_law_spoilt" (jk kz) s.heap.objs.size f cdv)).units+1+8 < cLine:=by have:=hr.units;omega
 refine ⟨_,(jf (jp (i:=3) sc.nd rfl oQ (jw F_pick hr (ja (zpv 0) (ja jb (ja jb jc)))))
   (jf (jp (i:=4) sc.nd rfl oQ (jw F_leaves hr (ja (zpv 1) jc)))
   (jf (jp (i:=5) sc.nd rfl oQ (jw F_pick hr (ja (zpv 0) (ja jb (ja (jM jz (by rfl) B.len_ kc (ja (zpv 4) jc)) jc)))))
   (jf (jp (i:=6) sc.nd rfl oQ (jh jr (zpv 4) (zpv 5) (fun _ _=>rfl)))
   (jf (kg (i:=7) sc.nd rfl oQ ["_law_tie"] [2] rfl (jS (sc:=jk kz) (N:=["_law_script","_law_paper","_law_book","_law_form","_law_leaves_here","_law_at","_law_ring","_law_own","_law_strange","_law_total","_law_last","_law_fresh","_law_changed_here","_law_ties","_law_clauses","_law_weak","_law_more"]) rfl rfl (by decide +kernel)) (jK (zpv 6)) (fun s H ex=>⟨(jt (i:=0) (show List.Nodup (["_law_tie","_law_book"]:List Str) by decide +kernel) rfl oQ),(zA (yV (jq (jdl 8 hu9) (zpv 0) (jh (Zw (K:=K)) (zpv 1) jb (fun _ _=>rfl)) rfl) (zM (jq (jdl 8 hu9) (zpv 0) (jbI ["_law_clause"] [] (fun _ _=>Iff.rfl) rfl (jdY (by decide +kernel)) (jbF (K:=K) (jh (Zw (K:=K)) (zpv 1) jb (fun _ _=>rfl))) (fun s H ex=>⟨(jt (i:=0) (show List.Nodup (["_law_clause"]:List Str) by decide +kernel) rfl oQ),jV,(jh (qQ (K:=K)) (zpv 0) jb (fun _ _=>rfl))⟩)) rfl))).pt),(zpv 0)⟩))
   (jf (jp (i:=8) sc.nd rfl oQ (jo (ja (jo (ja jL (ja jb jc))) (ja (jo (ja jL (ja jb jc))) (ja jb jc)))))
   (jf (jN (jq kR (zpv 3) jb (jB _)) (jf (jp (i:=9) sc.nd rfl oQ (jM (Ke rfl) (by rfl) Z_sum jav (ja (kF ["_law_tie"] [] rfl (jS (sc:=jk kz) (N:=["_law_script","_law_paper","_law_book","_law_form","_law_leaves_here","_law_at","_law_ring","_law_own","_law_strange","_law_total","_law_last","_law_fresh","_law_changed_here","_law_ties","_law_clauses","_law_weak","_law_more"]) rfl rfl (by decide +kernel)) (jK (zpv 6)) (fun s H ex=>⟨(jt (i:=0) (show List.Nodup (["_law_tie"]:List Str) by decide +kernel) rfl oQ),jV,(jh (qQ (K:=K)) (zpv 0) jb (fun _ _=>rfl))⟩)) jc)))
   (jf (jp (i:=10) sc.nd rfl oQ (jh jr (zpv 7) (zC zD jb) (fun _ _=>rfl)))
   (jf (jp (i:=11) sc.nd rfl oQ (jo (ja (jh jy (zpv 10) jb (fun _ _=>rfl)) (ja (jh jy (zpv 10) jb (fun _ _=>rfl)) (ja (jj kP (jh jy (zpv 10) jb (fun _ _=>rfl)) (zpv 9)) jc)))))
   (jf (kg (i:=12) sc.nd rfl oQ ["_law_tie"] [10,11] rfl (jS (sc:=jk kz) (N:=["_law_script","_law_paper","_law_book","_law_form","_law_leaves_here","_law_at","_law_ring","_law_own","_law_strange","_law_total","_law_last","_law_fresh","_law_changed_here","_law_ties","_law_clauses","_law_weak","_law_more"]) rfl rfl (by decide +kernel)) (jK (zpv 6)) (fun s H ex=>⟨(jt (i:=0) (show List.Nodup (["_law_tie","_law_last","_law_fresh"]:List Str) by decide +kernel) rfl oQ),jV,(zO (jq (ja6 8 hu9) (zpv 0) (zpv 1) (jB _)) (zpv 2) (zpv 0))⟩))
   (jl (ju (jo (ja (jw F_changed hr (ja (zpv 1) (ja (zpv 5) (ja (zpv 12) jc)))) (ja (jC (ja (jj qz (jh jr (zpv 2) jb (fun _ _=>rfl)) (jC (ja (zpv 11) jc))) (ja (ze zt (by rfl) B.list_ YA (ja (jh jr (zpv 2) jb (fun _ _=>rfl)) jc)) jc))) jc))))))))) jD)
   (jf (jN (jq kR (zpv 3) jb (jB _)) (jf (jp (i:=10) sc.nd rfl oQ (jh jr (zpv 7) (jw F_pick hr (ja (zpv 0) (ja jb (ja (jM jz (by rfl) B.len_ kc (ja (zpv 7) jc)) jc)))) (fun _ _=>rfl)))
   (jf (kg (i:=13) sc.nd rfl oQ ["_law_tie"] [10] rfl (jS (sc:=jk kz) (N:=["_law_script","_law_paper","_law_book","_law_form","_law_leaves_here","_law_at","_law_ring","_law_own","_law_strange","_law_total","_law_last","_law_fresh","_law_changed_here","_law_ties","_law_clauses","_law_weak","_law_more"]) rfl rfl (by decide +kernel)) (jK (jh jr (zpv 2) jb (fun _ _=>rfl))) (fun s H ex=>⟨(jt (i:=0) (show List.Nodup (["_law_tie","_law_last"]:List Str) by decide +kernel) rfl oQ),(zA (jq (Jz 8 hu9) (zpv 0) (zpv 1) (jB _))),(zpv 0)⟩))
   (jl (ju (jo (ja (zpv 1) (ja (jC (ja (zpv 13) (ja (kF ["_law_clause"] [10] rfl (jS (sc:=jk kz) (N:=["_law_script","_law_paper","_law_book","_law_form","_law_leaves_here","_law_at","_law_ring","_law_own","_law_strange","_law_total","_law_last","_law_fresh","_law_changed_here","_law_ties","_law_clauses","_law_weak","_law_more"]) rfl rfl (by decide +kernel)) (jK (jh jr (zpv 2) jb (fun _ _=>rfl))) (fun s H ex=>⟨(jt (i:=0) (show List.Nodup (["_law_clause","_law_last"]:List Str) by decide +kernel) rfl oQ),(zA (jq (Jz 8 hu9) (jh (qQ (K:=K)) (zpv 0) jb (fun _ _=>rfl)) (zpv 1) (jB _))),(zpv 0)⟩)) jc))) jc))))))) jD)
   (jf (jN (jq kR (zpv 3) jb (jB _)) (jf (jp (i:=10) sc.nd rfl oQ (jh jr (zpv 7) (jw F_pick hr (ja (zpv 0) (ja jb (ja (jM jz (by rfl) B.len_ kc (ja (zpv 7) jc)) jc)))) (fun _ _=>rfl)))
   (jf (kg (i:=13) sc.nd rfl oQ ["_law_tie"] [10] rfl (jS (sc:=jk kz) (N:=["_law_script","_law_paper","_law_book","_law_form","_law_leaves_here","_law_at","_law_ring","_law_own","_law_strange","_law_total","_law_last","_law_fresh","_law_changed_here","_law_ties","_law_clauses","_law_weak","_law_more"]) rfl rfl (by decide +kernel)) (jK (jh jr (zpv 2) jb (fun _ _=>rfl))) (fun s H ex=>⟨(jt (i:=0) (show List.Nodup (["_law_tie","_law_last"]:List Str) by decide +kernel) rfl oQ),(zA (jq (Jz 8 hu9) (zpv 0) (zpv 1) (jB _))),(zpv 0)⟩))
   (jf (kg (i:=14) sc.nd rfl oQ ["_law_clause"] [10] rfl (jS (sc:=jk kz) (N:=["_law_script","_law_paper","_law_book","_law_form","_law_leaves_here","_law_at","_law_ring","_law_own","_law_strange","_law_total","_law_last","_law_fresh","_law_changed_here","_law_ties","_law_clauses","_law_weak","_law_more"]) rfl rfl (by decide +kernel)) (jK (jh jr (zpv 2) jb (fun _ _=>rfl))) (fun s H ex=>⟨(jt (i:=0) (show List.Nodup (["_law_clause","_law_last"]:List Str) by decide +kernel) rfl oQ),(zA (jq (Jz 8 hu9) (jh (qQ (K:=K)) (zpv 0) jb (fun _ _=>rfl)) (zpv 1) (jB _))),(zpv 0)⟩))
   (jf (jp (i:=15) sc.nd rfl oQ (jj jdm (qb jcS (jh jr (jh jr (zpv 2) jb (fun _ _=>rfl)) (zC zD jb) (fun _ _=>rfl)) qr (qq jb)) (jo (ja (jj jH (jh jy (jh jr (jh jr (zpv 2) jb (fun _ _=>rfl)) (zC zD jb) (fun _ _=>rfl)) jb (fun _ _=>rfl)) jb) jc))))
   (jf (jp (i:=16) sc.nd rfl oQ (jC (ja (jC (ja (jo (ja (jo (ja (zpv 8) jc)) (ja (zpv 10) jc))) jc)) (ja (jC (ja (jo (ja (jo jc) (ja (zpv 8) jc))) (ja (jo (ja (jo (ja (zpv 8) jc)) (ja (zpv 10) jc))) jc))) (ja (jC (ja (jo (ja (jo (ja (zpv 15) jc)) (ja (zpv 10) jc))) jc)) jc)))))
   (jl (ju (jo (ja (zpv 1) (ja (jC (ja (zpv 13) (ja (jj qz (zpv 14) (jh jr (zpv 16) (jw F_pick hr (ja (zpv 0) (ja jb (ja jb jc)))) (fun _ _=>rfl))) jc))) jc)))))))))) jD)
   (jf (jN (jq Jm (zpv 3) jb (jB _)) (jf (jp (i:=10) sc.nd rfl oQ (jh jr (zpv 7) (jw F_pick hr (ja (zpv 0) (ja jb (ja (jM jz (by rfl) B.len_ kc (ja (zpv 7) jc)) jc)))) (fun _ _=>rfl)))
   (jf (jp (i:=15) sc.nd rfl oQ (jo (ja (jh jy (zpv 10) jb (fun _ _=>rfl)) (ja (jh jy (zpv 10) jb (fun _ _=>rfl)) (ja (jj jH (jh jy (zpv 10) jb (fun _ _=>rfl)) jb) jc)))))
   (jl (ju (jo (ja (jw F_changed hr (ja (zpv 1) (ja (zpv 5) (ja (kF ["_law_tie"] [10,15] rfl (jS (sc:=jk kz) (N:=["_law_script","_law_paper","_law_book","_law_form","_law_leaves_here","_law_at","_law_ring","_law_own","_law_strange","_law_total","_law_last","_law_fresh","_law_changed_here","_law_ties","_law_clauses","_law_weak","_law_more"]) rfl rfl (by decide +kernel)) (jK (zpv 6)) (fun s H ex=>⟨(jt (i:=0) (show List.Nodup (["_law_tie","_law_last","_law_weak"]:List Str) by decide +kernel) rfl oQ),jV,(zO (jq (ja6 8 hu9) (zpv 0) (zpv 1) (jB _)) (zpv 2) (zpv 0))⟩)) jc)))) (ja (zpv 2) jc))))))) jD)
   (jf (jN (yo (jq kR (zpv 3) jb (jB _)) (yn (jq Jm (jM jz (by rfl) B.len_ kc (ja (zpv 6) jc)) jb (jB _)))).pt (jl (ju (jo (ja (jw F_changed hr (ja (zpv 1) (ja (zpv 5) (ja (jj qz (jC (ja (jh jr (zpv 6) jb (fun _ _=>rfl)) (ja (jh jr (zpv 6) jb (fun _ _=>rfl)) jc))) (qb yB (zpv 6) (qq jb) qr)) jc)))) (ja (zpv 2) jc))))) jD)
   (jf (jN (yo (jq kR (zpv 3) jb (jB _)) (yn (jq kR (jh jy (zpv 1) jb (fun _ _=>rfl)) jL (jB _)))).pt (jl (ju (jo (ja (jo (ja jL (ja (jh jy (zpv 1) jb (fun _ _=>rfl)) (ja (jh jy (zpv 1) jb (fun _ _=>rfl)) (ja (jh jy (zpv 1) jb (fun _ _=>rfl)) jc))))) (ja (zpv 2) jc))))) jD)
   (jl (ju (jo (ja (jw F_changed hr (ja (zpv 1) (ja (zpv 5) (ja (jC jc) jc)))) (ja (zpv 2) jc))))))))))))))))),?_⟩
 refine kD (σ':=[some (.ref a),some v,some (.ref pb),none,none,none,none,none,none,none,none,none,none,none,none,none,none]) rfl ?_
 try dsimp only [kZ]
 refine jga ?_
 intro _ _ _ _ _ _ _ _ _ _ _ _
 have hpl:p.leaves.length≤14∧0 < p.leaves.length:=by
  have h1:=hWh.lv.num
  have h2:=hWh.few
  rw [Pap.lw_len] at h1
  exact ⟨by omega,p.leaves_pos⟩
 refine ⟨_,rfl,a,ns,1,8,rfl,hS,by decide,by decide,by decide,fun form f0 f1=>?_⟩
 refine gQ ?_
 refine ⟨_,rfl,v,p,rfl,hp,hWh.deep,by omega,fun ll lx H1 s1 nl el hLv=>?_⟩
 refine gQ ?_
 have hlx:=hLv.len
 refine ⟨_,rfl,_,rfl,ll,lx,rfl,.inl (SqL.of el),a,ns,2,(lx.length:Nat),rfl,jE s1 hS,by decide,by decide,by omega,fun at_ a0 a1=>?_⟩
 refine gQ ?_
 obtain ⟨i,rfl⟩:=Int.eq_ofNat_of_zero_le a0
 obtain ⟨way,ts,os,els,At0⟩:=hWh.at (i:=i) (by omega)
 obtain ⟨lr,xr,ex,er,hR⟩:=hLv.get els
 refine ⟨_,rfl,_,rfl,ll,_,_,_,rfl,rfl,SqL.of el,kI ex,?_⟩
 refine gQ ?_
 obtain ⟨X0,g0,hT0⟩:=hB.h0
 obtain ⟨X1,g1,hC1⟩:=hB.h1
 have hlen:=hWh.len
 have hrl:=At0.len
 refine ⟨_,rfl,lr,rfl,⟨_,SqL.of er⟩,fun po hpo=>?_⟩
 refine Jf (σr:=[some (.ref pb)]) (fun d=>decide (d∈tsD (TB T mo)) || decide (d∈(CB C mo tm).map fun c=>c.2.toD)) rfl hpo er hR (by rw [List.length_map];omega) (fun d v G sG hv hd R k=>?_) fun G2 ys s2 e2 hY=>?_
 ·have sHG:=s1.trans sG
  refine ⟨_,rfl,_,rfl,pb,_,_,_,rfl,rfl,SqL.of (sHG _ _ hB.p),rfl,b0,X0,d,tsD (TB T mo),rfl,sHG _ _ g0,qe (fun d' hd'=>?_),hv,hT0.mono sHG,_,rfl,j6 (fun c=>?_) (fun c=>?_)⟩
  ·obtain ⟨t,ht,rfl⟩:=List.mem_map.mp hd'
   exact ((qV hWh (.inl ht)).ok hWh.W).dep
  ·have:=k G (fun _ _ e=>e)
   rw [show decide (d∈tsD (TB T mo))=true from c,Bool.true_or] at this
   exact this
  ·have c':decide (d∈tsD (TB T mo))=false:=Bool.eq_false_iff.mpr c
   refine ⟨_,rfl,_,rfl,pb,_,_,_,rfl,rfl,SqL.of (sHG _ _ hB.p),rfl,b1,rfl,⟨_,SqL.of (sHG _ _ g1)⟩,fun pc hpc=>?_⟩
   refine jdX rfl rfl hpc (sHG _ _ g1) (hC1.mono sHG) (by omega) fun G3 zs s3 e3 hZ=>?_
   refine ⟨pc,zs,d,_,rfl,e3,qe (fun d' hd'=>?_),hv.mono s3,hZ,_,rfl,?_⟩
   ·obtain ⟨x,hx,rfl⟩:=List.mem_map.mp hd'
    exact ((qV hWh (.inr ⟨x,hx,rfl⟩)).ok hWh.W).dep
   ·have:=k G3 s3
    rw [c',Bool.false_or] at this
    exact this
 rw [jaa hWh At0] at hY
 obtain ⟨_,_,_,_,_,LF⟩:=At0.leaf
 have hosne:=LF.ne
 clear LF
 refine gQ ?_
 refine ⟨sm rfl,fun q1 hq1=>⟨sm rfl,fun q2 hq2=>⟨sm rfl,fun q3 hq3=>?_⟩⟩⟩
 have t1:=je hq1 (.tup [V.str "own",V.int 1])
 have u1:Held (upd G2 q1 (.tup [V.str "own",V.int 1])) (.tup [.str "own",.int 1]) (.ref q1):=jF jd (jg j8 (jg j3 ji))
 generalize upd G2 q1 (.tup [V.str "own",V.int 1])=G3 at *
 have t2:=je hq2 (.tup [V.str "pick",V.int 9999])
 have u2:Held (upd G3 q2 (.tup [V.str "pick",V.int 9999])) (.tup [.str "pick",.int 9999]) (.ref q2):=jF jd (jg j8 (jg j3 ji))
 generalize upd G3 q2 (.tup [V.str "pick",V.int 9999])=G4 at *
 have t3:=je hq3 (.tup [V.ref q1,V.ref q2,V.int 0])
 have u3:Held (upd G4 q3 (.tup [V.ref q1,V.ref q2,V.int 0])) zy.toD (.ref q3):=qw (t:=zy) jd (u1.mono (t2.trans t3)) (u2.mono t3)
 generalize upd G4 q3 (.tup [V.ref q1,V.ref q2,V.int 0])=G5 at *
 have s5:Same H G5:=s1.trans (s2.trans (t1.trans (t2.trans t3)))
 have s15:Same H1 G5:=s2.trans (t1.trans (t2.trans t3))
 have s25:Same G2 G5:=t1.trans (t2.trans t3)
 have B5:=hB.mono s5
 have er5:=s15 _ _ er
 have hR5:=hR.mono s15
 have e5:=s25 _ _ e2
 have hY5:=hY.mono s25
 have g05:=s5 _ _ g0
 have g15:=s5 _ _ g1
 have hT5:=hT0.mono s5
 have hC5:=hC1.mono s5
 have hp5:=hp.mono s5
 have hS5:=jE s5 hS
 clear hY hR el hLv u1 u2 t1 t2 t3 s2 s25 s15 e2 er
 have hosl:=hY5.length
 rw [List.length_map] at hosl
 have hosn:0 < os.length:=List.length_pos_iff.mpr hosne
 have okts:∀ t∈ts,TiOk t:=fun t ht=>(At0.vt ht).ok hWh.W
 have okTB:∀ t∈TB T mo,TiOk t:=fun t ht=>(qV hWh (.inl ht)).ok hWh.W
 have okCB:∀ c∈CB C mo tm,TiOk c.2:=fun c hc=>(qV hWh (.inr ⟨c,hc,rfl⟩)).ok hWh.W
 have hX0:=hT5.length
 have hX1:=hC5.length
 rw [List.length_map] at hX0 hX1
 have hxr:=hR5.length
 rw [List.length_map] at hxr
 refine gQ ?_
 refine ⟨_,rfl,rfl,_,rfl,j6 (fun c=>?_) (fun c0=>?_)⟩
 ·-- the sum is just nought
  obtain ⟨os1,last,rfl⟩:=jaU hosne
  obtain ⟨ys1,vl,rfl,_,hvl⟩:∃ r v,ys=r++[v]∧HeldL G5 (tsD os1) r∧Held G5 last.toD v:=kS (by
   unfold tsD at hY5
   rw [List.map_append] at hY5
   exact hY5)
  refine ⟨_,rfl,lr,rfl,⟨_,SqL.of er5⟩,fun p1 hp1=>?_⟩
  refine zI (g:=fun t=>.int t.c) rfl hp1 er5 hR5 (by omega) (fun t G v h=>?_) fun G6 zs s6 e6 hZ=>?_
  ·obtain ⟨a,vx,vy,rfl,ha,h1,h2⟩:=kf h
   exact ⟨a,_,_,rfl,ha,rfl,j3⟩
  have hZ':zs=(ts.map Ti.c).map V.int:=qD (by rw [List.map_map];exact hZ)
  subst hZ'
  refine ⟨p1,_,rfl,SqL.of e6,?_⟩
  refine gQ ?_
  refine ⟨_,rfl,1,rfl,po,_,_,_,rfl,rfl,SqL.of (s6 _ _ e5),zL _ _,?_⟩
  refine gQ ?_
  obtain ⟨al,vx,vy,rfl,hal,hvx,hvy⟩:=kf hvl
  have hal6:=s6 _ _ hal
  refine ⟨_,rfl,al,_,_,_,rfl,rfl,SqT.of hal6,rfl,_,rfl,al,_,_,_,rfl,rfl,SqT.of hal6,rfl,_,rfl,al,_,_,_,rfl,rfl,SqT.of hal6,rfl,_,rfl,_,_,rfl,rfl,sm rfl,fun pf hpf=>?_⟩
  dsimp only
  obtain ⟨fresh,hfr⟩:∃ u:Ti,u=⟨last.x,last.y,last.c - (ts.map Ti.c).sum⟩:=⟨_,rfl⟩
  have s7:=je hpf (.tup [vx,vy,V.int (last.c - (ts.map Ti.c).sum)])
  have hF:Held (upd G6 pf (.tup [vx,vy,V.int (last.c - (ts.map Ti.c).sum)])) fresh.toD (.ref pf):=by
   rw [hfr]
   exact qw (t:=⟨last.x,last.y,last.c - (ts.map Ti.c).sum⟩) jd (hvx.mono (s6.trans s7)) (hvy.mono (s6.trans s7))
  generalize upd G6 pf (.tup [vx,vy,V.int (last.c - (ts.map Ti.c).sum)])=G7 at *
  have s57:=s6.trans s7
  refine gQ ?_
  refine ⟨_,rfl,lr,rfl,⟨_,SqL.of (s57 _ _ er5)⟩,fun p2 hp2=>?_⟩
  refine KP (last:=last) (fresh:=fresh) rfl rfl hp2 (s57 _ _ er5) (hR5.mono s57) (by omega) (hvl.mono s57) hF okts fun G8 ws s8 e8 hW=>?_
  have s58:=s57.trans s8
  refine gQ ?_
  refine ⟨_,rfl,_,rfl,_,rfl,v,i,p2,ws,repl last fresh ts,p,rfl,hp5.mono s58,hWh.deep,by omega,e8,hW,fun vp G9 s9 hvp=>?_⟩
  have s59:=s58.trans s9
  refine ⟨_,rfl,pb,_,_,_,rfl,rfl,SqL.of (s59 _ _ B5.p),rfl,_,rfl,sm rfl,fun p3 hp3=>?_⟩
  have s10:=je hp3 (.lst [V.ref pf])
  have e10:upd G9 p3 (.lst [V.ref pf]) p3=some (.lst [V.ref pf]):=jd
  generalize upd G9 p3 (.lst [V.ref pf])=G10 at *
  have s510:=s59.trans s10
  refine ⟨b0,p3,_,_,rfl,rfl,s510 _ _ g05,e10,zv (by simp only [List.length_cons,List.length_nil];omega),fun p4 hp4=>?_⟩
  have s11:=je hp4 (.lst (X0++[V.ref pf]))
  have e11:upd G10 p4 (.lst (X0++[V.ref pf])) p4=some (.lst (X0++[V.ref pf])):=jd
  generalize upd G10 p4 (.lst (X0++[V.ref pf]))=G11 at *
  have s511:=s510.trans s11
  refine ⟨_,rfl,pb,_,_,_,rfl,rfl,SqL.of (s511 _ _ B5.p),rfl,b1,X1,rfl,.inl (SqL.of (s511 _ _ g15)),fun p5 hp5'=>?_⟩
  have s12:=je hp5' (.lst X1)
  have e12:upd G11 p5 (.lst X1) p5=some (.lst X1):=jd
  generalize upd G11 p5 (.lst X1)=G12 at *
  refine ⟨sm rfl,fun p6 hp6=>⟨sm rfl,fun p7 hp7=>?_⟩⟩
  have s13:=je hp6 (.lst [V.ref p4,V.ref p5])
  have e13:upd G12 p6 (.lst [V.ref p4,V.ref p5]) p6=some (.lst [V.ref p4,V.ref p5]):=jd
  generalize upd G12 p6 (.lst [V.ref p4,V.ref p5])=G13 at *
  have s14:=je hp7 (.tup [vp,V.ref p6])
  have e14:upd G13 p7 (.tup [vp,V.ref p6]) p7=some (.tup [vp,V.ref p6]):=jd
  generalize upd G13 p7 (.tup [vp,V.ref p6])=G14 at *
  have sZ:Same G11 G14:=s12.trans (s13.trans s14)
  have s514:=s511.trans sZ
  refine q p7 vp p6 p4 p5 _ _ _ (TB T mo++[fresh]) (CB C mo tm) G14 (s5.trans s514) e14 (hvp.mono (s10.trans (s11.trans sZ))) (s14 _ _ e13) (sZ _ _ e11) ?_ ((s13.trans s14) _ _ e12) (hC5.mono s514) (jhk hWh At0 (List.mem_append_right _ (List.mem_singleton.mpr rfl)) hfr)
  unfold tsD
  rw [List.map_append]
  exact jJ (hT5.mono s514) (jg (hF.mono (s8.trans (s9.trans (s10.trans (s11.trans sZ))))) ji)
 refine ⟨_,rfl,rfl,_,rfl,j6 (fun c=>?_) (fun c1=>?_)⟩
 ·-- a tie lacks in the book
  refine ⟨_,rfl,_,rfl,_,rfl,po,ys,rfl,.inl (SqL.of e5),a,ns,3,(ys.length:Nat),rfl,hS5,by decide,by decide,by omega,fun z z0 z1=>?_⟩
  obtain ⟨z,rfl⟩:=Int.eq_ofNat_of_zero_le z0
  have hzo:z < os.length:=by omega
  obtain ⟨vl,hzl,hvl⟩:=hY5.get (j:=z) (d:=os[z].toD) (by rw [List.getElem?_map,List.getElem?_eq_getElem hzo];rfl)
  have hlo:os[z]∈os:=List.getElem_mem hzo
  generalize os[z]=last at *
  refine ⟨po,_,_,_,rfl,rfl,SqL.of e5,kI hzl,?_⟩
  refine gQ ?_
  refine ⟨_,rfl,pb,_,_,_,rfl,rfl,SqL.of B5.p,rfl,b0,rfl,⟨_,SqL.of g05⟩,fun p1 hp1=>?_⟩
  refine jbu (last:=last) rfl rfl hp1 g05 hT5 (by omega) hvl okTB fun G6 zs s6 e6 hZ=>?_
  refine gQ ?_
  refine ⟨_,rfl,_,rfl,_,rfl,pb,_,_,_,rfl,rfl,SqL.of (s6 _ _ B5.p),rfl,b1,rfl,⟨_,SqL.of (s6 _ _ g15)⟩,fun p2 hp2=>?_⟩
  refine jbv (last:=last) rfl rfl hp2 (s6 _ _ g15) (hC5.mono s6) (by omega) (hvl.mono s6) okCB fun G7 ws s7 e7 hW=>⟨sm rfl,fun p3 hp3=>⟨sm rfl,fun p4 hp4=>?_⟩⟩
  have s8:=je hp3 (.lst [V.ref p1,V.ref p2])
  have e8:upd G7 p3 (.lst [V.ref p1,V.ref p2]) p3=some (.lst [V.ref p1,V.ref p2]):=jd
  generalize upd G7 p3 (.lst [V.ref p1,V.ref p2])=G8 at *
  have s9:=je hp4 (.tup [v,V.ref p3])
  have e9:upd G8 p4 (.tup [v,V.ref p3]) p4=some (.tup [v,V.ref p3]):=jd
  generalize upd G8 p4 (.tup [v,V.ref p3])=G9 at *
  have s59:=s6.trans (s7.trans (s8.trans s9))
  exact q p4 v p3 p1 p2 _ _ p _ _ G9 (s5.trans s59) e9 (hp5.mono s59) (s9 _ _ e8) ((s7.trans (s8.trans s9)) _ _ e6) (hZ.mono (s7.trans (s8.trans s9))) ((s8.trans s9) _ _ e7) (hW.mono (s8.trans s9)) (by
   have:=je2 hWh At0 hlo (X:=[]) (fun c hc=>by cases hc) (by decide) List.nodup_nil (fun c hc=>by cases hc) (fun c hc=>by cases hc)
   rw [List.append_nil] at this
   exact this)
 refine ⟨_,rfl,rfl,_,rfl,j6 (fun c=>?_) (fun c2=>?_)⟩
 ·-- a guard fails
  refine ⟨_,rfl,_,rfl,_,rfl,po,ys,rfl,.inl (SqL.of e5),a,ns,3,(ys.length:Nat),rfl,hS5,by decide,by decide,by omega,fun z z0 z1=>?_⟩
  obtain ⟨z,rfl⟩:=Int.eq_ofNat_of_zero_le z0
  have hzo:z < os.length:=by omega
  obtain ⟨vl,hzl,hvl⟩:=hY5.get (j:=z) (d:=os[z].toD) (by rw [List.getElem?_map,List.getElem?_eq_getElem hzo];rfl)
  have hlo:os[z]∈os:=List.getElem_mem hzo
  generalize os[z]=last at *
  refine ⟨po,_,_,_,rfl,rfl,SqL.of e5,kI hzl,?_⟩
  refine gQ ?_
  refine ⟨_,rfl,pb,_,_,_,rfl,rfl,SqL.of B5.p,rfl,b0,rfl,⟨_,SqL.of g05⟩,fun p1 hp1=>?_⟩
  refine jbu (last:=last) rfl rfl hp1 g05 hT5 (by omega) hvl okTB fun G6 zs s6 e6 hZ=>?_
  refine gQ ?_
  refine ⟨_,rfl,pb,_,_,_,rfl,rfl,SqL.of (s6 _ _ B5.p),rfl,b1,rfl,⟨_,SqL.of (s6 _ _ g15)⟩,fun p2 hp2=>?_⟩
  refine jbv (last:=last) rfl rfl hp2 (s6 _ _ g15) (hC5.mono s6) (by omega) (hvl.mono s6) okCB fun G7 ws s7 e7 hW=>?_
  refine gQ ?_
  have s57:=s6.trans s7
  obtain ⟨X0',vm,rfl,_,hvm⟩:∃ r v,X0=r++[v]∧HeldL G5 (tsD T) r∧Held G5 mo.toD v:=kS (by
   unfold tsD at hT5
   rw [List.map_append] at hT5
   exact hT5)
  obtain ⟨am,mx,my,rfl,ham,hmx,hmy⟩:=kf hvm
  have ham7:=s57 _ _ ham
  refine ⟨_,rfl,pb,_,_,_,rfl,rfl,SqL.of (s57 _ _ B5.p),rfl,1,rfl,b0,_,_,_,rfl,rfl,SqL.of (s57 _ _ g05),zL _ _,_,rfl,am,_,rfl,SqT.of ham7,(fun z=>absurd z.2 (by show ¬ (2=3);decide)),fun p3 hp3=>?_⟩
  have hcut:qG [mx,my,V.int mo.c] none (some 2)=[mx,my]:=rfl
  rw [hcut]
  have s8:=je hp3 (.tup [mx,my])
  have e8:upd G7 p3 (.tup [mx,my]) p3=some (.tup [mx,my]):=jd
  generalize upd G7 p3 (.tup [mx,my])=G8 at *
  have s58:=s57.trans s8
  have ham8:=s8 _ _ ham7
  refine ⟨_,rfl,pb,_,_,_,rfl,rfl,SqL.of (s58 _ _ B5.p),rfl,1,rfl,b0,_,_,_,rfl,rfl,SqL.of (s58 _ _ g05),zL _ _,am,_,_,_,rfl,rfl,SqT.of ham8,rfl,_,_,rfl,rfl,sm rfl,fun p4 hp4=>?_⟩
  have s9:=je hp4 (.tup [V.int (mo.c+1)])
  have e9:upd G8 p4 (.tup [V.int (mo.c+1)]) p4=some (.tup [V.int (mo.c+1)]):=jd
  generalize upd G8 p4 (.tup [V.int (mo.c+1)])=G9 at *
  refine ⟨p3,p4,_,_,rfl,rfl,s9 _ _ e8,e9,sm rfl,fun pw G10 s10 e10=>?_⟩
  obtain ⟨weak,hwk⟩:∃ u:Ti,u=⟨mo.x,mo.y,mo.c+1⟩:=⟨_,rfl⟩
  have s710:Same G7 G10:=s8.trans (s9.trans s10)
  have s510:=s57.trans s710
  have hK:Held G10 weak.toD (.ref pw):=by
   rw [hwk]
   exact qw (t:=⟨mo.x,mo.y,mo.c+1⟩) e10 (hmx.mono s510) (hmy.mono s510)
  refine gQ ?_
  refine ⟨_,rfl,sm rfl,fun m1 hm1=>?_⟩
  have x1:=je hm1 (.tup [V.ref q3])
  have y1:upd G10 m1 (.tup [V.ref q3]) m1=some (.tup [V.ref q3]):=jd
  generalize upd G10 m1 (.tup [V.ref q3])=G11 at *
  refine ⟨_,rfl,sm rfl,fun m2 hm2=>?_⟩
  have x2:=je hm2 (.tup [V.ref m1,vl])
  have y2:upd G11 m2 (.tup [V.ref m1,vl]) m2=some (.tup [V.ref m1,vl]):=jd
  generalize upd G11 m2 (.tup [V.ref m1,vl])=G12 at *
  refine ⟨sm rfl,fun m3 hm3=>?_⟩
  have x3:=je hm3 (.lst [V.ref m2])
  have y3:upd G12 m3 (.lst [V.ref m2]) m3=some (.lst [V.ref m2]):=jd
  generalize upd G12 m3 (.lst [V.ref m2])=G13 at *
  refine ⟨sm rfl,fun m4 hm4=>?_⟩
  have x4:=je hm4 (.tup [])
  have y4:upd G13 m4 (.tup []) m4=some (.tup []):=jd
  generalize upd G13 m4 (.tup [])=G14 at *
  refine ⟨_,rfl,sm rfl,fun m5 hm5=>?_⟩
  have x5:=je hm5 (.tup [V.ref m4,V.ref q3])
  have y5:upd G14 m5 (.tup [V.ref m4,V.ref q3]) m5=some (.tup [V.ref m4,V.ref q3]):=jd
  generalize upd G14 m5 (.tup [V.ref m4,V.ref q3])=G15 at *
  refine ⟨_,rfl,sm rfl,fun m6 hm6=>?_⟩
  have x6:=je hm6 (.tup [V.ref q3])
  have y6:upd G15 m6 (.tup [V.ref q3]) m6=some (.tup [V.ref q3]):=jd
  generalize upd G15 m6 (.tup [V.ref q3])=G16 at *
  refine ⟨_,rfl,sm rfl,fun m7 hm7=>?_⟩
  have x7:=je hm7 (.tup [V.ref m6,vl])
  have y7:upd G16 m7 (.tup [V.ref m6,vl]) m7=some (.tup [V.ref m6,vl]):=jd
  generalize upd G16 m7 (.tup [V.ref m6,vl])=G17 at *
  refine ⟨sm rfl,fun m8 hm8=>?_⟩
  have x8:=je hm8 (.lst [V.ref m5,V.ref m7])
  have y8:upd G17 m8 (.lst [V.ref m5,V.ref m7]) m8=some (.lst [V.ref m5,V.ref m7]):=jd
  generalize upd G17 m8 (.lst [V.ref m5,V.ref m7])=G18 at *
  refine ⟨_,rfl,sm rfl,fun m9 hm9=>?_⟩
  have x9:=je hm9 (.tup [V.ref pw])
  have y9:upd G18 m9 (.tup [V.ref pw]) m9=some (.tup [V.ref pw]):=jd
  generalize upd G18 m9 (.tup [V.ref pw])=G19 at *
  refine ⟨_,rfl,sm rfl,fun m10 hm10=>?_⟩
  have x10:=je hm10 (.tup [V.ref m9,vl])
  have y10:upd G19 m10 (.tup [V.ref m9,vl]) m10=some (.tup [V.ref m9,vl]):=jd
  generalize upd G19 m10 (.tup [V.ref m9,vl])=G20 at *
  refine ⟨sm rfl,fun m11 hm11=>?_⟩
  have x11:=je hm11 (.lst [V.ref m10])
  have y11:upd G20 m11 (.lst [V.ref m10]) m11=some (.lst [V.ref m10]):=jd
  generalize upd G20 m11 (.lst [V.ref m10])=G21 at *
  refine ⟨sm rfl,fun m12 hm12=>?_⟩
  have x12:=je hm12 (.lst [V.ref m3,V.ref m8,V.ref m11])
  have y12:upd G21 m12 (.lst [V.ref m3,V.ref m8,V.ref m11]) m12=some (.lst [V.ref m3,V.ref m8,V.ref m11]):=jd
  generalize upd G21 m12 (.lst [V.ref m3,V.ref m8,V.ref m11])=G22 at *
  refine gQ ?_
  have z12:Same G22 G22:=fun _ _ e=>e
  have z11:Same G21 G22:=x12.trans z12
  have z10:Same G20 G22:=x11.trans z11
  have z9:Same G19 G22:=x10.trans z10
  have z8:Same G18 G22:=x9.trans z9
  have z7:Same G17 G22:=x8.trans z8
  have z6:Same G16 G22:=x7.trans z7
  have z5:Same G15 G22:=x6.trans z6
  have z4:Same G14 G22:=x5.trans z5
  have z3:Same G13 G22:=x4.trans z4
  have z2:Same G12 G22:=x3.trans z3
  have z1:Same G11 G22:=x2.trans z2
  have z0:Same G10 G22:=x1.trans z1
  have s522:=s510.trans z0
  have hq:Held G22 zy.toD (.ref q3):=u3.mono s522
  have hl22:Held G22 last.toD vl:=hvl.mono s522
  have hk22:Held G22 weak.toD (.ref pw):=hK.mono z0
  have vlast:=(At0.vt (At0.sub hlo)).vw
  have nst:=jfU hWh At0
  have nwk:=jeM hWh At0 hwk
  have vwk:=jef hWh hwk
  have c1H:Held G22 (clD ([zy],last)) (.ref m2):=jF (z2 _ _ y2) (jg (jF (z1 _ _ y1) (jg hq ji)) (jg hl22 ji))
  have c2H:Held G22 (clD ([],zy)) (.ref m5):=jF (z5 _ _ y5) (jg (jF (z4 _ _ y4) ji) (jg hq ji))
  have c3H:Held G22 (clD ([zy],last)) (.ref m7):=jF (z7 _ _ y7) (jg (jF (z6 _ _ y6) (jg hq ji)) (jg hl22 ji))
  have c4H:Held G22 (clD ([weak],last)) (.ref m10):=jF (z10 _ _ y10) (jg (jF (z9 _ _ y9) (jg hk22 ji)) (jg hl22 ji))
  have v1:∀ t∈last :: [zy],VW w0 w1 w2 t:=fun t ht=>by
   rcases List.mem_cons.mp ht with e | e
   ·rw [e];exact vlast
   ·rw [List.mem_singleton.mp e];exact jcK
  have v2:∀ t∈last :: [weak],VW w0 w1 w2 t:=fun t ht=>by
   rcases List.mem_cons.mp ht with e | e
   ·rw [e];exact vlast
   ·rw [List.mem_singleton.mp e];exact vwk
  have g1:∃ g∈[zy],g ∉ TB T mo∧g ∉ way:=⟨zy,List.mem_singleton.mpr rfl,fun z=>nst.1 (.inl z),nst.2⟩
  have g2:∃ g∈[weak],g ∉ TB T mo∧g ∉ way:=⟨weak,List.mem_singleton.mpr rfl,nwk⟩
  have nsl:zy≠last:=fun e=>nst.1 (by rw [e];exact zo.mpr (.inl (At0.inb _ hlo)))
  refine ⟨_,rfl,_,rfl,_,rfl,_,rfl,_,rfl,a,ns,9,3,rfl,jE s522 hS5,by decide,by decide,by decide,fun y y0 y1=>?_⟩
  obtain ⟨mz,X,xs,hy,emz,hX,hB2,hXl⟩:∃ (mz:Addr) (X:List Cla) (xs:List V),atI [V.ref m3,V.ref m8,V.ref m11] y=some (.ref mz)∧G22 mz=some (.lst xs)∧HeldL G22 (X.map clD) xs∧Bad w0 w1 w2 p ((TB T mo).filter fun t=>!decide (t.toD=last.toD)) (((CB C mo tm).filter fun c=>!decide (c.2.toD=last.toD))++X)∧X.length≤2:=by
   obtain ⟨n,rfl⟩:=Int.eq_ofNat_of_zero_le y0
   match n,y1 with
   | 0,_=>
    refine ⟨m3,[([zy],last)],_,rfl,z3 _ _ y3,jg c1H ji,je2 hWh At0 hlo (fun c hc=>?_) (by show 1≤2;decide) (j5 (l:=[]) List.nodup_nil (fun z=>by cases z)) (fun c hc z=>?_) (fun c hc _=>?_),by show 1≤2;decide⟩
    ·rw [List.mem_singleton.mp hc];exact ⟨v1,by show 1≤3;decide⟩
    ·rw [List.mem_singleton.mp hc] at z;exact z.2 rfl
    ·rw [List.mem_singleton.mp hc];exact g1
   | 1,_=>
    refine ⟨m8,[([],zy),([zy],last)],_,rfl,z8 _ _ y8,jg c2H (jg c3H ji),je2 hWh At0 hlo (fun c hc=>?_) (by show 2≤2;decide) (j5 (l:=[([],zy)]) (j5 (l:=[]) List.nodup_nil (fun z=>by cases z)) (fun z=>by have:=congrArg Prod.fst (List.mem_singleton.mp z);cases this)) (fun c hc z=>?_) (fun c hc e=>?_),by show 2≤2;decide⟩
    ·rcases List.mem_cons.mp hc with e | e
     ·rw [e];exact ⟨fun t ht=>by rw [List.mem_singleton.mp ht];exact jcK,by show 0≤3;decide⟩
     ·rw [List.mem_singleton.mp e];exact ⟨v1,by show 1≤3;decide⟩
    ·rcases List.mem_cons.mp hc with e | e
     ·rw [e] at z;exact nst.1 (.inr ⟨_,z.1,rfl⟩)
     ·rw [List.mem_singleton.mp e] at z;exact z.2 rfl
    ·rcases List.mem_cons.mp hc with e' | e'
     ·rw [e'] at e;exact absurd e nsl
     ·rw [List.mem_singleton.mp e'];exact g1
   | 2,_=>
    refine ⟨m11,[([weak],last)],_,rfl,z11 _ _ y11,jg c4H ji,je2 hWh At0 hlo (fun c hc=>?_) (by show 1≤2;decide) (j5 (l:=[]) List.nodup_nil (fun z=>by cases z)) (fun c hc z=>?_) (fun c hc _=>?_),by show 1≤2;decide⟩
    ·rw [List.mem_singleton.mp hc];exact ⟨v2,by show 1≤3;decide⟩
    ·rw [List.mem_singleton.mp hc] at z;exact z.2 rfl
    ·rw [List.mem_singleton.mp hc];exact g2
   | n+3,h=>exact absurd h (by omega)
  have hwl:=hW.length
  have hfl:((CB C mo tm).filter fun c=>!decide (c.2.toD=last.toD)).length≤(CB C mo tm).length:=List.length_filter_le _ _
  rw [List.length_map] at hwl
  have hxl:=hX.length
  rw [List.length_map] at hxl
  have z7':Same G7 G22:=s710.trans z0
  have z6':Same G6 G22:=s7.trans z7'
  refine ⟨m12,_,_,_,rfl,rfl,SqL.of y12,hy,p2,mz,_,_,rfl,rfl,z7' _ _ e7,emz,zv (by omega),fun n1 hn1=>⟨sm rfl,fun n2 hn2=>⟨sm rfl,fun n3 hn3=>?_⟩⟩⟩
  have wa:=je hn1 (.lst (ws++xs))
  have f1:upd G22 n1 (.lst (ws++xs)) n1=some (.lst (ws++xs)):=jd
  generalize upd G22 n1 (.lst (ws++xs))=G23 at *
  have wb:=je hn2 (.lst [V.ref p1,V.ref n1])
  have f2:upd G23 n2 (.lst [V.ref p1,V.ref n1]) n2=some (.lst [V.ref p1,V.ref n1]):=jd
  generalize upd G23 n2 (.lst [V.ref p1,V.ref n1])=G24 at *
  have wc:=je hn3 (.tup [v,V.ref n2])
  have f3:upd G24 n3 (.tup [v,V.ref n2]) n3=some (.tup [v,V.ref n2]):=jd
  generalize upd G24 n3 (.tup [v,V.ref n2])=G25 at *
  have w25:=wa.trans (wb.trans wc)
  refine q n3 v n2 p1 n1 _ _ p _ _ G25 (s5.trans (s522.trans w25)) f3 (hp5.mono (s522.trans w25)) (wc _ _ f2) ((z6'.trans w25) _ _ e6) (hZ.mono (z6'.trans w25)) ((wb.trans wc) _ _ f1) ?_ hB2
  rw [List.map_append]
  exact jJ (hW.mono (z7'.trans w25)) (hX.mono w25)
 refine ⟨_,rfl,_,_,rfl,rfl,_,rfl,j6 (fun c=>?_) (fun c3=>?_)⟩
 ·-- a tie is weaker
  refine ⟨_,rfl,_,rfl,_,rfl,po,ys,rfl,.inl (SqL.of e5),a,ns,3,(ys.length:Nat),rfl,hS5,by decide,by decide,by omega,fun z z0 z1=>?_⟩
  obtain ⟨z,rfl⟩:=Int.eq_ofNat_of_zero_le z0
  have hzo:z < os.length:=by omega
  obtain ⟨vl,hzl,hvl⟩:=hY5.get (j:=z) (d:=os[z].toD) (by rw [List.getElem?_map,List.getElem?_eq_getElem hzo];rfl)
  have hlo:os[z]∈os:=List.getElem_mem hzo
  generalize os[z]=last at *
  refine ⟨po,_,_,_,rfl,rfl,SqL.of e5,kI hzl,?_⟩
  refine gQ ?_
  obtain ⟨al,vx,vy,rfl,hal,hvx,hvy⟩:=kf hvl
  refine ⟨_,rfl,al,_,_,_,rfl,rfl,SqT.of hal,rfl,_,rfl,al,_,_,_,rfl,rfl,SqT.of hal,rfl,_,rfl,al,_,_,_,rfl,rfl,SqT.of hal,rfl,_,_,rfl,rfl,sm rfl,fun pf hpf=>?_⟩
  dsimp only
  obtain ⟨weak,hwk⟩:∃ u:Ti,u=⟨last.x,last.y,last.c+1⟩:=⟨_,rfl⟩
  have s7:=je hpf (.tup [vx,vy,V.int (last.c+1)])
  have hF:Held (upd G5 pf (.tup [vx,vy,V.int (last.c+1)])) weak.toD (.ref pf):=by
   rw [hwk]
   exact qw (t:=⟨last.x,last.y,last.c+1⟩) jd (hvx.mono s7) (hvy.mono s7)
  generalize upd G5 pf (.tup [vx,vy,V.int (last.c+1)])=G7 at *
  refine gQ ?_
  refine ⟨_,rfl,_,rfl,_,rfl,lr,rfl,⟨_,SqL.of (s7 _ _ er5)⟩,fun p2 hp2=>?_⟩
  refine KP (last:=last) (fresh:=weak) rfl rfl hp2 (s7 _ _ er5) (hR5.mono s7) (by omega) (hvl.mono s7) hF okts fun G8 ws s8 e8 hW=>?_
  have s58:=s7.trans s8
  refine ⟨v,i,p2,ws,repl last weak ts,p,rfl,hp5.mono s58,hWh.deep,by omega,e8,hW,fun vp G9 s9 hvp=>?_⟩
  have s59:=s58.trans s9
  refine ⟨_,rfl,sm rfl,fun p7 hp7=>?_⟩
  have s10:=je hp7 (.tup [vp,V.ref pb])
  have e10:upd G9 p7 (.tup [vp,V.ref pb]) p7=some (.tup [vp,V.ref pb]):=jd
  generalize upd G9 p7 (.tup [vp,V.ref pb])=G10 at *
  have s510:=s59.trans s10
  exact q p7 vp pb b0 b1 _ _ _ _ _ G10 (s5.trans s510) e10 (hvp.mono s10) (s510 _ _ B5.p) (s510 _ _ g05) (hT5.mono s510) (s510 _ _ g15) (hC5.mono s510) (jhg hWh At0 hlo hwk)
 unfold jaM
 dsimp only
 refine Yd (fun b=>b=true→2 < ts.length) (fun b hb=>?_) (fun kk=>?_)
 rotate_left
 ·refine ⟨_,rfl,rfl,_,rfl,j6 (fun c=>?_) (fun c=>kk false (fun z=>by cases z))⟩
  refine ⟨_,rfl,lr,_,rfl,.inl (SqL.of er5),_,_,rfl,rfl,_,rfl,kk _ (fun z=>?_)⟩
  have:=of_decide_eq_true z
  omega
 cases b with
 | true=>
  refine zm ?_
  have hb:=hb rfl
  obtain ⟨t0,t1,tq,rfl⟩:=jcF hb
  obtain ⟨v0,xr1,rfl,hv0,hR6⟩:=jA (show HeldL G5 (t0.toD :: tsD (t1 :: tq)) xr from hR5)
  obtain ⟨v1,xr2,rfl,hv1,hR7⟩:=jA (show HeldL G5 (t1.toD :: tsD tq) xr1 from hR6)
  have hx2:=hR7.length
  rw [List.length_map] at hx2
  have at1:atI (v0 :: v1 :: xr2) 1=some v1:=kI (j:=1) rfl
  have at0:atI (v0 :: v1 :: xr2) 0=some v0:=kI (j:=0) rfl
  refine ⟨_,rfl,_,rfl,_,rfl,lr,_,_,_,rfl,rfl,SqL.of er5,at1,_,rfl,lr,_,_,_,rfl,rfl,SqL.of er5,at0,sm rfl,fun p1 hp1=>?_⟩
  have s6:=je hp1 (.lst [v1,v0])
  have e6:upd G5 p1 (.lst [v1,v0]) p1=some (.lst [v1,v0]):=jd
  generalize upd G5 p1 (.lst [v1,v0])=G6 at *
  refine ⟨_,rfl,_,rfl,lr,_,rfl,SqL.of (s6 _ _ er5),fun p2 hp2=>?_⟩
  rw [show qG (v0 :: v1 :: xr2) (some 2) none=xr2 from jg2 _ _ _]
  have s7:=je hp2 (.lst xr2)
  have e7:upd G6 p2 (.lst xr2) p2=some (.lst xr2):=jd
  generalize upd G6 p2 (.lst xr2)=G7 at *
  simp only [List.length_cons] at hrl hb
  refine ⟨p1,p2,_,_,rfl,rfl,s7 _ _ e6,e7,zv (by simp only [List.length_cons,List.length_nil];omega),fun p3 hp3=>?_⟩
  have s8:=je hp3 (.lst ([v1,v0]++xr2))
  have e8:upd G7 p3 (.lst ([v1,v0]++xr2)) p3=some (.lst ([v1,v0]++xr2)):=jd
  generalize upd G7 p3 (.lst ([v1,v0]++xr2))=G8 at *
  have s58:=s6.trans (s7.trans s8)
  refine ⟨v,i,p3,_,t1 :: t0 :: tq,p,rfl,hp5.mono s58,hWh.deep,by omega,e8,jg (hv1.mono s58) (jg (hv0.mono s58) (hR7.mono s58)),fun vp G9 s9 hvp=>?_⟩
  have s59:=s58.trans s9
  refine ⟨_,rfl,sm rfl,fun p7 hp7=>?_⟩
  have s10:=je hp7 (.tup [vp,V.ref pb])
  have e10:upd G9 p7 (.tup [vp,V.ref pb]) p7=some (.tup [vp,V.ref pb]):=jd
  generalize upd G9 p7 (.tup [vp,V.ref pb])=G10 at *
  have s510:=s59.trans s10
  exact q p7 vp pb b0 b1 _ _ _ _ _ G10 (s5.trans s510) e10 (hvp.mono s10) (s510 _ _ B5.p) (s510 _ _ g05) (hT5.mono s510) (s510 _ _ g15) (hC5.mono s510) (jhj hWh At0 rfl (fun z=>by rw [z] at hb;simp at hb))
 | false=>
  refine Zx ?_
  unfold jaM
  dsimp only
  refine Yd (fun b=>b=true→∃ t x y,p=.split t x y) (fun b hb=>?_) (fun kk=>?_)
  rotate_left
  ·refine ⟨_,rfl,rfl,_,rfl,j6 (fun c=>?_) (fun c=>kk false (fun z=>by cases z))⟩
   cases p with
   | ring u=>
    obtain ⟨ap,l,zs,rfl,hap,_⟩:=hp5
    refine ⟨_,rfl,ap,_,_,_,rfl,rfl,SqT.of hap,rfl,rfl,_,rfl,kk _ (fun z=>?_)⟩
    exact absurd (of_decide_eq_true z) (by decide)
   | split t x y=>
    obtain ⟨ap,vt,vx,vy,rfl,hap,_⟩:=hp5
    exact ⟨_,rfl,ap,_,_,_,rfl,rfl,SqT.of hap,rfl,rfl,_,rfl,kk _ (fun _=>⟨t,x,y,rfl⟩)⟩
  cases b with
  | true=>
   refine zm ?_
   obtain ⟨t,x,y,rfl⟩:=hb rfl
   obtain ⟨ap,vt,vx,vy,rfl,hap,ht,hx,hy⟩:=hp5
   refine ⟨_,rfl,ap,_,_,_,rfl,rfl,SqT.of hap,rfl,_,rfl,ap,_,_,_,rfl,rfl,SqT.of hap,rfl,_,rfl,ap,_,_,_,rfl,rfl,SqT.of hap,rfl,sm rfl,fun p1 hp1=>?_⟩
   have s6:=je hp1 (.tup [V.str "split",vt,vy,vx])
   have e6:upd G5 p1 (.tup [V.str "split",vt,vy,vx]) p1=some (.tup [V.str "split",vt,vy,vx]):=jd
   generalize upd G5 p1 (.tup [V.str "split",vt,vy,vx])=G6 at *
   refine ⟨_,rfl,sm rfl,fun p7 hp7=>?_⟩
   have s7:=je hp7 (.tup [V.ref p1,V.ref pb])
   have e7:upd G6 p7 (.tup [V.ref p1,V.ref pb]) p7=some (.tup [V.ref p1,V.ref pb]):=jd
   generalize upd G6 p7 (.tup [V.ref p1,V.ref pb])=G7 at *
   have s57:=s6.trans s7
   exact q p7 (.ref p1) pb b0 b1 _ _ (.split t y x) _ _ G7 (s5.trans s57) e7 ⟨p1,vt,vy,vx,rfl,s7 _ _ e6,ht.mono s57,hy.mono s57,hx.mono s57⟩ (s57 _ _ B5.p) (s57 _ _ g05) (hT5.mono s57) (s57 _ _ g15) (hC5.mono s57) (jhi hWh)
  | false=>
   refine Zx ?_
   refine ⟨_,rfl,_,rfl,sm rfl,fun p1 hp1=>?_⟩
   have s6:=je hp1 (.lst [])
   have e6:upd G5 p1 (.lst []) p1=some (.lst []):=jd
   generalize upd G5 p1 (.lst [])=G6 at *
   refine ⟨v,i,p1,_,[],p,rfl,hp5.mono s6,hWh.deep,by omega,e6,ji,fun vp G7 s7 hvp=>⟨_,rfl,sm rfl,fun p7 hp7=>?_⟩⟩
   have s8:=je hp7 (.tup [vp,V.ref pb])
   have e8:upd G7 p7 (.tup [vp,V.ref pb]) p7=some (.tup [vp,V.ref pb]):=jd
   generalize upd G7 p7 (.tup [vp,V.ref pb])=G8 at *
   have s58:=s6.trans (s7.trans s8)
   exact q p7 vp pb b0 b1 _ _ _ _ _ G8 (s5.trans s58) e8 (hvp.mono s8) (s58 _ _ B5.p) (s58 _ _ g05) (hT5.mono s58) (s58 _ _ g15) (hC5.mono s58) (jhh hWh At0)
end
end LW
namespace L2
open PySem PySem.Spec PyProof.Rows
theorem LikeV.tup {K:W.Frag} {H:Hp} {n:Nat} {a b:Addr} {xs ys:List V} (ha:H a=some (.tup xs)) (hb:H b=some (.tup ys)) (hl:xs.length=ys.length) (h:∀ (j:Nat) x' y',xs[j]?=some x'→ys[j]?=some y'→LikeV K H n x' y'):LikeV K H (n+1) (.ref a) (.ref b):=.inr (.inl ⟨a,b,xs,ys,rfl,rfl,SqT.of ha,SqT.of hb,hl,h⟩)
theorem LikeV.lst {K:W.Frag} {H:Hp} {n:Nat} {a b:Addr} {xs ys:List V} (ha:H a=some (.lst xs)) (hb:H b=some (.lst ys)) (hl:xs.length=ys.length) (h:∀ (j:Nat) x' y',xs[j]?=some x'→ys[j]?=some y'→LikeV K H n x' y'):LikeV K H (n+1) (.ref a) (.ref b):=.inr (.inr ⟨a,b,xs,ys,rfl,rfl,SqL.of ha,SqL.of hb,hl,h⟩)
def LikeL (K:W.Frag) (H:Hp) (n:Nat) (xs ys:List V):Prop:=xs.length=ys.length∧∀ (j:Nat) x' y',xs[j]?=some x'→ys[j]?=some y'→LikeV K H n x' y'
theorem LikeL.nil {K:W.Frag} {H:Hp} {n:Nat}:LikeL K H n [] []:=⟨rfl,fun j x y h _=>by simp at h⟩
theorem LikeL.cons {K:W.Frag} {H:Hp} {n:Nat} {x y:V} {xs ys:List V} (h:LikeV K H n x y) (t:LikeL K H n xs ys):LikeL K H n (x :: xs) (y :: ys):=⟨by rw [List.length_cons,List.length_cons,t.1],fun j x' y' e1 e2=>by
 cases j with
 | zero=>simp at e1 e2;subst e1 e2;exact h
 | succ j=>exact t.2 j x' y' (by simpa using e1) (by simpa using e2)⟩
mutual
theorem jcm {K:W.Frag} {H:Hp}:∀ {n:Nat} {d:D} {x y:V},d.depth≤n→Held H d x→Held H d y→LikeV K H n x y
 | n,.int i,x,y,_,h,h'=>by unfold Held at h h';subst h h';exact Zs _ _
 | n,.str i,x,y,_,h,h'=>by unfold Held at h h';subst h h';exact Zr _ _
 | n,.tup ds,x,y,hn,h,h'=>by
  unfold Held at h h'
  obtain ⟨a,xs,rfl,ha,h1⟩:=h
  obtain ⟨b,ys,rfl,hb,h2⟩:=h'
  unfold D.depth at hn
  cases n with
  | zero=>omega
  | succ n=>
   have hl:=heldL_like (K:=K) (n:=n) (by omega) h1 h2
   exact LikeV.tup ha hb hl.1 hl.2
theorem heldL_like {K:W.Frag} {H:Hp}:∀ {n:Nat} {ds:List D} {xs ys:List V},D.depthL ds≤n→HeldL H ds xs→HeldL H ds ys→LikeL K H n xs ys
 | n,[],xs,ys,_,h,h'=>by unfold HeldL at h h';subst h h';exact .nil
 | n,d :: ds,xs,ys,hn,h,h'=>by
  unfold HeldL at h h'
  obtain ⟨v,r,rfl,e1,e2⟩:=h
  obtain ⟨v',r',rfl,e1',e2'⟩:=h'
  unfold D.depthL at hn
  exact .cons (jcm (by omega) e1 e1') (heldL_like (by omega) e2 e2')
end
section
variable {X:Cx}
theorem jeC (n:Nat) (hu:X.A.units+1+n < cLine):OpR X (compareOp .Eq) (fun x y H Q=>∃ a b xs ys,x=.ref a∧y=.ref b∧SqT X.K H a xs∧SqT X.K H b ys∧LikeL X.K H n xs ys∧Q (.bl true) H):=by
 intro pins s σ H x y v u Q I rx ry h
 obtain ⟨a,b,xs,ys,rfl,rfl,ha,hb,⟨hl,hj⟩,q⟩:=h
 cases rx;cases ry
 obtain ⟨its,rva,ta,_⟩:=I.tuple ha
 obtain ⟨its2,rvb,tb,_⟩:=I.tuple hb
 have l3:=rva.length
 have l4:=rvb.length
 have key:=SeqAt.RcAt.tuples (A:=X.A) (s:=s) (e:=fun _=>true) (show s.heap.IsTuple a its.toArray from ta) (show s.heap.IsTuple b its2.toArray from tb) (by omega) (K5 hl rva rvb fun j x' y' u' v' e1 e2 r1 r2=>zV I n X.A.in1 x' y' u' v' (by show X.A.units+1+n < cLine;exact hu) (hj j x' y' e1 e2) r1 r2)
 have e:((List.range (min its.toArray.size its2.toArray.size)).all (fun _=>true) && its.toArray.size == its2.toArray.size)=true:=by
  have:its.toArray.size=its2.toArray.size:=by simp;omega
  rw [this];simp
 rw [e] at key
 exact key X.prog X.w X.xe _ ⟨.bl true,H,I,rfl,q⟩
end
open PySem PySem.Spec PyProof.Rows PySem.W
theorem jfP {X:Cx}:OpR X (compareOp .Is) (fun x y H Q=>∃ i j,x=.bl i∧y=.bl j∧Q (.bl (i == j)) H):=by
 intro pins s σ H x y v u Q I rx ry h
 obtain ⟨i,j,rfl,rfl,q⟩:=h
 cases rx;cases ry
 refine wpAny_is_plain rfl ?_
 have e:(Value.bool i == Value.bool j)=(i == j):=by cases i <;> cases j <;> rfl
 rw [e]
 exact ⟨.bl (i == j),H,I,rfl,q⟩
theorem J7 {H:Hp}:∀ {ds:List D} {xs:List V},HeldL H ds xs→(∀ d∈ds,∃ es,d=.tup es)→∃ ps:List (D×Addr),ps.map (·.1)=ds∧xs=(ps.map (·.2)).map V.ref∧∀ q∈ps,Held H q.1 (.ref q.2)
 | [],xs,h,_=>by unfold HeldL at h;exact ⟨[],rfl,h,fun q hq=>by cases hq⟩
 | d :: ds,xs,h,ht=>by
  unfold HeldL at h
  obtain ⟨v,r,rfl,h1,h2⟩:=h
  obtain ⟨ps,e1,e2,h3⟩:=J7 h2 fun e he=>ht e (List.mem_cons_of_mem _ he)
  obtain ⟨es,rfl⟩:=ht d List.mem_cons_self
  have h1':=h1
  unfold Held at h1'
  obtain ⟨a,ys,rfl,_⟩:=h1'
  refine ⟨(.tup es,a) :: ps,by rw [List.map_cons,e1],by rw [e2];rfl,fun q hq=>?_⟩
  rcases List.mem_cons.mp hq with z | z
  ·rw [z];exact h1
  ·exact h3 q z
theorem JQ {H:Hp}:∀ {ps:List (D×Addr)},(∀ q∈ps,Held H q.1 (.ref q.2))→HeldL H (ps.map (·.1)) ((ps.map (·.2)).map V.ref)
 | [],_=>ji
 | q :: ps,h=>jg (h q List.mem_cons_self) (JQ fun r hr=>h r (List.mem_cons_of_mem _ hr))
structure Srt (H:Hp) (ds:List D) (ps:List (D×Addr)):Prop where
 e:ps.map (·.1)=ds
 h:∀ q∈ps,Held H q.1 (.ref q.2)∧q.1.depth≤8
 nd:(ps.map (·.1)).Nodup
 len:ps.length≤1000
 st:SortT (ps.map (·.1)) 8
theorem K9 {H:Hp} {xs:List V} {ds:List D} (hL:HeldL H ds xs) (nd:ds.Nodup) (hz:ds.length≤1000) (hS:SortT ds 8):∃ ps,Srt H ds ps∧xs=(ps.map (·.2)).map V.ref:=by
 obtain ⟨ps,e1,e2,h1⟩:=J7 hL hS.tup
 exact ⟨ps,⟨e1,fun r hr=>⟨h1 r hr,hS.dep r.1 (by rw [← e1];exact List.mem_map.mpr ⟨r,hr,rfl⟩)⟩,by rw [e1];exact nd,by rw [← e1,List.length_map] at hz;exact hz,by rw [e1];exact hS⟩,e2⟩
theorem Srt.held {H:Hp} {ds:List D} {ps:List (D×Addr)} (S:Srt H ds ps) {v:Addr} {o:HO} (hv:H v=none):∀ q∈ps,Held (upd H v o) q.1 (.ref q.2):=fun q hq=>(S.h q hq).1.mono (je hv o)
theorem Srt.out {H:Hp} {ds:List D} {ps qs:List (D×Addr)} {v l:Addr} {o:HO} (S:Srt H ds ps) (hv:H v=none) (hl:upd H v o l=none) (pm:qs.Perm ps):Same H (upd (upd H v o) l (.lst ((qs.map (·.2)).map V.ref)))∧upd (upd H v o) l (.lst ((qs.map (·.2)).map V.ref)) l=some (.lst ((qs.map (·.2)).map V.ref))∧HeldL (upd (upd H v o) l (.lst ((qs.map (·.2)).map V.ref))) (qs.map (·.1)) ((qs.map (·.2)).map V.ref)∧ds.Perm (qs.map (·.1)):=by
 have s1:=je hv o
 have s2:=je hl (.lst ((qs.map (·.2)).map V.ref))
 exact ⟨s1.trans s2,jd,(JQ fun r hr=>(S.h r (pm.mem_iff.mp hr)).1.mono (s1.trans s2)),by rw [← S.e];exact (pm.map _).symm⟩
end L2
namespace LW
open PySem L2
theorem YW {w0 w1 w2:Str} (W:Wds w0 w1 w2) {ts:List Ti} (h:∀ t∈ts,VW w0 w1 w2 t):SortT (tsD ts) 8:=by
 refine ⟨⟨fun d hd e he=>?_,fun d hd=>?_,fun d hd=>?_⟩,fun d hd=>?_⟩
 ·obtain ⟨t,ht,rfl⟩:=List.mem_map.mp hd
  obtain ⟨u,hu,rfl⟩:=List.mem_map.mp he
  exact jaJ (h t ht).x (h t ht).y (h u hu).x (h u hu).y
 ·obtain ⟨t,ht,rfl⟩:=List.mem_map.mp hd
  exact ((h t ht).ok W).dep
 ·obtain ⟨t,ht,rfl⟩:=List.mem_map.mp hd
  exact ⟨_,rfl⟩
 ·obtain ⟨t,ht,rfl⟩:=List.mem_map.mp hd
  obtain ⟨es,e⟩:=jfW (h t ht).x
  exact ⟨es,_,by unfold Ti.toD;rw [e]⟩
theorem Ya {w0 w1 w2:Str} (W:Wds w0 w1 w2) {C:List Cla} (h:∀ c∈C,∀ t∈c.2 :: c.1,VW w0 w1 w2 t):SortT (C.map clD) 8:=by
 have nd:∀ c∈C,∀ t∈c.2 :: c.1,NdD w0 w1 w2 t.x∧NdD w0 w1 w2 t.y:=fun c hc t ht=>⟨(h c hc t ht).x,(h c hc t ht).y⟩
 refine ⟨⟨fun d hd e he=>?_,fun d hd=>?_,fun d hd=>?_⟩,fun d hd=>?_⟩
 ·obtain ⟨t,ht,rfl⟩:=List.mem_map.mp hd
  obtain ⟨u,hu,rfl⟩:=List.mem_map.mp he
  exact jgi (nd t ht) (nd u hu)
 ·obtain ⟨c,hc,rfl⟩:=List.mem_map.mp hd
  have dp:∀ t∈c.2 :: c.1,t.toD.depth≤4:=fun t ht=>by
   have h1:=q5 (nd c hc t ht).1
   have h2:=q5 (nd c hc t ht).2
   unfold Ti.toD
   simp only [D.depth,D.depthL]
   omega
  have h1:=dp c.2 List.mem_cons_self
  have h2:D.depthL (tsD c.1)≤4:=qe fun d hd=>by
   obtain ⟨t,ht,rfl⟩:=List.mem_map.mp hd
   exact dp t (List.mem_cons_of_mem _ ht)
  unfold clD
  simp only [D.depth,D.depthL]
  omega
 ·obtain ⟨t,ht,rfl⟩:=List.mem_map.mp hd
  exact ⟨_,rfl⟩
 ·obtain ⟨t,ht,rfl⟩:=List.mem_map.mp hd
  exact ⟨_,_,rfl⟩
theorem jbx {c e:Cla} (h:clD c=clD e):c=e:=by
 unfold clD at h
 injection h with h
 injection h with h1 h
 injection h with h2 _
 injection h1 with h1
 have h3:∀ {l m:List Ti},tsD l=tsD m→l=m:=fun {l m} z=>by
  induction l generalizing m with
  | nil=>cases m with
   | nil=>rfl
   | cons a m=>cases z
  | cons b l ih=>cases m with
   | nil=>cases z
   | cons a m=>
    rw [show tsD (b :: l)=b.toD :: tsD l from rfl,show tsD (a :: m)=a.toD :: tsD m from rfl] at z
    injection z with z1 z2
    rw [Ti.toD_inj z1,ih z2]
 exact Prod.ext (h3 h1) (Ti.toD_inj h2)
abbrev JP:Stmt:=top 21
def jaS (K:W.Frag):Sp:=fun vs H Q _=>∃ (a:Addr) (ns:List Int),vs=[.ref a]∧SqL K H a (ns.map V.int)∧ns.length≤63∧∀ H',Q (.bl true) H'
theorem GrR.whole {w0 w1 w2:Str} (W:Wds w0 w1 w2) {thin:Bool} {d r2:Nat} {p:Pap} {T2:List Ti} {C2:List Cla} (G:GrR w0 w1 w2 thin d 0 [] [] [] p r2 T2 C2) (hd:d≤12) (hc:yS thin d≤14) {mo tm:Ti} (mx:mo.x=.tup [.str "own",.int 0]) (my:SrcD w0 w1 w2 mo.y) (mc:mo.c.natAbs≤10 ^ 16) (tx:tm.x=mo.y) (ty:tm.y=mo.x) (tc:tm.c.natAbs≤10 ^ 16):Whole w0 w1 w2 p r2 T2 C2 mo tm:=by
 refine ⟨W,G.lv,by have:=G.few;omega,G.ok,Nat.le_trans G.deep hd,G.tlen,fun t x y e=>?_,mx,my,mc,tx,ty,tc⟩
 obtain ⟨h1,h2,jG,ts,L,h3,h4⟩:=G.root t x y e
 refine ⟨_,by omega,h1,h2,jG,ts,L,h3,fun a ha z=>?_⟩
 obtain ⟨e,he,hx⟩:=h4 a ha
 have:=Yg (hx.symm.trans z)
 omega
theorem jcE:∀ {zs:List Str},zs.length=3→∃ w0 w1 w2,zs=[w0,w1,w2]
 | [w0,w1,w2],_=>⟨w0,w1,w2,rfl⟩
section
variable {P:Program} {w:World} {K:W.Frag} {mg:Str→Option Value} {base:Heap}
theorem zl {f1:Addr} {fd1:FuncData} (U1:Fun K "_law_leaves" "_law_leaves" qM f1 fd1) (b1:Binds K fd1 ["_law_paper"] []) (m1:mg "_law_leaves" = some (.ref f1)):∀ n,Fn P w K mg base (n+1) "_law_leaves" ["_law_paper"] (qX n)
 | 0=>Fn.mk' U1 b1 m1 (jac U1)
 | n+1=>Fn.mk' U1 b1 m1 (jb6 U1 (zl U1 b1 m1 n))
theorem yd {f1 f2:Addr} {fd1 fd2:FuncData} (U1:Fun K "_law_leaves" "_law_leaves" qM f1 fd1) (b1:Binds K fd1 ["_law_paper"] []) (m1:mg "_law_leaves" = some (.ref f1)) (U2:Fun K "_law_changed" "_law_changed" qx f2 fd2) (b2:Binds K fd2 ["_law_paper","_law_at","_law_ring"] []) (m2:mg "_law_changed" = some (.ref f2)) (B:Free0 mg):∀ n,Fn P w K mg base (n+1) "_law_changed" ["_law_paper","_law_at","_law_ring"] (qY n)
 | 0=>Fn.mk' U2 b2 m2 (Zf U2 B)
 | n+1=>Fn.mk' U2 b2 m2 (jaf U2 B (zl U1 b1 m1 n) (yd U1 b1 m1 U2 b2 m2 B n))
theorem Jn {f1:Addr} {fd1:FuncData} (U1:Fun K "_law_grown" "_law_grown" yh f1 fd1) (b1:Binds K fd1 ["_law_script","_law_n","_law_deep","_law_thin","_law_way","_law_book","_law_rings","_law_words"] []) (m1:mg "_law_grown" = some (.ref f1)) (B:Free0 mg) (F_pick:Fn P w K mg base 2 "_law_pick" ["_law_script","_law_k","_law_many"] (zf K)) (F_number:Fn P w K mg base 3 "_law_number" ["_law_script","_law_k"] (zE K)) (F_source:Fn P w K mg base 3 "_law_source" ["_law_script","_law_k","_law_words"] (yz K)) (F_leaf:Fn P w K mg base 4 "_law_leaf" ["_law_script","_law_n","_law_way","_law_book","_law_words"] (Z0 K)):∀ n,Fn P w K mg base (n+4) "_law_grown" ["_law_script","_law_n","_law_deep","_law_thin","_law_way","_law_book","_law_rings","_law_words"] (yA K n)
 | 0=>Fn.mk' U1 b1 m1 (jb8 (k:=3) U1)
 | n+1=>by
  have:=Fn.mk' U1 b1 m1 (jdo (k:=n+4) (by omega) U1 B F_pick F_number F_source F_leaf (Jn U1 b1 m1 B F_pick F_number F_source F_leaf n))
  rw [show n+4+1=n+1+4 by omega] at this
  exact this
theorem jfR {f:Addr} {fd:FuncData} (F:Fun K "law" "law" JP f fd) (B:Free0 mg) (F_cell:Fn P w K mg base 1 "_law_cell" ["_law_script","_law_k"] (yY K)) (F_pick:Fn P w K mg base 2 "_law_pick" ["_law_script","_law_k","_law_many"] (zf K)) (F_word:Fn P w K mg base 1 "_law_word" ["_law_cell_here","_law_mark"] jcP) (F_number:Fn P w K mg base 3 "_law_number" ["_law_script","_law_k"] (zE K)) (F_source:Fn P w K mg base 3 "_law_source" ["_law_script","_law_k","_law_words"] (yz K)) (F_grown:Fn P w K mg base 17 "_law_grown" ["_law_script","_law_n","_law_deep","_law_thin","_law_way","_law_book","_law_rings","_law_words"] (yA K 13)) (F_spoilt:Fn P w K mg base 14 "_law_spoilt" ["_law_script","_law_paper","_law_book"] (YY K)) (F_paper_holds:Fn P w K mg base 4 "paper_holds" ["book","paper"] jaR):FnOk P w K mg base CX0 18 f fd ["_law_script"] (jaS K):=by
 have sc:FnScope ["_law_script","_law_words","_law_book","_law_thin","_law_deep","_law_paper","_law_more","_law_spoilt_here","_law_other","_law_handed","_law_kept","_law_wrong"] ["_law_script"] (jk JP):=fQ
 refine F.okZ sc (fun vs H Q E h=>?_) (fun cdv A outer s H vs Q E hr h=>?_)
 ·obtain ⟨a,ns,rfl,_⟩:=h
  rfl
 obtain ⟨a,ns,rfl,hS,hn,q⟩:=h
 have hu9:(A.deeper (PyProof.Rows.envOfC "law" (jk JP) s.heap.objs.size f cdv)).units+1+12 < cLine:=by have:=hr.units;omega
 have huA:(A.deeper (PyProof.Rows.envOfC "law" (jk JP) s.heap.objs.size f cdv)).units+11 < cLine:=by have:=hr.units;omega
 have huB:(A.deeper (PyProof.Rows.envOfC "law" (jk JP) s.heap.objs.size f cdv)).units+3+8 < cLine:=by have:=hr.units;omega
 refine ⟨_,(jf (kg (i:=1) sc.nd rfl oQ ["_law_mark"] [0] rfl (jS (sc:=jk JP) (N:=["_law_script","_law_words","_law_book","_law_thin","_law_deep","_law_paper","_law_more","_law_spoilt_here","_law_other","_law_handed","_law_kept","_law_wrong"]) rfl rfl (by decide +kernel)) (yf (by rfl) B.range_ (ja jb jc)) (fun s H ex=>⟨(jt (i:=0) (show List.Nodup (["_law_mark","_law_script"]:List Str) by decide +kernel) rfl oQ),jV,(jw F_word hr (ja (jw F_cell hr (ja (zpv 1) (ja jb jc))) (ja (zpv 0) jc)))⟩))
   (jf (jp (i:=2) sc.nd rfl oQ (jC (ja (jC jc) (ja (jC jc) jc))))
   (jf (jp (i:=3) sc.nd rfl oQ (qt kR (jw F_pick hr (ja (zpv 0) (ja jb (ja jb jc)))) jb (jB _)))
   (jf (jp (i:=4) sc.nd rfl oQ (zO (yp (zpv 3)) jb (jw F_pick hr (ja (zpv 0) (ja jb (ja jb jc))))))
   (jf (jp (i:=5) sc.nd rfl oQ (jw F_grown hr (ja (zpv 0) (ja jb (ja (zpv 4) (ja (zpv 3) (ja (jC jc) (ja (zpv 2) (ja (jC jc) (ja (zpv 1) jc))))))))))
   (jf (jp (i:=6) sc.nd rfl oQ (jo (ja (jo (ja jL (ja jb jc))) (ja (jw F_source hr (ja (zpv 0) (ja jb (ja (zpv 1) jc)))) (ja (jw F_number hr (ja (zpv 0) (ja jb jc))) jc)))))
   (jf (jZ (kN PySem.F.plainAttrs_list PySem.F.slot_list_append PySem.F.type_list_append jO (jh jr (zpv 2) jb (fun _ _=>rfl)) (ja (zpv 6) jc)))
   (jf (jZ (kN PySem.F.plainAttrs_list PySem.F.slot_list_append PySem.F.type_list_append jO (jh jr (zpv 2) jb (fun _ _=>rfl)) (ja (jo (ja (jo (ja (zpv 6) jc)) (ja (jo (ja (jh jy (zpv 6) jb (fun _ _=>rfl)) (ja (jh jy (zpv 6) jb (fun _ _=>rfl)) (ja (jw F_number hr (ja (zpv 0) (ja jb jc))) jc)))) jc))) jc)))
   (jf (yr (jw F_spoilt hr (ja (zpv 0) (ja (zpv 5) (ja (zpv 2) jc)))) (yt rfl (jU (jt (i:=7) sc.nd rfl oQ) (jU (jt (i:=8) sc.nd rfl oQ) zB))))
   (jf (jp (i:=9) sc.nd rfl oQ (jo (ja (jM (kC (w:=w) (n:=8) rfl huB) (by rfl) B.sorted_ zZ (ja (ze (kW (w:=w) rfl huA) (by rfl) B.set_ Yz (ja (jh jr (zpv 2) jb (fun _ _=>rfl)) jc)) jc)) (ja (jM (kC (w:=w) (n:=8) rfl huB) (by rfl) B.sorted_ zZ (ja (ze (kW (w:=w) rfl huA) (by rfl) B.set_ Yz (ja (jh jr (zpv 2) jb (fun _ _=>rfl)) jc)) jc)) jc))))
   (jf (jp (i:=10) sc.nd rfl oQ (jo (ja (ze zt (by rfl) B.list_ YA (ja (jh jy (zpv 9) jb (fun _ _=>rfl)) jc)) (ja (ze zt (by rfl) B.list_ YA (ja (jh jy (zpv 9) jb (fun _ _=>rfl)) jc)) jc))))
   (jf (jp (i:=11) sc.nd rfl oQ (jo (ja (jM (kC (w:=w) (n:=8) rfl huB) (by rfl) B.sorted_ zZ (ja (ze (kW (w:=w) rfl huA) (by rfl) B.set_ Yz (ja (jh jr (zpv 8) jb (fun _ _=>rfl)) jc)) jc)) (ja (jM (kC (w:=w) (n:=8) rfl huB) (by rfl) B.sorted_ zZ (ja (ze (kW (w:=w) rfl huA) (by rfl) B.set_ Yz (ja (jh jr (zpv 8) jb (fun _ _=>rfl)) jc)) jc)) jc))))
   (jf (jN (yV (jq Ky (jw F_paper_holds hr (ja (zpv 9) (ja (zpv 5) jc))) qu (jB _)) (zM (jq Ky (jw F_paper_holds hr (ja (zpv 11) (ja (zpv 7) jc))) qu (jB _)))).pt (jl (ju qu)) jD)
   (jl (ju (K2 (qt jfP (jw F_paper_holds hr (ja (zpv 9) (ja (zpv 5) jc))) qu (jB _)) (K1 (qt (jeC 12 hu9) (zpv 9) (zpv 10) (jB _))))))))))))))))))),?_⟩
 refine kD (σ':=[some (.ref a),none,none,none,none,none,none,none,none,none,none,none]) rfl ?_
 try dsimp only [kZ]
 refine jf9 ?_
 intro _ _ _ _ _ _ _ _ _ _ _ _ _
 refine ⟨3,rfl,by omega,by omega,fun pw hpw=>?_⟩
 refine Kd (lo:=0) (n:=3) (fun i σ' G'=>∃ (u:Option V) (zs:List Str),σ'=[u,some (.ref a)]∧Same H G'∧G' pw=some (.lst (zs.map V.str))∧zs.length=i∧∀ z∈zs,WdOk z) ⟨none,[],rfl,je hpw _,jd,rfl,fun z hz=>by cases hz⟩ ?_ ?_
 ·rintro i σ' G' hi ⟨u,zs,rfl,sG',hG',hl,hW⟩
  unfold j4 yx
  refine zm ?_
  refine ⟨_,rfl,a,ns,0,rfl,jE sG' hS,by decide,by decide,fun c=>⟨_,rfl,c,0+(i:Int),rfl,by omega,by omega,fun x G2 s2 hx=>?_⟩⟩
  refine ⟨_,s2 _ _ hG',jx (by rw [List.length_map];omega),_,zs++[x],rfl,fun b o e=>?_,?_,by rw [List.length_append,hl];rfl,fun z hz=>?_⟩
  ·rw [jm (js e hpw)]
   exact s2 _ _ (sG' _ _ e)
  ·rw [jd,List.map_append];rfl
  ·rcases List.mem_append.mp hz with y | y
   ·exact hW z y
   ·rw [List.mem_singleton.mp y];exact hx
 rintro σ' H1 ⟨u,zs,rfl,s1,e1,hl,hW⟩
 obtain ⟨w0,w1,w2,rfl⟩:=jcE hl
 have W:Wds w0 w1 w2:=⟨hW _ List.mem_cons_self,hW _ (List.mem_cons_of_mem _ List.mem_cons_self),hW _ (List.mem_cons_of_mem _ (List.mem_cons_of_mem _ List.mem_cons_self))⟩
 have e1:H1 pw=some (.lst [.str w0,.str w1,.str w2]):=e1
 refine gQ ?_
 refine ⟨sm rfl,fun b0 hb0=>⟨sm rfl,fun b1 hb1=>⟨sm rfl,fun pb hpb=>?_⟩⟩⟩
 have s2:=je hb0 (.lst [])
 have e2:upd H1 b0 (.lst []) b0=some (.lst []):=jd
 generalize upd H1 b0 (.lst [])=H2 at *
 have s3:=je hb1 (.lst [])
 have e3:upd H2 b1 (.lst []) b1=some (.lst []):=jd
 generalize upd H2 b1 (.lst [])=H3 at *
 have s4:=je hpb (.lst [V.ref b0,V.ref b1])
 have e4:upd H3 pb (.lst [V.ref b0,V.ref b1]) pb=some (.lst [V.ref b0,V.ref b1]):=jd
 generalize upd H3 pb (.lst [V.ref b0,V.ref b1])=H4 at *
 have n01:b0≠b1:=fun z=>by rw [← z,e2] at hb1;cases hb1
 have np0:pb≠b0:=fun z=>by rw [z,s3 _ _ e2] at hpb;cases hpb
 have np1:pb≠b1:=fun z=>by rw [z,e3] at hpb;cases hpb
 have s14:=s1.trans (s2.trans (s3.trans s4))
 have B4:BkAt H4 pb b0 b1 [] []:=⟨e4,⟨[],s4 _ _ (s3 _ _ e2),ji⟩,⟨[],s4 _ _ e3,ji⟩,n01,np0,np1⟩
 have hHb0:H b0=none:=s1.free hb0
 have hHb1:H b1=none:=s1.free (s2.free hb1)
 have ew4:=(s2.trans (s3.trans s4)) _ _ e1
 refine gQ ?_
 refine ⟨_,rfl,a,ns,5,4,rfl,jE s14 hS,by decide,by decide,by decide,fun c c0 c1=>⟨rfl,?_⟩⟩
 generalize decide (V.int c=V.int 0)=thin
 refine gQ ?_
 dsimp only
 refine jbA (fun v=>∃ d:Nat,v=.int (d:Nat)∧d≤12∧yS thin d≤14) (fun v hv=>?_) (fun kk=>?_)
 rotate_left
 ·refine ⟨_,rfl,_,rfl,j6 (fun e=>kk _ ⟨12,rfl,by decide,?_⟩) (fun e=>?_)⟩
  ·unfold yS;rw [if_pos e];decide
  ·refine ⟨_,rfl,a,ns,4,4,rfl,jE s14 hS,by decide,by decide,by decide,fun c2 c20 c21=>kk _ ⟨c2.toNat,by rw [show ((c2.toNat:Nat):Int)=c2 by omega],by omega,?_⟩⟩
   unfold yS
   rw [if_neg e]
   exact Nat.le_trans (Nat.pow_le_pow_right (by decide) (show c2.toNat≤3 by omega)) (by decide)
 obtain ⟨d,rfl,hd,hcap⟩:=hv
 refine gQ ?_
 refine ⟨_,rfl,_,rfl,_,rfl,sm rfl,fun wl hwl=>?_⟩
 have s5:=je hwl (.lst [])
 have e5:upd H4 wl (.lst []) wl=some (.lst []):=jd
 generalize upd H4 wl (.lst [])=H5 at *
 refine ⟨_,rfl,sm rfl,fun rl hrl=>?_⟩
 have s6:=je hrl (.lst [])
 have e6:upd H5 rl (.lst []) rl=some (.lst []):=jd
 generalize upd H5 rl (.lst [])=H6 at *
 have s16:=s14.trans (s5.trans s6)
 have B5:=B4.mono s5
 have B6:=B5.mono s6
 have nw:=B4.ne hwl
 have nr:=B5.ne hrl
 have nwr:wl≠rl:=fun z=>by rw [← z,e5] at hrl;cases hrl
 have npw:=B4.mono (fun _ _ e=>e)
 have hHrl:H rl=none:=s14.free (s5.free hrl)
 have nwd:pw≠b0∧pw≠b1∧pw≠rl:=⟨fun z=>(by rw [← z,e1] at hb0;cases hb0),fun z=>(by rw [← z,s2 _ _ e1] at hb1;cases hb1),fun z=>(by rw [← z,s5 _ _ ew4] at hrl;cases hrl)⟩
 have hpow:(0+2) * 2 ^ d≤16384:=Nat.le_trans (Nat.mul_le_mul_left _ (Nat.pow_le_pow_right (by decide) hd)) (by decide)
 refine ⟨_,rfl,a,wl,pb,b0,b1,rl,pw,thin,ns,0,d,[],[],[],[],[],w0,w1,w2,rfl,jE s16 hS,⟨H,hS,s16,hHb0,hHb1,hHrl⟩,by omega,hpow,s6 _ _ e5,ji,⟨nw.2.1,nw.2.2,nwr⟩,by show 0+d≤12;omega,(fun t ht=>by cases ht),B6,e6,nr,Nat.zero_le _,by show 0+yS thin d≤14;omega,(s5.trans s6) _ _ ew4,nwd,fun vp p T C us2 H7 s7 er B7 pn G=>?_⟩
 have hO:Scr K H7 a (ns.map V.int) b0 b1 rl:=Scr.s3 ⟨H,hS,s16,hHb0,hHb1,hHrl⟩ s7
 have ew7:H7 pw=some (.lst [.str w0,.str w1,.str w2]):=s7 _ _ nwd.1 nwd.2.1 nwd.2.2 ((s5.trans s6) _ _ ew4)
 refine gQ ?_
 refine ⟨sm rfl,fun po hpo=>?_⟩
 have s8:=je hpo (.tup [V.str "own",V.int 0])
 have e8:upd H7 po (.tup [V.str "own",V.int 0]) po=some (.tup [V.str "own",V.int 0]):=jd
 generalize upd H7 po (.tup [V.str "own",V.int 0])=H8 at *
 have ho:Held H8 (.tup [.str "own",.int 0]) (.ref po):=jF e8 (jg j8 (jg j3 ji))
 have hO8:=hO.s3 (S3.of s8)
 refine ⟨_,rfl,_,rfl,a,pw,ns,6,w0,w1,w2,rfl,hO8.sq,by decide,by decide,s8 _ _ ew7,fun vs D' H9 s9 hv hsrc=>?_⟩
 have hO9:=hO8.s3 (S3.of s9)
 refine ⟨_,rfl,a,ns,7,rfl,hO9.sq,by decide,by decide,fun c2 c20 c21=>⟨sm rfl,fun pm hpm=>?_⟩⟩
 have sa:=je hpm (.tup [V.ref po,vs,V.int c2])
 have ea:upd H9 pm (.tup [V.ref po,vs,V.int c2]) pm=some (.tup [V.ref po,vs,V.int c2]):=jd
 generalize upd H9 pm (.tup [V.ref po,vs,V.int c2])=Ha at *
 obtain ⟨mo,hmo⟩:∃ u:Ti,u=⟨.tup [.str "own",.int 0],D',c2⟩:=⟨_,rfl⟩
 have hM:Held Ha mo.toD (.ref pm):=by rw [hmo];exact qw (t:=⟨.tup [.str "own",.int 0],D',c2⟩) ea (ho.mono (s9.trans sa)) (hv.mono sa)
 have s7a:=s8.trans (s9.trans sa)
 have Ba:=B7.mono s7a
 have hOa:=hO.s3 (S3.of s7a)
 have pna:PapN (fun l=>l≠b0∧l≠b1∧l≠rl) Ha p vp:=pn.keep (TK.same s7a) fun l o _ e=>s7a _ _ e
 have tl:=G.tlen
 have fw:=G.few
 refine gQ ?_
 obtain ⟨x0,g0,h0⟩:=Ba.h0
 have l0:=h0.length
 rw [List.length_map] at l0
 have fw':us2.length≤14:=Nat.le_trans fw (by show 0+yS thin d≤14;omega)
 refine ⟨_,rfl,pb,_,_,_,rfl,rfl,SqL.of Ba.p,rfl,.inl ⟨rfl,_,SqL.of g0⟩,_,rfl,b0,x0,_,rfl,rfl,g0,jx (by omega),?_⟩
 obtain ⟨Bb,sbb⟩:=Ba.add0 (t:=mo) g0 hM
 have tkb:=sbb.tk Ba
 have eab:=tkb _ _ ea
 have hMb:=tkb.held hM
 have hOb:=hOa.s3 (S3.sb sbb)
 have pnb:=pna.keep tkb fun l o hl e=>sbb _ _ hl.1 hl.2.1 e
 have hvb:Held (upd Ha b0 (.lst (x0++[V.ref pm]))) D' vs:=tkb.held (hv.mono sa)
 have hob:=tkb.held (ho.mono (s9.trans sa))
 generalize upd Ha b0 (.lst (x0++[V.ref pm]))=Hb at *
 obtain ⟨x1,g1,h1⟩:=Bb.h1
 have l1:=h1.length
 rw [List.length_map] at l1
 refine ⟨_,rfl,pb,_,_,_,rfl,rfl,SqL.of Bb.p,rfl,.inl ⟨rfl,_,SqL.of g1⟩,_,rfl,sm rfl,fun r1 hr1=>?_⟩
 have sc1:=je hr1 (.tup [V.ref pm])
 have ec:upd Hb r1 (.tup [V.ref pm]) r1=some (.tup [V.ref pm]):=jd
 generalize upd Hb r1 (.tup [V.ref pm])=Hc at *
 refine ⟨_,rfl,pm,_,_,_,rfl,rfl,SqT.of (sc1 _ _ eab),rfl,_,rfl,pm,_,_,_,rfl,rfl,SqT.of (sc1 _ _ eab),rfl,_,rfl,a,ns,8,rfl,(hOb.s3 (S3.of sc1)).sq,by decide,by decide,fun c3 c30 c31=>⟨sm rfl,fun r2 hr2=>?_⟩⟩
 have sd:=je hr2 (.tup [vs,V.ref po,V.int c3])
 have ed:upd Hc r2 (.tup [vs,V.ref po,V.int c3]) r2=some (.tup [vs,V.ref po,V.int c3]):=jd
 generalize upd Hc r2 (.tup [vs,V.ref po,V.int c3])=Hd at *
 obtain ⟨tm,htm⟩:∃ u:Ti,u=⟨D',.tup [.str "own",.int 0],c3⟩:=⟨_,rfl⟩
 have hTm:Held Hd tm.toD (.ref r2):=by rw [htm];exact qw (t:=⟨D',.tup [.str "own",.int 0],c3⟩) ed (hvb.mono (sc1.trans sd)) (hob.mono (sc1.trans sd))
 refine ⟨sm rfl,fun r3 hr3=>?_⟩
 have se:=je hr3 (.tup [V.ref r1,V.ref r2])
 have ee:upd Hd r3 (.tup [V.ref r1,V.ref r2]) r3=some (.tup [V.ref r1,V.ref r2]):=jd
 generalize upd Hd r3 (.tup [V.ref r1,V.ref r2])=He at *
 have sbe:=sc1.trans (sd.trans se)
 have hCl:Held He (clD ([mo],tm)) (.ref r3):=jF ee (jg (jF ((sd.trans se) _ _ ec) (jg (hMb.mono sbe) ji)) (jg (hTm.mono se) ji))
 have Be:=Bb.mono sbe
 refine ⟨b1,x1,_,rfl,rfl,sbe _ _ g1,jx (by omega),?_⟩
 obtain ⟨Bf,sbf⟩:=Be.add1 (c:=([mo],tm)) (sbe _ _ g1) hCl
 have hOf:=(hOb.s3 (S3.of sbe)).s3 (S3.sb sbf)
 have pne:PapN (fun l=>l≠b0∧l≠b1∧l≠rl) He p vp:=pnb.keep (TK.same sbe) fun l o _ e=>sbe _ _ e
 have pnf:=pne.keep (sbf.tk Be) fun l o hl e=>sbf _ _ hl.1 hl.2.1 e
 have hpf:=pnf.at
 generalize upd He b1 (.lst (x1++[V.ref r3]))=Hf at *
 have hWh:Whole w0 w1 w2 p us2.length T C mo tm:=G.whole W hd hcap (by rw [hmo]) (by rw [hmo];exact hsrc) (by rw [hmo];show c2.natAbs≤_;omega) (by rw [htm,hmo]) (by rw [htm,hmo]) (by rw [htm];show c3.natAbs≤_;omega)
 refine ⟨_,rfl,_,rfl,_,rfl,a,pb,b0,b1,vp,ns,p,us2.length,T,C,mo,tm,w0,w1,w2,rfl,hOf.sq,hpf,Bf,hWh,fun pt vq po2 l0' l1' y0 y1 p' T' C' Hg sg et hp' epo ey0 hy0 ey1 hy1 hbad=>?_⟩
 have Bg:=Bf.mono sg
 have hpg:=hpf.mono sg
 refine ⟨pt,_,rfl,SqT.of et,rfl,_,_,rfl,_,_,rfl,rfl,?_⟩
 refine kD (σ':=[some (.ref a),some (.ref pw),some (.ref pb),some (.bl thin),some (.int (d:Nat)),some vp,some (.ref pm),some vq,some (.ref po2),none,none,none]) rfl ?_
 have tv:∀ t∈TB T mo,VW w0 w1 w2 t:=fun t ht=>(qV hWh (.inl ht)).vw
 have cv:∀ c∈CB C mo tm,∀ t∈c.2 :: c.1,VW w0 w1 w2 t:=fun c hc=>(hWh.cb hc).1
 have hlen:=hWh.len
 have hz0:(tsD (TB T mo)).length≤1000:=by rw [List.length_map];exact Nat.le_trans hlen.1 (by decide)
 have hz1:((CB C mo tm).map clD).length≤1000:=by rw [List.length_map];exact Nat.le_trans hlen.2 (by decide)
 have hz2:(tsD T').length≤1000:=by rw [List.length_map];exact Nat.le_trans hbad.tz (by decide)
 have hz3:(C'.map clD).length≤1000:=by rw [List.length_map];exact Nat.le_trans hbad.cz (by decide)
 obtain ⟨z0,k0,j0⟩:=Bg.h0
 obtain ⟨z1,k1,j1⟩:=Bg.h1
 obtain ⟨ps0,S0,rfl⟩:=K9 j0 (qp (fun _ _ e=>Ti.toD_inj e) hWh.tbnd) hz0 (YW W tv)
 refine ⟨_,rfl,pb,_,_,_,rfl,rfl,SqL.of Bg.p,rfl,?_⟩
 refine ⟨b0,ps0,rfl,SqL.of k0,S0.h,S0.nd,S0.len,fun v0 hv0=>⟨v0,ps0,rfl,jd,S0.held hv0,S0.st,S0.len,fun l2 qs0 hl0 pq0 _=>?_⟩⟩
 obtain ⟨sh,el2,hy2,pm0⟩:=S0.out hv0 hl0 pq0
 generalize (qs0.map (·.2)).map V.ref=ys at *
 generalize qs0.map (·.1)=ds0 at *
 generalize upd (upd Hg v0 _) l2 (.lst ys)=Hh at *
 obtain ⟨ts2,pm2,rfl⟩:=qo (f:=Ti.toD) pm0 rfl
 obtain ⟨ps1,S1,rfl⟩:=K9 (j1.mono sh) (qp (fun _ _ e=>jbx e) hWh.cbnd) hz1 (Ya W cv)
 refine ⟨_,rfl,pb,_,_,_,rfl,rfl,SqL.of (sh _ _ Bg.p),rfl,?_⟩
 refine ⟨b1,ps1,rfl,SqL.of (sh _ _ k1),S1.h,S1.nd,S1.len,fun v1 hv1=>⟨v1,ps1,rfl,jd,S1.held hv1,S1.st,S1.len,fun l3 qs1 hl1 pq1 _=>?_⟩⟩
 obtain ⟨si,el3,hy3,pm1⟩:=S1.out hv1 hl1 pq1
 generalize (qs1.map (·.2)).map V.ref=zs at *
 generalize qs1.map (·.1)=ds1 at *
 generalize upd (upd Hh v1 _) l3 (.lst zs)=Hi at *
 obtain ⟨cl2,pm3,rfl⟩:=qo (f:=clD) pm1 rfl
 refine ⟨sm rfl,fun ph hph=>?_⟩
 have sj:=je hph (.tup [V.ref l2,V.ref l3])
 have ej:upd Hi ph (.tup [V.ref l2,V.ref l3]) ph=some (.tup [V.ref l2,V.ref l3]):=jd
 generalize upd Hi ph (.tup [V.ref l2,V.ref l3])=Hj at *
 have el2j:=sj _ _ (si _ _ el2)
 have el3j:=sj _ _ el3
 have hy2j:=hy2.mono (si.trans sj)
 have hy3j:=hy3.mono sj
 refine gQ ?_
 refine ⟨_,rfl,ph,_,_,_,rfl,rfl,SqT.of ej,rfl,l2,ys,rfl,.inl (SqL.of el2j),fun q1 hq1=>?_⟩
 have sk:=je hq1 (.lst ys)
 have ek:upd Hj q1 (.lst ys) q1=some (.lst ys):=jd
 generalize upd Hj q1 (.lst ys)=Hk at *
 refine ⟨_,rfl,ph,_,_,_,rfl,rfl,SqT.of (sk _ _ ej),rfl,l3,zs,rfl,.inl (SqL.of (sk _ _ el3j)),fun q2 hq2=>?_⟩
 have sl:=je hq2 (.lst zs)
 have eq2:upd Hk q2 (.lst zs) q2=some (.lst zs):=jd
 generalize upd Hk q2 (.lst zs)=Hl at *
 refine ⟨sm rfl,fun q3 hq3=>?_⟩
 have sM:=je hq3 (.tup [V.ref q1,V.ref q2])
 have em:upd Hl q3 (.tup [V.ref q1,V.ref q2]) q3=some (.tup [V.ref q1,V.ref q2]):=jd
 generalize upd Hl q3 (.tup [V.ref q1,V.ref q2])=Hm at *
 have sjm:=sk.trans (sl.trans sM)
 refine gQ ?_
 have shm:=sh.trans (si.trans (sj.trans sjm))
 obtain ⟨ps2,S2,rfl⟩:=K9 (hy0.mono shm) (qp (fun _ _ e=>Ti.toD_inj e) hbad.tnd) hz2 (YW W hbad.tv)
 refine ⟨_,rfl,po2,_,_,_,rfl,rfl,SqL.of (shm _ _ epo),rfl,?_⟩
 refine ⟨l0',ps2,rfl,SqL.of (shm _ _ ey0),S2.h,S2.nd,S2.len,fun v2 hv2=>⟨v2,ps2,rfl,jd,S2.held hv2,S2.st,S2.len,fun l4 qs2 hl2 pq2 _=>?_⟩⟩
 obtain ⟨sn,el4,hy4,pm4⟩:=S2.out hv2 hl2 pq2
 generalize (qs2.map (·.2)).map V.ref=xs4 at *
 generalize qs2.map (·.1)=ds2 at *
 generalize upd (upd Hm v2 _) l4 (.lst xs4)=Hn at *
 obtain ⟨ts4,pm5,rfl⟩:=qo (f:=Ti.toD) pm4 rfl
 have shn:=shm.trans sn
 obtain ⟨ps3,S3,rfl⟩:=K9 (hy1.mono shn) (qp (fun _ _ e=>jbx e) hbad.cnd) hz3 (Ya W hbad.cv)
 refine ⟨_,rfl,po2,_,_,_,rfl,rfl,SqL.of (shn _ _ epo),rfl,?_⟩
 refine ⟨l1',ps3,rfl,SqL.of (shn _ _ ey1),S3.h,S3.nd,S3.len,fun v3 hv3=>⟨v3,ps3,rfl,jd,S3.held hv3,S3.st,S3.len,fun l5 qs3 hl3 pq3 _=>?_⟩⟩
 obtain ⟨so,el5,hy5,pm6⟩:=S3.out hv3 hl3 pq3
 generalize (qs3.map (·.2)).map V.ref=xs5 at *
 generalize qs3.map (·.1)=ds3 at *
 generalize upd (upd Hn v3 _) l5 (.lst xs5)=Ho at *
 obtain ⟨cl4,pm7,rfl⟩:=qo (f:=clD) pm6 rfl
 refine ⟨sm rfl,fun p4 hp4=>?_⟩
 have sp:=je hp4 (.tup [V.ref l4,V.ref l5])
 have ep:upd Ho p4 (.tup [V.ref l4,V.ref l5]) p4=some (.tup [V.ref l4,V.ref l5]):=jd
 generalize upd Ho p4 (.tup [V.ref l4,V.ref l5])=Hp at *
 have smp:=sn.trans (so.trans sp)
 have sjp:=sjm.trans smp
 have shp:=shm.trans smp
 have ok2:∀ t∈ts2,TiOk t:=fun t ht=>(tv t (pm2.mem_iff.mp ht)).ok W
 have okc2:∀ c∈cl2,ClaOk c:=fun c hc=>by
  have hc:=pm3.mem_iff.mp hc
  exact ⟨fun g hg=>(cv c hc g (List.mem_cons_of_mem _ hg)).ok W,(cv c hc c.2 List.mem_cons_self).ok W,Nat.le_trans (hWh.cb hc).2 (by decide)⟩
 have ok4:∀ t∈ts4,TiOk t:=fun t ht=>(hbad.tv t (pm5.mem_iff.mp ht)).ok W
 have okc4:∀ c∈cl4,ClaOk c:=fun c hc=>by
  have hc:=pm7.mem_iff.mp hc
  exact ⟨fun g hg=>(hbad.cv c hc g (List.mem_cons_of_mem _ hg)).ok W,(hbad.cv c hc c.2 List.mem_cons_self).ok W,Nat.le_trans (hbad.cl c hc) (by decide)⟩
 have pok:=hWh.ok.ok W
 have good:zG (ts2.map Ti.key) (cl2.map clK) [] p=true:=(Jy ok2 okc2 (w:=[]) (fun u hu=>by cases hu) pok).mpr ((Kx (fun t=>pm2.mem_iff) (fun c=>pm3.mem_iff)).mpr hWh.holds)
 have evil:zG (ts4.map Ti.key) (cl4.map clK) [] p'=false:=by
  cases hb:zG (ts4.map Ti.key) (cl4.map clK) [] p' with
  | false=>rfl
  | true=>exact absurd ((Kx (fun t=>pm5.mem_iff) (fun c=>pm7.mem_iff)).mp ((Jy ok4 okc4 (w:=[]) (fun u hu=>by cases hu) hbad.ok).mp hb)) hbad.no
 have n2:ts2.length≤900:=by rw [pm2.length_eq];exact Nat.le_trans hlen.1 (by decide)
 have n3:cl2.length≤900:=by rw [pm3.length_eq];exact Nat.le_trans hlen.2 (by decide)
 have n4:ts4.length≤900:=by rw [pm5.length_eq];exact hbad.tz
 have n5:cl4.length≤900:=by rw [pm7.length_eq];exact hbad.cz
 have hdp:=hWh.deep
 have hdp':=hbad.deep
 have ejp:=sjp _ _ ej
 have el2p:=sjp _ _ el2j
 have el3p:=sjp _ _ el3j
 have hy2p:=hy2j.mono sjp
 have hy3p:=hy3j.mono sjp
 have hpp:=hpg.mono shp
 have emp:=smp _ _ em
 have ekp:=((sl.trans sM).trans smp) _ _ ek
 have eq2p:=(sM.trans smp) _ _ eq2
 refine gQ ?_
 refine ⟨_,rfl,_,rfl,ph,l2,l3,vp,_,_,ts2,cl2,p,rfl,ejp,el2p,hy2p,el3p,hy3p,n2,n3,ok2,okc2,hpp,pok,by omega,fun Hq sq=>?_⟩
 rw [good]
 refine ⟨_,_,rfl,rfl,_,rfl,j6 (fun c=>absurd c (by decide)) (fun _=>?_)⟩
 refine ⟨_,rfl,_,rfl,p4,l4,l5,vq,_,_,ts4,cl4,p',rfl,sq _ _ ep,sq _ _ (sp _ _ (so _ _ el4)),hy4.mono (so.trans (sp.trans sq)),sq _ _ (sp _ _ el5),hy5.mono (sp.trans sq),n4,n5,ok4,okc4,hp'.mono (shp.trans sq),hbad.ok,by omega,fun Hr sr=>?_⟩
 rw [evil]
 refine ⟨_,_,rfl,rfl,_,rfl,j6 (fun c=>absurd c (by decide)) (fun _=>?_)⟩
 have sqr:=sq.trans sr
 refine ⟨_,rfl,_,rfl,ph,l2,l3,vp,_,_,ts2,cl2,p,rfl,sqr _ _ ejp,sqr _ _ el2p,hy2p.mono sqr,sqr _ _ el3p,hy3p.mono sqr,n2,n3,ok2,okc2,hpp.mono sqr,pok,by omega,fun Hs ss=>?_⟩
 rw [good]
 have sps:=sqr.trans ss
 refine ⟨_,_,rfl,rfl,_,rfl,zm ?_⟩
 have hl1:D.depthL (tsD ts2)≤11:=qe fun d hd=>by
  obtain ⟨t,ht,rfl⟩:=List.mem_map.mp hd
  exact Nat.le_trans (ok2 t ht).dep (by decide)
 have hl2:D.depthL (cl2.map clD)≤11:=qe fun d hd=>by
  have:=(Ya W cv).dep d (pm1.mem_iff.mpr hd)
  omega
 exact ⟨_,rfl,_,rfl,ph,q3,_,_,rfl,rfl,SqT.of (sps _ _ ejp),SqT.of (sps _ _ emp),.cons (LikeV.lst (n:=11) (sps _ _ el2p) (sps _ _ ekp) rfl (heldL_like hl1 (hy2p.mono sps) (hy2p.mono sps)).2) (.cons (LikeV.lst (n:=11) (sps _ _ el3p) (sps _ _ eq2p) rfl (heldL_like hl2 (hy3p.mono sps) (hy3p.mono sps)).2) .nil),q _⟩
end
theorem el0 {P:List Value→Prop} (h:P []):∀ us:List Value,us.length=0→P us
 | [],_=>h
theorem el1 {P:List Value→Prop} (h:∀ a0,P [a0]):∀ us:List Value,us.length=1→P us
 | a :: v,e=>el0 (P:=fun v=>P (a :: v)) (h a) v (Nat.succ.inj e)
theorem el2 {P:List Value→Prop} (h:∀ a0 a1,P [a0,a1]):∀ us:List Value,us.length=2→P us
 | a :: v,e=>el1 (P:=fun v=>P (a :: v)) (h a) v (Nat.succ.inj e)
theorem el3 {P:List Value→Prop} (h:∀ a0 a1 a2,P [a0,a1,a2]):∀ us:List Value,us.length=3→P us
 | a :: v,e=>el2 (P:=fun v=>P (a :: v)) (h a) v (Nat.succ.inj e)
theorem el4 {P:List Value→Prop} (h:∀ a0 a1 a2 a3,P [a0,a1,a2,a3]):∀ us:List Value,us.length=4→P us
 | a :: v,e=>el3 (P:=fun v=>P (a :: v)) (h a) v (Nat.succ.inj e)
theorem el5 {P:List Value→Prop} (h:∀ a0 a1 a2 a3 a4,P [a0,a1,a2,a3,a4]):∀ us:List Value,us.length=5→P us
 | a :: v,e=>el4 (P:=fun v=>P (a :: v)) (h a) v (Nat.succ.inj e)
theorem el6 {P:List Value→Prop} (h:∀ a0 a1 a2 a3 a4 a5,P [a0,a1,a2,a3,a4,a5]):∀ us:List Value,us.length=6→P us
 | a :: v,e=>el5 (P:=fun v=>P (a :: v)) (h a) v (Nat.succ.inj e)
theorem el7 {P:List Value→Prop} (h:∀ a0 a1 a2 a3 a4 a5 a6,P [a0,a1,a2,a3,a4,a5,a6]):∀ us:List Value,us.length=7→P us
 | a :: v,e=>el6 (P:=fun v=>P (a :: v)) (h a) v (Nat.succ.inj e)
theorem el8 {P:List Value→Prop} (h:∀ a0 a1 a2 a3 a4 a5 a6 a7,P [a0,a1,a2,a3,a4,a5,a6,a7]):∀ us:List Value,us.length=8→P us
 | a :: v,e=>el7 (P:=fun v=>P (a :: v)) (h a) v (Nat.succ.inj e)
abbrev LkF (K:W.Frag) (f:Addr) (x n:Str) (st:Stmt) (oc:Value) (od:Option Addr) (kV dc pm:Value) (an:Option Addr) (cd ct:Value) (sl:Array (Option Value)):Prop:=K.lookup f=some ⟨oc,od,.func (W.fnOf x n (zW st) (qR st) (jk st) .none kV dc pm an cd ct),sl⟩
set_option autoImplicit true in
theorem all_mk {l:PySem.W.OpenLaw} {w:World} {K:W.Frag} {h:Heap} {mg:Str→Option Value} {fa:Addr} (X:K.In h) (G:h.Ns mainGlobals mg) (hfa:mg "law" = some (.ref fa))
  (a0:W.nsIn K mainGlobals "turned_tie" = some (some (.ref f0)))
  (l0:LkF K f0 "turned_tie" "turned_tie" qL oc0 od0 kV0 dc0 pm0 an0 cd0 ct0 sl0) (c0:W.codeIn K cd0 "turned_tie" = true) (k0:W.keepIn K (.ref f0)=true)
  (a1:W.nsIn K mainGlobals "key_of" = some (some (.ref f1)))
  (l1:LkF K f1 "key_of" "key_of" Ju oc1 od1 kV1 dc1 pm1 an1 cd1 ct1 sl1) (c1:W.codeIn K cd1 "key_of" = true) (k1:W.keepIn K (.ref f1)=true)
  (a2:W.nsIn K mainGlobals "closes" = some (some (.ref f2)))
  (l2:LkF K f2 "closes" "closes" zT oc2 od2 kV2 dc2 pm2 an2 cd2 ct2 sl2) (c2:W.codeIn K cd2 "closes" = true) (k2:W.keepIn K (.ref f2)=true)
  (a3:W.nsIn K mainGlobals "at_hand" = some (some (.ref f3)))
  (l3:LkF K f3 "at_hand" "at_hand" qZ oc3 od3 kV3 dc3 pm3 an3 cd3 ct3 sl3) (c3:W.codeIn K cd3 "at_hand" = true) (k3:W.keepIn K (.ref f3)=true)
  (a4:W.nsIn K mainGlobals "ring_holds" = some (some (.ref f4)))
  (l4:LkF K f4 "ring_holds" "ring_holds" kL oc4 od4 kV4 dc4 pm4 an4 cd4 ct4 sl4) (c4:W.codeIn K cd4 "ring_holds" = true) (k4:W.keepIn K (.ref f4)=true)
  (a5:W.nsIn K mainGlobals "guards_by_tie" = some (some (.ref f5)))
  (l5:LkF K f5 "guards_by_tie" "guards_by_tie" ko oc5 od5 kV5 dc5 pm5 an5 cd5 ct5 sl5) (c5:W.codeIn K cd5 "guards_by_tie" = true) (k5:W.keepIn K (.ref f5)=true)
  (a6:W.nsIn K mainGlobals "paper_holds" = some (some (.ref f6)))
  (l6:LkF K f6 "paper_holds" "paper_holds" kO oc6 od6 kV6 dc6 pm6 an6 cd6 ct6 sl6) (c6:W.codeIn K cd6 "paper_holds" = true) (k6:W.keepIn K (.ref f6)=true)
  (a7:W.nsIn K mainGlobals "_law_cell" = some (some (.ref f7)))
  (l7:LkF K f7 "_law_cell" "_law_cell" jaZ oc7 od7 kV7 dc7 pm7 an7 cd7 ct7 sl7) (c7:W.codeIn K cd7 "_law_cell" = true) (k7:W.keepIn K (.ref f7)=true)
  (a8:W.nsIn K mainGlobals "_law_pick" = some (some (.ref f8)))
  (l8:LkF K f8 "_law_pick" "_law_pick" jaY oc8 od8 kV8 dc8 pm8 an8 cd8 ct8 sl8) (c8:W.codeIn K cd8 "_law_pick" = true) (k8:W.keepIn K (.ref f8)=true)
  (a9:W.nsIn K mainGlobals "_law_word" = some (some (.ref f9)))
  (l9:LkF K f9 "_law_word" "_law_word" jaX oc9 od9 kV9 dc9 pm9 an9 cd9 ct9 sl9) (c9:W.codeIn K cd9 "_law_word" = true) (k9:W.keepIn K (.ref f9)=true)
  (a10:W.nsIn K mainGlobals "_law_source" = some (some (.ref f10)))
  (l10:LkF K f10 "_law_source" "_law_source" Js oc10 od10 kV10 dc10 pm10 an10 cd10 ct10 sl10) (c10:W.codeIn K cd10 "_law_source" = true) (k10:W.keepIn K (.ref f10)=true)
  (a11:W.nsIn K mainGlobals "_law_number" = some (some (.ref f11)))
  (l11:LkF K f11 "_law_number" "_law_number" Jt oc11 od11 kV11 dc11 pm11 an11 cd11 ct11 sl11) (c11:W.codeIn K cd11 "_law_number" = true) (k11:W.keepIn K (.ref f11)=true)
  (a12:W.nsIn K mainGlobals "_law_guards" = some (some (.ref f12)))
  (l12:LkF K f12 "_law_guards" "_law_guards" Jv oc12 od12 kV12 dc12 pm12 an12 cd12 ct12 sl12) (c12:W.codeIn K cd12 "_law_guards" = true) (k12:W.keepIn K (.ref f12)=true)
  (a13:W.nsIn K mainGlobals "_law_leaf" = some (some (.ref f13)))
  (l13:LkF K f13 "_law_leaf" "_law_leaf" JO oc13 od13 kV13 dc13 pm13 an13 cd13 ct13 sl13) (c13:W.codeIn K cd13 "_law_leaf" = true) (k13:W.keepIn K (.ref f13)=true)
  (a14:W.nsIn K mainGlobals "_law_grown" = some (some (.ref f14)))
  (l14:LkF K f14 "_law_grown" "_law_grown" yh oc14 od14 kV14 dc14 pm14 an14 cd14 ct14 sl14) (c14:W.codeIn K cd14 "_law_grown" = true) (k14:W.keepIn K (.ref f14)=true)
  (a15:W.nsIn K mainGlobals "_law_leaves" = some (some (.ref f15)))
  (l15:LkF K f15 "_law_leaves" "_law_leaves" qM oc15 od15 kV15 dc15 pm15 an15 cd15 ct15 sl15) (c15:W.codeIn K cd15 "_law_leaves" = true) (k15:W.keepIn K (.ref f15)=true)
  (a16:W.nsIn K mainGlobals "_law_changed" = some (some (.ref f16)))
  (l16:LkF K f16 "_law_changed" "_law_changed" qx oc16 od16 kV16 dc16 pm16 an16 cd16 ct16 sl16) (c16:W.codeIn K cd16 "_law_changed" = true) (k16:W.keepIn K (.ref f16)=true)
  (a17:W.nsIn K mainGlobals "_law_spoilt" = some (some (.ref f17)))
  (l17:LkF K f17 "_law_spoilt" "_law_spoilt" kz oc17 od17 kV17 dc17 pm17 an17 cd17 ct17 sl17) (c17:W.codeIn K cd17 "_law_spoilt" = true) (k17:W.keepIn K (.ref f17)=true)
  (a18:W.nsIn K mainGlobals "law" = some (some (.ref f18)))
  (l18:LkF K f18 "law" "law" JP oc18 od18 kV18 dc18 pm18 an18 cd18 ct18 sl18) (c18:W.codeIn K cd18 "law" = true) (k18:W.keepIn K (.ref f18)=true)
  (z0:W.nsIn K mainGlobals "len" = some none) (z1:W.nsIn K mainGlobals "max" = some none) (z2:W.nsIn K mainGlobals "min" = some none) (z3:W.nsIn K mainGlobals "all" = some none) (z4:W.nsIn K mainGlobals "isinstance" = some none) (z5:W.nsIn K mainGlobals "abs" = some none) (z6:W.nsIn K mainGlobals "sorted" = some none) (z7:W.nsIn K mainGlobals "int" = some none) (z8:W.nsIn K mainGlobals "str" = some none) (z9:W.nsIn K mainGlobals "bool" = some none) (z10:W.nsIn K mainGlobals "tuple" = some none) (z11:W.nsIn K mainGlobals "list" = some none) (z12:W.nsIn K mainGlobals "dict" = some none) (z13:W.nsIn K mainGlobals "range" = some none) (z14:W.nsIn K mainGlobals "set" = some none) (z15:W.nsIn K mainGlobals "sum" = some none) (z16:W.nsIn K mainGlobals "repr" = some none) :
  ∃ fd:FuncData,(∀ (s:Shared) (v:Value),BindsTo s fd ⟨[v],[]⟩ [("_law_script",v)])∧∀ base:Heap,K.In base→base.Ns mainGlobals mg→FnOk l.prog w K mg base CX0 18 fa fd ["_law_script"] (jaS K):=by
 have e:=hfa.symm.trans (W.mg_of X G a18)
 cases e
 have B:Free0 mg:=⟨W.mg_none_of X G z0,W.mg_none_of X G z1,W.mg_none_of X G z2,W.mg_none_of X G z3,W.mg_none_of X G z4,W.mg_none_of X G z5,W.mg_none_of X G z6,W.mg_none_of X G z7,W.mg_none_of X G z8,W.mg_none_of X G z9,W.mg_none_of X G z10,W.mg_none_of X G z11,W.mg_none_of X G z12,W.mg_none_of X G z13,W.mg_none_of X G z14⟩
 have Z_sum:mg "sum" = none:=W.mg_none_of X G z15
 have Z_repr:mg "repr" = none:=W.mg_none_of X G z16
 have U0:=j7 (st:=qL) l0 c0 k0
 have b0:=U0.binds (ps:=["tie"]) fun _ _ _ _ _ _=>el1 (fun _=>rfl)
 have U1:=j7 (st:=Ju) l1 c1 k1
 have b1:=U1.binds (ps:=["tie"]) fun _ _ _ _ _ _=>el1 (fun _=>rfl)
 have U2:=j7 (st:=zT) l2 c2 k2
 have b2:=U2.binds (ps:=["ties"]) fun _ _ _ _ _ _=>el1 (fun _=>rfl)
 have U3:=j7 (st:=qZ) l3 c3 k3
 have b3:=U3.binds (ps:=["tie","held","way","needed"]) fun _ _ _ _ _ _=>el4 (fun _ _ _ _=>rfl)
 have U4:=j7 (st:=kL) l4 c4 k4
 have b4:=U4.binds (ps:=["ties","held","way","needed"]) fun _ _ _ _ _ _=>el4 (fun _ _ _ _=>rfl)
 have U5:=j7 (st:=ko) l5 c5 k5
 have b5:=U5.binds (ps:=["clauses"]) fun _ _ _ _ _ _=>el1 (fun _=>rfl)
 have U6:=j7 (st:=kO) l6 c6 k6
 have b6:=U6.binds (ps:=["book","paper"]) fun _ _ _ _ _ _=>el2 (fun _ _=>rfl)
 have U7:=j7 (st:=jaZ) l7 c7 k7
 have b7:=U7.binds (ps:=["_law_script","_law_k"]) fun _ _ _ _ _ _=>el2 (fun _ _=>rfl)
 have U8:=j7 (st:=jaY) l8 c8 k8
 have b8:=U8.binds (ps:=["_law_script","_law_k","_law_many"]) fun _ _ _ _ _ _=>el3 (fun _ _ _=>rfl)
 have U9:=j7 (st:=jaX) l9 c9 k9
 have b9:=U9.binds (ps:=["_law_cell_here","_law_mark"]) fun _ _ _ _ _ _=>el2 (fun _ _=>rfl)
 have U10:=j7 (st:=Js) l10 c10 k10
 have b10:=U10.binds (ps:=["_law_script","_law_k","_law_words"]) fun _ _ _ _ _ _=>el3 (fun _ _ _=>rfl)
 have U11:=j7 (st:=Jt) l11 c11 k11
 have b11:=U11.binds (ps:=["_law_script","_law_k"]) fun _ _ _ _ _ _=>el2 (fun _ _=>rfl)
 have U12:=j7 (st:=Jv) l12 c12 k12
 have b12:=U12.binds (ps:=["_law_script","_law_k","_law_way","_law_ties"]) fun _ _ _ _ _ _=>el4 (fun _ _ _ _=>rfl)
 have U13:=j7 (st:=JO) l13 c13 k13
 have b13:=U13.binds (ps:=["_law_script","_law_n","_law_way","_law_book","_law_words"]) fun _ _ _ _ _ _=>el5 (fun _ _ _ _ _=>rfl)
 have U14:=j7 (st:=yh) l14 c14 k14
 have b14:=U14.binds (ps:=["_law_script","_law_n","_law_deep","_law_thin","_law_way","_law_book","_law_rings","_law_words"]) fun _ _ _ _ _ _=>el8 (fun _ _ _ _ _ _ _ _=>rfl)
 have U15:=j7 (st:=qM) l15 c15 k15
 have b15:=U15.binds (ps:=["_law_paper"]) fun _ _ _ _ _ _=>el1 (fun _=>rfl)
 have U16:=j7 (st:=qx) l16 c16 k16
 have b16:=U16.binds (ps:=["_law_paper","_law_at","_law_ring"]) fun _ _ _ _ _ _=>el3 (fun _ _ _=>rfl)
 have U17:=j7 (st:=kz) l17 c17 k17
 have b17:=U17.binds (ps:=["_law_script","_law_paper","_law_book"]) fun _ _ _ _ _ _=>el3 (fun _ _ _=>rfl)
 have U18:=j7 (st:=JP) l18 c18 k18
 refine ⟨W.fnOf "law" "law" (zW JP) (qR JP) (jk JP) .none kV18 dc18 pm18 an18 cd18 ct18,fun s v=>.of_eq rfl,fun base _ _=>?_⟩
 have F_turned_tie:=Fn.mk' U0 b0 (W.mg_of X G a0) (jb2 (P:=l.prog) (w:=w) (base:=base) U0)
 have F_key_of:=Fn.mk' U1 b1 (W.mg_of X G a1) (jfS (P:=l.prog) (w:=w) (base:=base) U1 Z_repr)
 have F_closes:=Fn.mk' U2 b2 (W.mg_of X G a2) (jb9 (P:=l.prog) (w:=w) (base:=base) U2)
 have F_at_hand:=Fn.mk' U3 b3 (W.mg_of X G a3) (jeJ (P:=l.prog) (w:=w) (base:=base) U3 B F_key_of)
 have F_ring_holds:=Fn.mk' U4 b4 (W.mg_of X G a4) (jeG (P:=l.prog) (w:=w) (base:=base) U4 B Z_sum F_closes F_at_hand)
 have F_guards_by_tie:=Fn.mk' U5 b5 (W.mg_of X G a5) (jb7 (P:=l.prog) (w:=w) (base:=base) U5 B F_key_of)
 have F_paper_holds:=Fn.mk' U6 b6 (W.mg_of X G a6) (jdn (P:=l.prog) (w:=w) (base:=base) U6 B F_key_of F_guards_by_tie F_turned_tie F_ring_holds)
 have F_cell:=Fn.mk' U7 b7 (W.mg_of X G a7) (jeK (P:=l.prog) (w:=w) (base:=base) U7 B)
 have F_pick:=Fn.mk' U8 b8 (W.mg_of X G a8) (jeH (P:=l.prog) (w:=w) (base:=base) U8 F_cell)
 have F_word:=Fn.mk' U9 b9 (W.mg_of X G a9) (jeF (P:=l.prog) (w:=w) (base:=base) U9)
 have F_source:=Fn.mk' U10 b10 (W.mg_of X G a10) (jb4 (P:=l.prog) (w:=w) (base:=base) U10 F_cell F_pick)
 have F_number:=Fn.mk' U11 b11 (W.mg_of X G a11) (jb5 (P:=l.prog) (w:=w) (base:=base) U11 F_cell F_pick)
 have F_guards:=Fn.mk' U12 b12 (W.mg_of X G a12) (jad (P:=l.prog) (w:=w) (base:=base) U12 B F_pick)
 have F_leaf:=Fn.mk' U13 b13 (W.mg_of X G a13) (jeI (P:=l.prog) (w:=w) (base:=base) U13 B Z_sum F_cell F_pick F_number F_guards)
 have F_grown:=Jn (P:=l.prog) (w:=w) (base:=base) U14 b14 (W.mg_of X G a14) B F_pick F_number F_source F_leaf 13
 have F_leaves:=zl (P:=l.prog) (w:=w) (base:=base) U15 b15 (W.mg_of X G a15) 12
 have F_changed:=yd (P:=l.prog) (w:=w) (base:=base) U15 b15 (W.mg_of X G a15) U16 b16 (W.mg_of X G a16) B 12
 have F_spoilt:=Fn.mk' U17 b17 (W.mg_of X G a17) (jb3 (P:=l.prog) (w:=w) (base:=base) U17 B Z_sum F_pick F_leaves F_changed)
 exact jfR U18 B F_cell F_pick F_word F_number F_source F_grown F_spoilt F_paper_holds
theorem walk {l:PySem.W.OpenLaw} {q:Program} {loose:List Str} {XP:(Str→Option Value)→Heap→Prop} {YP:World→Heap→Prop} {d:DefRec} {K:Params→W.Frag} (hn:l.most=some 63) (hdf:d.params.defaults=[])
  (hY:∀ (w:World) (h:Heap),YP w h→(K w.params).In h)
  (F:∀ (w:World) (mg:Str→Option Value) (fa:Addr) (h:Heap),(K w.params).In h→h.Ns mainGlobals mg→mg d.name=some (.ref fa)→
   ∃ fd:FuncData,(∀ (s:Shared) (u:Value),BindsTo s fd ⟨[u],[]⟩ [("_law_script",u)])∧∀ base:Heap,(K w.params).In base→base.Ns mainGlobals mg→FnOk l.prog w (K w.params) mg base CX0 18 fa fd ["_law_script"] (jaS (K w.params))) :
  PySem.W.WalkO q loose XP YP l.row.toRowW d [] (fun f vs=>PySem.call f vs):=
 L2.walk_of (n:=63) (k:=18) (x:="_law_script") (CX:=fun _=>CX0) (sp:=fun w=>jaS (K w.params)) hn (by decide) hdf ⟨rfl,by decide,by decide,rfl⟩ hY F (fun _ _ a ns hl _ hS=>⟨a,ns,rfl,hS,hl,fun _=>rfl⟩) fun _ _ _ _ _ z=>z
end LW
namespace PySem.W.Fast
def tw10269182535247533198:=()
def tw10441548294521983832:=()
def tw10829487384387566968:=()
def tw11500387236598473378:=()
def tw1168116738965257097:=()
def tw12041924495318414807:=()
def tw1207365143066716832:=()
def tw12462067025478044614:=()
def tw13069936792201672213:=()
def tw13698364516214110823:=()
def tw13702425552462953746:=()
def tw13941651320848436647:=()
def tw14158075670116976717:=()
def tw14439576593441826902:=()
def tw15501602128638361388:=()
def tw15703520598938424621:=()
def tw15754367877234128259:=()
def tw16434274555156729259:=()
def tw16827137049474123743:=()
def tw17377542558286965128:=()
def tw17557051982213494348:=()
def tw17581134185022485967:=()
def tw17913388175092038093:=()
def tw1887826126416316493:=()
def tw198167196351889191:=()
def tw2042818253093280486:=()
def tw2147119090338896862:=()
def tw2147843420723045425:=()
def tw2191534281688018950:=()
def tw2971305916502971488:=()
def tw3124222134302545109:=()
def tw3169332419518770661:=()
def tw35762910553968592:=()
def tw3748326157757253901:=()
def tw3926347382045082543:=()
def tw4351244160109856275:=()
def tw4660978307064633200:=()
def tw4964739632798981553:=()
def tw5081891747872540147:=()
def tw5766249289299522568:=()
def tw5788637586562026965:=()
def tw6280952157429665220:=()
def tw6430501380638555803:=()
def tw6578414285652525587:=()
def tw6653968815547002097:=()
def tw6829832777625694701:=()
def tw692685790007774991:=()
def tw7679896872947269584:=()
def tw7810116299181641283:=()
def tw9441775919824596061:=()
end PySem.W.Fast
open PySem PySem.W PyProof.Rows
set_option maxRecDepth 100000 in
set_option maxHeartbeats 0 in
theorem PySem.Challenge.cw_outlineward_k51_papers_holds : PySem.Challenge.rw_outlineward_k51_papers.Holds := by
 w_on;o_law;k_head;(case hw=>w_witness2)
 k_fill
 refine LW.walk (l:=PySem.Challenge.rw_outlineward_k51_papers) rfl rfl (fun w h Y=>W.kIn_of Y) ?F
 case F=>
  intro w mg fa h KX G hmg
  refine' LW.all_mk KX G hmg ?_ ?_ ?_ ?_ ?_ ?_ ?_ ?_ ?_ ?_ ?_ ?_ ?_ ?_ ?_ ?_ ?_ ?_ ?_ ?_ ?_ ?_ ?_ ?_ ?_ ?_ ?_ ?_ ?_ ?_ ?_ ?_ ?_ ?_ ?_ ?_ ?_ ?_ ?_ ?_ ?_ ?_ ?_ ?_ ?_ ?_ ?_ ?_ ?_ ?_ ?_ ?_ ?_ ?_ ?_ ?_ ?_ ?_ ?_ ?_ ?_ ?_ ?_ ?_ ?_ ?_ ?_ ?_ ?_ ?_ ?_ ?_ ?_ ?_ ?_ ?_ ?_ ?_ ?_ ?_ ?_ ?_ ?_ ?_ ?_ ?_ ?_ ?_ ?_ ?_ ?_ ?_ ?_
  all_goals try ((try unfold LW.LkF);k_is)
