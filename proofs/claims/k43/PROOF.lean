import PyProof.Rows.All
import Wide.All
import OpenK.AllK
import Wide.FinOn
import Lean
import PyProof.EqAt
import PyProof.EqKinds
import PyProof.TupleCall
import PyProof.NeKinds
import KE.KEqDict
import KE.KDictSum
import PyProof.Rows.StrMul
import PyProof.Rows.SortStr
import PyProof.Rows.SortWalk
import KE.KSortTup
import PyProof.IsiH_list
import KE.KDictOf
import KE.KItemsList
import PyProof.SetKind
import PyProof.Rows.SetFrom
import PyProof.IsRules
import PyProof.EnumStmt
import PyProof.EnumFor
import PyProof.EnumMake
import PyProof.Rows.StrJoin2
import KE.KDictList
import PyProof.ZipIter
import PyProof.DictCompW
import PyProof.DictUpdate
import PyProof.FactsAll.set_2
import KE.KSetDisp
import PyProof.Rows.SortShellK
import PyProof.TupleKey
import PyProof.ReprRoads
import PyProof.Rows.StrNews2
import PyProof.StrCalls
import PyProof.ListIndex
import PyProof.StrLawsChain
import PyProof.StrLawsOcc
import PyProof.StrLawsJoin
import KE.KDictLaws
import PySem.Challenge.RW_outlineward_k43_spots_and_width
set_option Elab.async false
set_option linter.all false
set_option maxRecDepth 100000
set_option maxHeartbeats 4000000
namespace L2
open PySem PySem.Spec PyProof.Rows
abbrev Key:=Sum Int Str
def KJ:Key→Value→Bool
 | .inl k,v=>Value.isInt k v
 | .inr x,v=>Value.isStrOf x v
def jir (w:World):Key→Int
 | .inl k=>hashInt k
 | .inr x=>hashStr w x
theorem km:∀ {k:Key} {v:Value},KJ k v=true→(∃ i t,k=Sum.inl i∧v=Value.int i t)∨(∃ x t,k=Sum.inr x∧v=Value.str x t)
 | .inl i,v,h=>by
  obtain ⟨t,e⟩:=Value.isInt_shape (k:=i) (v:=v) h
  exact .inl ⟨i,t,rfl,e⟩
 | .inr x,v,h=>by
  obtain ⟨t,e⟩:=Value.isStrOf_shape (x:=x) (v:=v) h
  exact .inr ⟨x,t,rfl,e⟩
theorem jcq (i:Int) (t:Tok):KJ (.inl i) (.int i t)=true:=by simp [KJ,Value.isInt]
theorem jcp (x:Str) (t:Tok):KJ (.inr x) (.str x t)=true:=by simp [KJ,Value.isStrOf]
theorem jha (a b:Int):decide ((Sum.inl a:Key)=Sum.inl b)=(a == b):=by
 by_cases e:a=b
 ·subst e;simp
 ·have h:¬ (Sum.inl a:Key)=Sum.inl b:=fun q=>e (Sum.inl.inj q)
  rw [decide_eq_false h]
  exact (beq_eq_false_iff_ne.mpr e).symm
theorem jg7 (a b:Str):decide ((Sum.inr a:Key)=Sum.inr b)=decide (a=b):=by
 by_cases e:a=b
 ·subst e;simp
 ·have h:¬ (Sum.inr a:Key)=Sum.inr b:=fun q=>e (Sum.inr.inj q)
  rw [decide_eq_false h,decide_eq_false e]
theorem jg9 (a:Int) (b:Str):decide ((Sum.inl a:Key)=Sum.inr b)=false:=decide_eq_false (fun q=>nomatch q)
theorem jg8 (a:Str) (b:Int):decide ((Sum.inr a:Key)=Sum.inl b)=false:=decide_eq_false (fun q=>nomatch q)
def j3 (prog:Program) (w:World):PySem.KeyKind prog w Key where
 is:=KJ
 hash:=jir w
 inj:=fun v a b ha hb=>by
  rcases km ha with ⟨i,t,rfl,rfl⟩ | ⟨x,t,rfl,rfl⟩
  ·rcases km hb with ⟨j,u,rfl,e⟩ | ⟨y,u,rfl,e⟩
   ·injection e with e1 _;rw [e1]
   ·exact nomatch e
  ·rcases km hb with ⟨j,u,rfl,e⟩ | ⟨y,u,rfl,e⟩
   ·exact nomatch e
   ·injection e with e1 _;rw [e1]
 byValue:=fun k v h=>by
  rcases km h with ⟨i,t,rfl,rfl⟩ | ⟨x,t,rfl,rfl⟩ <;> rfl
 pyHash:=fun hv h=>by
  rcases km hv with ⟨i,t,rfl,rfl⟩ | ⟨x,t,rfl,rfl⟩
  ·exact wpAny_pyHash_int h
  ·exact wpAny_pyHash_str h
 eqBool:=fun hu hv h=>by
  rcases km hu with ⟨i,t,rfl,rfl⟩ | ⟨x,t,rfl,rfl⟩
  ·rcases km hv with ⟨j,u,rfl,rfl⟩ | ⟨y,u,rfl,rfl⟩
   ·rw [jha] at h;exact wpAny_eqBool_int h
   ·rw [jg9] at h;exact SeqAt.EqAt.int_str i t y u _ _ _ _ h
  ·rcases km hv with ⟨j,u,rfl,rfl⟩ | ⟨y,u,rfl,rfl⟩
   ·rw [jg8] at h;exact SeqAt.EqAt.str_int x t j u _ _ _ _ h
   ·rw [jg7] at h;exact wpAny_eqBool_str h
 «strs»:=fun k x t v h=>by
  rcases km h with ⟨i,u,rfl,e⟩ | ⟨y,u,rfl,e⟩
  ·exact nomatch e
  ·injection e with e1 _
   subst e1
   cases v <;> rfl
theorem jaB (prog:Program) (w:World) (k:Key) (v:Value):(j3 prog w).is k v=KJ k v:=rfl
theorem ZW (prog:Program) (w:World) (i:Int) (t:Tok):(j3 prog w).is (.inl i) (.int i t)=true:=jcq i t
theorem ZV (prog:Program) (w:World) (x:Str) (t:Tok):(j3 prog w).is (.inr x) (.str x t)=true:=jcp x t
inductive V where
 | non | bl (b:Bool) | int (i:Int) | str (x:Str) | byt (b:Array UInt8) | flt (b:UInt64) | ref (a:Addr) | ty (n:String)
 deriving DecidableEq
def RelV:V→Value→Prop
 | .non,u=>u=Value.none
 | .bl b,u=>u=Value.bool b
 | .int i,u=>∃ t,u=Value.int i t
 | .str x,u=>∃ t,u=Value.str x t
 | .byt b,u=>∃ t,u=Value.bytes b t
 | .flt b,u=>∃ t,u=Value.float b t
 | .ref a,u=>u=Value.ref a
 | .ty n,u=>u=Value.type n
abbrev Vals:List V→List Value→Prop:=Paired RelV
theorem Vals.length {xs:List V} {us:List Value} (r:Vals xs us):xs.length=us.length:=Paired.length r
theorem Vals.get:∀ {xs:List V} {us:List Value} {i:Nat} {x:V},Vals xs us→xs[i]?=some x→∃ u,us[i]?=some u∧RelV x u
 | _,_,_,_,.nil,e=>by simp at e
 | _,_,0,_,.cons r _,e=>by simp at e;subst e;exact ⟨_,rfl,r⟩
 | _,_,i+1,x,.cons _ t,e=>by
  obtain ⟨u,h1,h2⟩:=Vals.get (i:=i) (x:=x) t (by simpa using e)
  exact ⟨u,by simpa using h1,h2⟩
theorem Vals.set {x:V} {u:Value} (r:RelV x u):∀ {xs:List V} {us:List Value} (i:Nat),Vals xs us→Vals (xs.set i x) (us.set i u)
 | _,_,_,.nil=>.nil
 | _,_,0,.cons _ t=>.cons r t
 | _,_,i+1,.cons q t=>.cons q (Vals.set r i t)
theorem Vals.append:∀ {xs ys:List V} {us ws:List Value},Vals xs us→Vals ys ws→Vals (xs++ys) (us++ws)
 | _,_,_,_,.nil,s=>s
 | _,_,_,_,.cons r t,s=>.cons r (Vals.append t s)
theorem Vals.take:∀ {xs:List V} {us:List Value} (n:Nat),Vals xs us→Vals (xs.take n) (us.take n)
 | _,_,0,_=>.nil
 | _,_,_+1,.nil=>.nil
 | _,_,n+1,.cons r t=>.cons r (Vals.take n t)
theorem Vals.drop:∀ {xs:List V} {us:List Value} (n:Nat),Vals xs us→Vals (xs.drop n) (us.drop n)
 | _,_,0,r=>r
 | _,_,_+1,.nil=>.nil
 | _,_,n+1,.cons _ t=>Vals.drop n t
def RelO:Option V→Option Value→Prop
 | some v,some u=>RelV v u
 | none,none=>True
 | _,_=>False
def KV {κ:Type}:List (κ×V)→List (κ×Value)→Prop:=Paired fun (p:κ×V) (q:κ×Value)=>p.1=q.1∧RelV p.2 q.2
def kV:Key→V
 | .inl i=>.int i
 | .inr x=>.str x
inductive HO where
 | lst (xs:List V)
 | tup (xs:List V)
 | dK (kvs:List (Key×V)) | dT (kvs:List (List Key×V))
 | set (S:Int→Bool) (n:Nat)
 | ins (C dx:Addr) (fs:List (Str×V))
 | own (x:Addr)
 | xd (fs:List (Str×V))
 | met (f x:Addr)
 | rng (lo hi:Int)
 | frz (o:Obj) (u:HO)
 | tbl (ps:Array Value)
 | ext (φ:Heap→Prop)
abbrev Hp:=Addr→Option HO
def upd (H:Hp) (a:Addr) (o:HO):Hp:=fun b=>if b=a then some o else H b
theorem jg {H:Hp} {a:Addr} {o:HO}:upd H a o a=some o:=by unfold upd;rw [if_pos rfl]
theorem jB {H:Hp} {a b:Addr} {o:HO} (h:b≠a):upd H a o b=H b:=by unfold upd;rw [if_neg h]
theorem jhX {H:Hp} {a b:Addr} {o u:HO} (h:H a=some o) (h':H b=some u) (d:o≠u):a≠b:=by
 intro e;subst e;rw [h] at h';exact d (Option.some.inj h')
theorem jt {H:Hp} {a b:Addr} {o:HO} (h:H a=some o) (h':H b=none):a≠b:=by
 intro e;subst e;rw [h] at h';cases h'
section
variable (P:Program) (w:World)
def ObjOk (H:Hp) (h:Heap) (a:Addr):HO→Prop
 | .lst xs=>xs.length≤sizeLine∧∃ (its:List Value) (n:Nat),Vals xs its∧h.get? a=some { cls:=.type "list",data:=.seq its.toArray n }
 | .tup xs=>xs.length≤sizeLine∧∃ its:List Value,Vals xs its∧IsTup h a its.toArray
 | .dK kvs=>kvs.length≤sizeLine∧(a == sysModules)=false∧∃ vs,KV kvs vs∧h.DictOf (j3 P w) a vs
 | .dT kvs=>kvs.length≤sizeLine∧(a == sysModules)=false∧∃ xs:List (List Key×Addr×Value),
   Paired (fun (p:List Key×V) (q:List Key×Addr×Value)=>p.1=q.1∧H q.2.1=some (.tup (p.1.map kV))∧RelV p.2 q.2.2) kvs xs∧
   ∃ o es ep,h.get? a=some o∧o.ExactDict∧o.data=.dict es ep∧es.toList=xs.map (entryOfKey (tupleKind (j3 P w)))∧(xs.map (·.1)).Nodup
 | .set S n=>h.SetOf (intKind P w) a S n
 | .ins C dx fs=>H dx=some (.own a)∧fs.length≤1000∧dx≠a∧h.get? a=some (PySem.W.instObj C dx)∧
   ∃ mA,h.Ns1 dx mA∧(∀ f,RelO (fs.lookup f) (mA f))∧PySem.Within mA (fs.map (·.1))
 | .own _=>∃ o,h.get? a=some o
 | .xd fs=>∃ mA,h.Ns1 a mA∧∀ f,RelO (fs.lookup f) (mA f)
 | .rng lo hi=>∃ t u v,h.get? a=some { cls:=.type "range",data:=.fields #[.int lo t,.int hi u,.int 1 v] }
 | .frz o u=>h.get? a=some o∧ObjOk H h a u
 | .tbl ps=>h.get? a=some { cls:=.none,data:=.fields ps }
 | .met f x=>h.get? a=some (PySem.W.methodObj (.ref f) (.ref x))
 | .ext φ=>φ h∧(∃ o,h.get? a=some o)∧∀ h1 h2:Heap,φ h1→(∀ o,h1.get? a=some o→h2.get? a=some o)→φ h2
def HOk (H:Hp) (h:Heap):Prop:=∀ a o,H a=some o→ObjOk P w H h a o
end
section
variable {P:Program} {w:World} {H H':Hp} {h h':Heap} {a:Addr} {o:HO}
theorem ObjOk.lt (x:ObjOk P w H h a o):a < h.objs.size:=by
 cases o with
 | lst xs=>obtain ⟨_,_,_,_,e⟩:=x;exact Heap.lt_size e
 | tup xs=>obtain ⟨_,_,_,p⟩:=x;exact p.lt
 | dK kvs=>obtain ⟨_,_,_,_,o,_,_,e,_⟩:=x;exact Heap.lt_size e
 | dT kvs=>obtain ⟨_,_,_,_,o,_,_,e,_⟩:=x;exact Heap.lt_size e
 | set S n=>obtain ⟨o,_,_,_,e,_⟩:=x;exact Heap.lt_size e
 | ins C dx fs=>obtain ⟨_,_,_,e,_⟩:=x;exact Heap.lt_size e
 | own y=>obtain ⟨_,e⟩:=x;exact Heap.lt_size e
 | xd fs=>obtain ⟨_,⟨_,_,_,e,_⟩,_⟩:=x;exact Heap.lt_size e
 | rng lo hi=>obtain ⟨_,_,_,e⟩:=x;exact Heap.lt_size e
 | frz ob u=>obtain ⟨e,_⟩:=x;exact Heap.lt_size e
 | tbl ps=>exact Heap.lt_size (show h.get? a=some _ from x)
 | met f y=>exact Heap.lt_size (show h.get? a=some _ from x)
 | ext φ=>obtain ⟨_,⟨_,e⟩,_⟩:=x;exact Heap.lt_size e
theorem Paired.mapP {α β:Type} {F G:α→β→Prop}:∀ {l₁:List α} {l₂:List β},Paired F l₁ l₂→(∀ a b,F a b→G a b)→Paired G l₁ l₂
 | _,_,.nil,_=>.nil
 | _,_,.cons r t,f=>.cons (f _ _ r) (Paired.mapP t f)
theorem ObjOk.stay (x:ObjOk P w H h a o) (k:∀ b u,(b=a∨H b=some (.own a))→h.get? b=some u→h'.get? b=some u)
  (ho:∀ b,H b=some (.own a)→H' b=some (.own a)) (ht:∀ b xs,H b=some (.tup xs)→H' b=some (.tup xs)):ObjOk P w H' h' a o:=by
 induction o with
 | lst xs=>obtain ⟨z,its,n,r,e⟩:=x;exact ⟨z,its,n,r,k _ _ (.inl rfl) e⟩
 | tup xs=>obtain ⟨z,its,r,ob,e,c⟩:=x;exact ⟨z,its,r,ob,k _ _ (.inl rfl) e,c⟩
 | dK kvs=>obtain ⟨z,y,vs,r,ob,es,ep,e,c⟩:=x;exact ⟨z,y,vs,r,ob,es,ep,k _ _ (.inl rfl) e,c⟩
 | dT kvs=>
  obtain ⟨z,y,xs,r,ob,es,ep,e,c⟩:=x
  exact ⟨z,y,xs,Paired.mapP r fun p q z=>⟨z.1,ht _ _ z.2.1,z.2.2⟩,ob,es,ep,k _ _ (.inl rfl) e,c⟩
 | set S n=>obtain ⟨ob,es,ep,t,e,c⟩:=x;exact ⟨ob,es,ep,t,k _ _ (.inl rfl) e,c⟩
 | ins C dx fs=>
  obtain ⟨d,z,ne,e,mA,⟨od,es,ep,e2,c⟩,r⟩:=x
  exact ⟨ho _ d,z,ne,k _ _ (.inl rfl) e,mA,⟨od,es,ep,k _ _ (.inr d) e2,c⟩,r⟩
 | own y=>obtain ⟨ob,e⟩:=x;exact ⟨ob,k _ _ (.inl rfl) e⟩
 | xd fs=>obtain ⟨mA,⟨od,es,ep,e,c⟩,r⟩:=x;exact ⟨mA,⟨od,es,ep,k _ _ (.inl rfl) e,c⟩,r⟩
 | rng lo hi=>obtain ⟨t,u,v,e⟩:=x;exact ⟨t,u,v,k _ _ (.inl rfl) e⟩
 | frz ob u ih=>obtain ⟨e,q⟩:=x;exact ⟨k _ _ (.inl rfl) e,ih q⟩
 | tbl ps=>
  have e:h.get? a=some { cls:=.none,data:=.fields ps }:=x
  show h'.get? a=some { cls:=.none,data:=.fields ps }
  exact k a _ (.inl rfl) e
 | met f y=>
  have e:h.get? a=some (PySem.W.methodObj (.ref f) (.ref y)):=x
  show h'.get? a=some (PySem.W.methodObj (.ref f) (.ref y))
  exact k a _ (.inl rfl) e
 | ext φ=>obtain ⟨p,⟨o,e⟩,st⟩:=x;exact ⟨st _ _ p fun o q=>k _ _ (.inl rfl) q,⟨o,k _ _ (.inl rfl) e⟩,st⟩
theorem HOk.lt (x:HOk P w H h) (e:H a=some o):a < h.objs.size:=(x a o e).lt
theorem HOk.fresh (x:HOk P w H h) (e:h.objs.size≤a):H a=none:=by
 cases q:H a with
 | none=>rfl
 | some u=>exact absurd (Nat.lt_of_lt_of_le (x.lt q) e) (Nat.lt_irrefl _)
theorem HOk.kept (x:HOk P w H h) (k:∀ b u,h.get? b=some u→h'.get? b=some u):HOk P w H h':=fun a o e=>
 (x a o e).stay (fun b u _ q=>k b u q) (fun _ q=>q) fun _ _ q=>q
theorem HOk.laid (x:HOk P w H h) (k:∀ b u,h.get? b=some u→h'.get? b=some u) (hp:h.objs.size≤a) (new:ObjOk P w (upd H a o) h' a o):HOk P w (upd H a o) h':=fun b u e=>by
 have hn:=x.fresh hp
 by_cases hb:b=a
 ·subst hb;rw [jg] at e;cases e;exact new
 ·rw [jB hb] at e
  exact (x b u e).stay (fun c v _ q=>k c v q) (fun c q=>by rw [jB (jt q hn)];exact q) fun c xs q=>by rw [jB (jt q hn)];exact q
end
def Rd (H:Hp) (a:Addr) (u:HO):Prop:=H a=some u∨∃ o,H a=some (.frz o u)
theorem Rd.ok {P:Program} {w:World} {H:Hp} {h:Heap} {a:Addr} {u:HO} (r:Rd H a u) (x:HOk P w H h):ObjOk P w H h a u:=by
 rcases r with r | ⟨o,r⟩
 ·exact x a u r
 ·obtain ⟨_,q⟩:=x a _ r
  exact q
def Mut:Option HO→Prop
 | some (.lst _)=>True
 | some (.dK _)=>True
 | some (.dT _)=>True
 | some (.set _ _)=>True
 | some (.ins _ _ _)=>True
 | some (.ext _)=>True
 | _=>False
section
variable {P:Program} {w:World} {H:Hp} {h h':Heap} {x e:Addr} {o':HO}
theorem HOk.write (ok:HOk P w H h) (mu:Mut (H x)) (he:e=x∨H e=some (.own x)) (k:∀ b u,b≠e→h.get? b=some u→h'.get? b=some u) (heo:∃ u,h'.get? e=some u)
  (new:ObjOk P w (upd H x o') h' x o'):HOk P w (upd H x o') h':=fun b u q=>by
 have nown:∀ c y,H c=some (.own y)→c≠x:=fun c y r z=>by subst z;rw [r] at mu;exact mu
 have ntup:∀ c xs,H c=some (.tup xs)→c≠x:=fun c xs r z=>by subst z;rw [r] at mu;exact mu
 by_cases hb:b=x
 ·subst hb;rw [jg] at q;cases q;exact new
 ·rw [jB hb] at q
  by_cases hbe:b=e
  ·have q':H b=some (.own x):=by
    rcases he with z | z
    ·exact absurd (hbe.trans z) hb
    ·rw [hbe];exact z
   rw [q] at q';cases q'
   obtain ⟨v,hv⟩:=heo
   exact ⟨v,by rw [hbe];exact hv⟩
  ·refine (ok b u q).stay (fun c v hc r=>k c v ?_ r) (fun c r=>by rw [jB (nown c b r)];exact r) fun c xs r=>by rw [jB (ntup c xs r)];exact r
   rcases hc with rfl | hc
   ·exact hbe
   ·rintro rfl
    rcases he with z | z
    ·exact nown c b hc z
    ·rw [hc] at z;cases z;exact hb rfl
end
structure Un (fs ex:List Addr) (H H':Hp) (h h':Heap):Prop where
 keep:∀ b o,h.get? b=some o→H b=none→b ∉ fs→b ∉ ex→h'.get? b=some o
 slot:∀ b o,h.get? b=some o→H b=none→b∈fs→b ∉ ex→∃ sl,h'.get? b=some { o with slots:=sl }
 free:∀ b o,h.get? b=some o→H b=none→b ∉ ex→H' b=none
 there:∀ b o,h.get? b=some o→b ∉ ex→∃ o',h'.get? b=some o'
 tups:∀ b xs,H b=some (.tup xs)→H' b=some (.tup xs)
 frzs:∀ b o u,H b=some (.frz o u)→H' b=some (.frz o u)
 tbls:∀ b ps,H b=some (.tbl ps)→∃ more,H' b=some (.tbl (ps++more))
 stay:∀ b o xs,H b=some (.tup xs)→h.get? b=some o→b ∉ fs→b ∉ ex→h'.get? b=some o
section
variable {fs fs' ex ex':List Addr} {H H1 H2:Hp} {h h1 h2 h':Heap} {a x e:Addr} {o:HO}
theorem Un.any (u:Un fs ex H H1 h h1) {b:Addr} {ob:Obj} (q:h.get? b=some ob) (n:H b=none) (hx:b ∉ ex):∃ sl,h1.get? b=some { ob with slots:=sl }:=by
 by_cases hb:b∈fs
 ·exact u.slot b ob q n hb hx
 ·exact ⟨ob.slots,u.keep b ob q n hb hx⟩
theorem Un.kept (k:∀ b u,h.get? b=some u→h'.get? b=some u):Un fs ex H H h h':=
 ⟨fun b ob q _ _ _=>k b ob q,fun b ob q _ _ _=>⟨ob.slots,k b ob q⟩,fun _ _ _ n _=>n,fun b ob q _=>⟨ob,k b ob q⟩,fun _ _ q=>q,fun _ _ _ q=>q,fun _ ps q=>⟨#[],by rw [q];simp⟩,fun b ob _ _ q _ _=>k b ob q⟩
theorem Un.refl:Un fs ex H H h h:=Un.kept fun _ _ q=>q
theorem Un.laid (k:∀ b u,h.get? b=some u→h'.get? b=some u) (hp:h.objs.size≤a) (hn:H a=none):Un fs ex H (upd H a o) h h' where
 keep:=fun b u q _ _ _=>k b u q
 slot:=fun b u q _ _ _=>⟨u.slots,k b u q⟩
 free:=fun b u q n _=>by rw [jB (Nat.ne_of_lt (Nat.lt_of_lt_of_le (Heap.lt_size q) hp))];exact n
 there:=fun b u q _=>⟨u,k b u q⟩
 tups:=fun b xs q=>by rw [jB (jt q hn)];exact q
 frzs:=fun b u xs q=>by rw [jB (jt q hn)];exact q
 tbls:=fun b ps q=>⟨#[],by rw [jB (jt q hn),q];simp⟩
 stay:=fun b u _ _ q _ _=>k b u q
theorem Un.write (mu:Mut (H x)) (he:e=x∨H e=some (.own x)) (k:∀ b u,b≠e→h.get? b=some u→h'.get? b=some u) (heo:∃ u,h'.get? e=some u):Un fs ex H (upd H x o) h h':=by
 have hx:∀ b,H b=none→b≠x:=fun b n z=>by subst z;rw [n] at mu;exact mu
 have hb:∀ b,H b=none→b≠e:=fun b n z=>by
  subst z
  rcases he with r | r
  ·exact hx b n r
  ·rw [n] at r;cases r
 have hm:∀ b u,H b=some u→¬ Mut (some u)→b≠x:=fun b u q nm z=>by subst z;rw [q] at mu;exact nm mu
 refine ⟨fun b u q n _ _=>k b u (hb b n) q,fun b u q n _ _=>⟨u.slots,k b u (hb b n) q⟩,fun b u q n _=>by rw [jB (hx b n)];exact n,fun b u q _=>?_,
  fun b xs q=>by rw [jB (hm b _ q fun z=>z)];exact q,fun b u xs q=>by rw [jB (hm b _ q fun z=>z)];exact q,fun b ps q=>⟨#[],by rw [jB (hm b _ q fun z=>z),q];simp⟩,fun b u xs q e' _ _=>k b u (fun z=>by
   subst z
   rcases he with r | r
   ·exact hm b _ q (fun z=>z) r
   ·rw [q] at r;cases r) e'⟩
 by_cases hbe:b=e
 ·subst hbe;exact heo
 ·exact ⟨u,k b u hbe q⟩
end
def trk (h:Heap) (H:Hp):List Addr:=(List.range h.objs.size).filter fun a=>(H a).isSome
def Zb (h:Heap) (H:Hp):Heap:=PySem.W.hideAll h (trk h H)
theorem jcw (h:Heap) (H:Hp):(Zb h H).objs.size=h.objs.size:=PySem.W.hideAll_size _ _
theorem jek {h:Heap} {H:Hp} {b:Addr} {o:Obj} (e:h.get? b=some o) (n:H b=none):(Zb h H).get? b=some o:=
 PySem.W.hideAll_get _ e fun hm=>by
  have q:(H b).isSome=true:=(List.mem_filter.mp hm).2
  rw [n] at q;simp at q
theorem jfF {h:Heap} {H:Hp} {b:Addr} {o:Obj} (e:(Zb h H).get? b=some o):h.get? b=some o∧H b=none:=by
 have e':h.get? b=some o:=PySem.W.of_hideAll (trk h H) e
 refine ⟨e',?_⟩
 cases q:H b with
 | none=>rfl
 | some x=>
  have hm:b∈trk h H:=List.mem_filter.mpr ⟨List.mem_range.mpr (Heap.lt_size e'),by simp [q]⟩
  have z:(Zb h H).get? b=none:=PySem.W.hideAll_none (trk h H) hm
  rw [z] at e;cases e
def jf0 (g h:Heap) (L:Addr):List (Addr×Obj):=(List.range h.objs.size).filterMap fun a=>if a=L∨(g.get? a).isSome=true then none else (h.get? a).map fun o=>(a,o)
def zC (g h:Heap) (L d:Addr):List (Addr×Obj):=(jf0 g h L).filter fun p=>decide (p.1≠d)
structure Mod (K:PySem.W.Frag) (mg:Str→Option Value) (base:Heap):Prop where
 kin:K.In base
 glob:base.Ns mainGlobals mg
 blt:∃ mb,base.Ns builtinsNs mb∧∀ x:Str,x≠"__name__"→mb x=bootBuiltins x
 nolimit:base.NoLimit
structure Cx where
 prog:Program
 w:World
 K:PySem.W.Frag
 mg:Str→Option Value
 base:Heap
 A:Around
 N:List Str
 s₀:Shared
 H₀:Hp
 env:Env
 outer:List Env
 stack:List Env
 ex:List Addr
 fn:Str→Bool
 calm:Bool
 pn:List (Addr×Obj)
 xe:Value→Shared→Prop
def frs (l:List Env):List Addr:=l.filterMap (·.frame)
abbrev Cx.fs (X:Cx):List Addr:=frs X.outer
def Vis (sc:Scope) (x:Str):Prop:=sc.names.lookup x=some .local∨sc.names.lookup x=some .cell∨sc.names.lookup x=some .free
def Loc (sc:Scope) (x:Str):Prop:=sc.names.lookup x=some .local∨sc.names.lookup x=some .cell
def jiy (env:Env) (h:Heap) (m:Str→Option Value) (x:Str) (u:Value):Prop:=
 (env.kindOf x=some .local∧m x=some u)∨((env.kindOf x=some .cell∨env.kindOf x=some .free)∧∃ c,env.cells.lookup x=some c∧h.IsCell c (some u))
structure Cx.Ok (X:Cx):Prop where
 mod:Mod X.K X.mg X.base
 kind:X.env.scope.kind=.function
 glob:X.env.globals=mainGlobals
 blt:X.env.builtins=builtinsNs
 above:X.s₀.heap.objs.size≤X.env.locals
 inj:∀ x y c,X.env.cells.lookup x=some c→X.env.cells.lookup y=some c→x=y
 has:∀ x,(X.env.kindOf x=some .cell∨X.env.kindOf x=some .free)→∃ c,X.env.cells.lookup x=some c
 cab:∀ x c,X.fn x=true→X.env.cells.lookup x=some c→X.s₀.heap.objs.size≤c
 hd:X.calm=true→X.A.handled=none
 frames:X.A.frames=some X.stack
 stk:X.stack=X.outer∨(X.stack=X.env :: X.outer∧X.env.frame=some X.env.locals)
 exf:∀ b∈X.ex,b≠X.env.locals∧∀ x c,X.env.cells.lookup x=some c→c≠b
 bs:∀ b o,X.base.get? b=some o→X.s₀.heap.get? b=some o∧X.H₀ b=none
 bsz:X.base.objs.size≤X.s₀.heap.objs.size
 noex:∀ b o,X.base.get? b=some o→b ∉ X.ex
 exfs:∀ b∈X.ex,b ∉ X.fs
 funs:X.s₀.heap.FunFrames X.base X.outer
 frf:∀ b∈X.fs,X.H₀ b=none
structure Inv (X:Cx) (pins:List (Addr×Obj)) (σ:List (Option V)) (H:Hp) (s:Shared):Prop where
 ok:X.Ok
 os:s.os=X.s₀.os
 bare:AllBare s.gens
 base:Un X.fs X.ex X.H₀ H X.s₀.heap s.heap
 loc:∃ m,s.heap.Ns X.env.locals m∧∀ (i:Nat) (x:Str) (v:V),X.N[i]?=some x→σ[i]?=some (some v)→Vis X.env.scope x→∃ u,RelV v u∧jiy X.env s.heap m x u
 cell:∀ x c,X.env.cells.lookup x=some c→∃ v,s.heap.IsCell c v
 free:H X.env.locals=none
 freeC:∀ x c,X.env.cells.lookup x=some c→H c=none
 pin:∀ p∈X.pn++pins,s.heap.get? p.1=some p.2∧H p.1=none∧p.1≠X.env.locals∧p.1 ∉ X.fs∧∀ v,p.2.data≠.cell v
 hok:HOk X.prog X.w H s.heap
 len:σ.length=X.N.length
section
variable {X:Cx} {pins:List (Addr×Obj)} {σ:List (Option V)} {H H':Hp} {s:Shared} {h':Heap}
theorem Cx.Ok.nofr (ok:X.Ok) {b:Addr} {o:Obj} (e:X.base.get? b=some o):b ∉ X.fs:=fun hb=>by
 have:=(ok.funs.mem hb).1
 rw [e] at this;cases this
theorem Inv.bs (I:Inv X pins σ H s):∀ b o,X.base.get? b=some o→s.heap.get? b=some o∧H b=none:=fun b o e=>
 ⟨I.base.keep b o (I.ok.bs b o e).1 (I.ok.bs b o e).2 (I.ok.nofr e) (I.ok.noex b o e),I.base.free b o (I.ok.bs b o e).1 (I.ok.bs b o e).2 (I.ok.noex b o e)⟩
theorem Inv.bk (I:Inv X pins σ H s):∀ b o,X.base.get? b=some o→s.heap.get? b=some o:=fun b o e=>(I.bs b o e).1
theorem Inv.mod (I:Inv X pins σ H s):Mod X.K X.mg X.base:=I.ok.mod
theorem Inv.kIn (I:Inv X pins σ H s):X.K.In s.heap:=I.ok.mod.kin.keeps I.bk
theorem Inv.nolimit (I:Inv X pins σ H s):s.heap.NoLimit:=I.ok.mod.nolimit.keeps I.bk
theorem Inv.fr (I:Inv X pins σ H s):∃ m,Fr X.base X.env.locals s.heap m:=
 let ⟨m,hn,_⟩:=I.loc
 ⟨m,hn,I.bk,Nat.le_trans I.ok.bsz I.ok.above⟩
theorem Inv.lt (I:Inv X pins σ H s):X.env.locals < s.heap.objs.size:=let ⟨_,hn,_⟩:=I.loc;hn.lt
theorem Inv.sz (I:Inv X pins σ H s):X.s₀.heap.objs.size≤s.heap.objs.size:=Nat.le_trans I.ok.above (Nat.le_of_lt I.lt)
theorem Inv.nofs (I:Inv X pins σ H s) {a:Addr} (h:s.heap.objs.size≤a):a ∉ X.fs:=fun hb=>by
 obtain ⟨_,o,ho,_⟩:=I.ok.funs.mem hb
 exact absurd (Nat.lt_of_lt_of_le (Heap.lt_size ho) (Nat.le_trans I.sz h)) (Nat.lt_irrefl _)
theorem Inv.cne (I:Inv X pins σ H s):∀ x c,X.env.cells.lookup x=some c→c≠X.env.locals:=fun x c e z=>by
 obtain ⟨v,o,ho,hd⟩:=I.cell x c e
 obtain ⟨m,⟨o',es,ep,ho',hd',_⟩,_⟩:=I.loc
 rw [z,ho'] at ho;cases ho;rw [hd'] at hd;cases hd
theorem Inv.funs (I:Inv X pins σ H s):s.heap.FunFrames X.base X.outer:=by
 have all:∀ (l:List Env),(∀ b∈frs l,b∈X.fs)→X.s₀.heap.FunFrames X.base l→s.heap.FunFrames X.base l:=by
  intro l
  induction l with
  | nil=>intro _ _;trivial
  | cons env r ih=>
   intro hs hl
   obtain ⟨hk,⟨L,o,hf,hn,ho,hd⟩,hr⟩:=hl
   have hL:L∈X.fs:=hs L (by unfold frs;rw [List.filterMap_cons,hf];exact List.mem_cons_self)
   obtain ⟨sl,e⟩:=I.base.slot L o ho (I.ok.frf L hL) hL fun z=>I.ok.exfs L z hL
   exact ⟨hk,⟨L,_,hf,hn,e,hd⟩,ih (fun b hb=>hs b (by unfold frs;rw [List.filterMap_cons,hf];exact List.mem_cons_of_mem _ hb)) hr⟩
 exact all X.outer (fun _ hb=>hb) I.ok.funs
theorem Inv.stack (I:Inv X pins σ H s):s.heap.FunFrames X.base X.stack:=by
 rcases I.ok.stk with e | ⟨e,hf⟩
 ·rw [e];exact I.funs
 ·rw [e]
  obtain ⟨m,hn,_⟩:=I.loc
  refine .cons (by rw [I.ok.kind];decide) hf hn ?_ I.funs
  exact Heap.get?_none_of_le (Nat.le_trans I.ok.bsz I.ok.above)
theorem Inv.stkSub (I:Inv X pins σ H s):∀ b∈frs X.stack,b∈X.env.locals :: X.fs:=fun b hb=>by
 rcases I.ok.stk with e | ⟨e,hf⟩
 ·rw [e] at hb;exact List.mem_cons_of_mem _ hb
 ·rw [e] at hb
  unfold frs at hb
  rw [List.filterMap_cons,hf] at hb
  exact hb
theorem Inv.stkFree (I:Inv X pins σ H s):∀ b∈frs X.stack,H b=none:=fun b hb=>by
 rcases List.mem_cons.mp (I.stkSub b hb) with e | hb
 ·rw [e];exact I.free
 ·obtain ⟨_,o,ho,_⟩:=I.ok.funs.mem hb
  exact I.base.free b o ho (I.ok.frf b hb) fun z=>I.ok.exfs b z hb
theorem Inv.step {g':Array GenState} {t':Nat} {d':Drawn} {ch:List Addr} (I:Inv X pins σ H s)
  (hch:∀ b∈ch,(b∈X.ex∨X.s₀.heap.objs.size≤b)∧b≠X.env.locals∧(∀ x c,X.env.cells.lookup x=some c→c≠b)∧∀ p∈X.pn++pins,p.1≠b)
  (keep:∀ b o,b≠X.env.locals→b ∉ X.fs→b ∉ ch→s.heap.get? b=some o→(H b=none∨∃ xs,H b=some (.tup xs))→h'.get? b=some o)
  (slot:∀ b o,b≠X.env.locals→b∈X.fs→b ∉ ch→s.heap.get? b=some o→H b=none→∃ sl,h'.get? b=some { o with slots:=sl }) (free:∀ b o,b ∉ ch→s.heap.get? b=some o→H b=none→H' b=none)
  (there:∀ b o,b ∉ ch→s.heap.get? b=some o→∃ o',h'.get? b=some o')
  (tups:∀ b xs,H b=some (.tup xs)→H' b=some (.tup xs)) (frzs:∀ b o u,H b=some (.frz o u)→H' b=some (.frz o u)) (tbls:∀ b ps,H b=some (.tbl ps)→∃ more,H' b=some (.tbl (ps++more)))
  (ns:∀ m,s.heap.Ns X.env.locals m→h'.Ns X.env.locals m) (hok:HOk X.prog X.w H' h') (hg:AllBare g') :
  Inv X pins σ H' { s with heap:=h',gens:=g',drawn:=d',toks:=t' }:=by
 have neL:∀ b o,X.s₀.heap.get? b=some o→b≠X.env.locals:=fun b o e=>Nat.ne_of_lt (Nat.lt_of_lt_of_le (Heap.lt_size e) I.ok.above)
 have neC:∀ b o,X.s₀.heap.get? b=some o→b ∉ X.ex→b ∉ ch:=fun b o e hx hb=>by
  rcases (hch b hb).1 with z | z
  ·exact hx z
  ·exact absurd (Nat.lt_of_lt_of_le (Heap.lt_size e) z) (Nat.lt_irrefl _)
 have cellK:∀ x c,X.env.cells.lookup x=some c→∀ v,s.heap.IsCell c v→h'.IsCell c v:=fun x c e v ⟨o,ho,hd⟩=>by
  have nch:c ∉ ch:=fun z=>(hch c z).2.2.1 x c e rfl
  by_cases hc:c∈X.fs
  ·obtain ⟨sl,q⟩:=slot c o (I.cne x c e) hc nch ho (I.freeC x c e)
   exact ⟨_,q,hd⟩
  ·exact ⟨o,keep c o (I.cne x c e) hc nch ho (.inl (I.freeC x c e)),hd⟩
 have tups0:=I.base.tups
 refine ⟨I.ok,I.os,hg,⟨fun b o e n hb hx=>?_,fun b o e n hb hx=>?_,fun b o e n hx=>?_,fun b o e hx=>?_,fun b xs e=>tups b xs (I.base.tups b xs e),fun b o xs e=>frzs b o xs (I.base.frzs b o xs e),fun b ps e=>?_,fun b o xs q e hb hx=>keep b o (neL b o e) hb (neC b o e hx) (I.base.stay b o xs q e hb hx) (.inr ⟨xs,tups0 b xs q⟩)⟩,?_,fun x c e=>?_,?_,fun x c e=>?_,fun p hp=>?_,hok,I.len⟩
 ·exact keep b o (neL b o e) hb (neC b o e hx) (I.base.keep b o e n hb hx) (.inl (I.base.free b o e n hx))
 ·obtain ⟨sl,e1⟩:=I.base.slot b o e n hb hx
  obtain ⟨sl',e2⟩:=slot b _ (neL b o e) hb (neC b o e hx) e1 (I.base.free b o e n hx)
  exact ⟨sl',e2⟩
 ·obtain ⟨o',e1⟩:=I.base.there b o e hx
  exact free b o' (neC b o e hx) e1 (I.base.free b o e n hx)
 ·obtain ⟨o',e1⟩:=I.base.there b o e hx
  exact there b o' (neC b o e hx) e1
 ·obtain ⟨m1,e1⟩:=I.base.tbls b ps e
  obtain ⟨m2,e2⟩:=tbls b _ e1
  exact ⟨m1++m2,by rw [e2,Array.append_assoc]⟩
 ·obtain ⟨m,hn,hl⟩:=I.loc
  refine ⟨m,ns m hn,fun i x v e1 e2 e3=>?_⟩
  obtain ⟨u,r,l⟩:=hl i x v e1 e2 e3
  refine ⟨u,r,?_⟩
  rcases l with l | ⟨k,c,e,z⟩
  ·exact .inl l
  ·exact .inr ⟨k,c,e,cellK x c e _ z⟩
 ·obtain ⟨v,z⟩:=I.cell x c e
  exact ⟨v,cellK x c e v z⟩
 ·obtain ⟨m,⟨o,_,_,ho,_⟩,_⟩:=I.loc
  exact free _ o (fun z=>(hch _ z).2.1 rfl) ho I.free
 ·obtain ⟨v,o,ho,hd⟩:=I.cell x c e
  exact free c o (fun z=>(hch c z).2.2.1 x c e rfl) ho (I.freeC x c e)
 ·obtain ⟨e,n,ne,nf,d⟩:=I.pin p hp
  have nch:p.1 ∉ ch:=fun z=>(hch p.1 z).2.2.2 p hp rfl
  exact ⟨keep p.1 p.2 ne nf nch e (.inl n),free p.1 p.2 nch e n,ne,nf,d⟩
theorem Inv.un {t':Nat} (I:Inv X pins σ H s) (u:Un X.fs [] H H' s.heap h') (hok:HOk X.prog X.w H' h'):Inv X pins σ H' { s with heap:=h',toks:=t' }:=by
 obtain ⟨m,⟨o,es,ep,ho,r⟩,_⟩:=id I.loc
 obtain ⟨sl,hL⟩:=u.any ho I.free (by simp)
 exact I.step (g':=s.gens) (d':=s.drawn) (ch:=[]) (fun _ z=>nomatch z) (fun b o _ hb _ e n=>n.elim (fun n=>u.keep b o e n hb (by simp)) fun ⟨xs,n⟩=>u.stay b o xs n e hb (by simp)) (fun b o _ hb _ e n=>u.slot b o e n hb (by simp)) (fun b o _ e n=>u.free b o e n (by simp)) (fun b o _ e=>u.there b o e (by simp)) u.tups u.frzs u.tbls (fun m' hm=>by
  obtain ⟨o',es',ep',ho',r'⟩:=hm
  rw [ho] at ho';cases ho'
  exact ⟨_,es',ep',hL,r'⟩) hok I.bare
theorem Inv.call {g':Array GenState} {t':Nat} {d':Drawn} {ch:List Addr} (I:Inv X pins σ H s) (u:Un (frs X.stack) ch H H' s.heap h') (hok:HOk X.prog X.w H' h') (hg:AllBare g')
  (hch:∀ b∈ch,(b∈X.ex∨X.s₀.heap.objs.size≤b)∧b≠X.env.locals∧(∀ x c,X.env.cells.lookup x=some c→c≠b)∧∀ p∈X.pn++pins,p.1≠b) :
  Inv X pins σ H' { s with heap:=h',gens:=g',drawn:=d',toks:=t' }:=by
 obtain ⟨m,⟨o,es,ep,ho,r⟩,_⟩:=id I.loc
 obtain ⟨sl,hL⟩:=u.any ho I.free fun z=>(hch _ z).2.1 rfl
 exact I.step (ch:=ch) hch (fun b o hL hb hc e n=>n.elim (fun n=>u.keep b o e n (fun z=>(List.mem_cons.mp (I.stkSub b z)).elim hL hb) hc) fun ⟨xs,n⟩=>u.stay b o xs n e (fun z=>(List.mem_cons.mp (I.stkSub b z)).elim hL hb) hc) (fun b o _ _ hc e n=>u.any e n hc) (fun b o hc e n=>u.free b o e n hc) (fun b o hc e=>u.there b o e hc) u.tups u.frzs u.tbls (fun m' hm=>by
  obtain ⟨o',es',ep',ho',r'⟩:=hm
  rw [ho] at ho';cases ho'
  exact ⟨_,es',ep',hL,r'⟩) hok hg
theorem Inv.turned {t':Nat} {it:Addr} (I:Inv X pins σ H s) (k:∀ b o,b≠it→s.heap.get? b=some o→h'.get? b=some o) (hn:H it=none) (hL:it≠X.env.locals)
  (h1:it∈X.ex∨X.s₀.heap.objs.size≤it) (h2:∀ x c,X.env.cells.lookup x=some c→c≠it) (h3:∀ p∈X.pn++pins,p.1≠it):Inv X pins σ H { s with heap:=h',toks:=t' }:=by
 have nit:∀ b u,H b=some u→b≠it:=fun b u e z=>by rw [z,hn] at e;cases e
 refine I.step (g':=s.gens) (d':=s.drawn) (ch:=[it]) (fun b hb=>?_) (fun b o _ _ hc e _=>k b o (fun z=>hc (by simp [z])) e) (fun b o _ _ hc e _=>⟨o.slots,k b o (fun z=>hc (by simp [z])) e⟩) (fun _ _ _ _ n=>n)
  (fun b o hc e=>⟨o,k b o (fun z=>hc (by simp [z])) e⟩) (fun _ _ e=>e) (fun _ _ _ e=>e) (fun b ps e=>⟨#[],by rw [e];simp⟩) (fun m hm=>?_) (fun b u e=>?_) I.bare
 ·have e:b=it:=by simpa using hb
  subst e
  exact ⟨h1,hL,h2,h3⟩
 ·obtain ⟨o,es,ep,ho,r⟩:=hm
  exact ⟨o,es,ep,k _ o (Ne.symm hL) ho,r⟩
 ·refine (I.hok b u e).stay (fun c v hc q=>k c v ?_ q) (fun _ q=>q) fun _ _ q=>q
  rcases hc with z | z
  ·rw [z];exact nit b u e
  ·exact nit c _ z
theorem Inv.tok (I:Inv X pins σ H s) (t:Nat):Inv X pins σ H { s with toks:=t }:=I.un (h':=s.heap) (t':=t) Un.refl I.hok
theorem Inv.kept {t':Nat} (I:Inv X pins σ H s) (k:∀ b u,s.heap.get? b=some u→h'.get? b=some u):Inv X pins σ H { s with heap:=h',toks:=t' }:=I.un (Un.kept k) (I.hok.kept k)
theorem Inv.laid {a:Addr} {o:HO} {t':Nat} (I:Inv X pins σ H s) (k:∀ b u,s.heap.get? b=some u→h'.get? b=some u) (hp:s.heap.objs.size≤a) (new:ObjOk X.prog X.w (upd H a o) h' a o) :
  Inv X pins σ (upd H a o) { s with heap:=h',toks:=t' }:=I.un (Un.laid k hp (I.hok.fresh hp)) (I.hok.laid k hp new)
theorem Inv.write {x e:Addr} {o:HO} {t':Nat} (I:Inv X pins σ H s) (mu:Mut (H x)) (he:e=x∨H e=some (.own x)) (k:∀ b u,b≠e→s.heap.get? b=some u→h'.get? b=some u) (heo:∃ u,h'.get? e=some u)
  (new:ObjOk X.prog X.w (upd H x o) h' x o):Inv X pins σ (upd H x o) { s with heap:=h',toks:=t' }:=I.un (Un.write mu he k heo) (I.hok.write mu he k heo new)
theorem Inv.pins_of {pins':List (Addr×Obj)} (I:Inv X pins σ H s) (h:∀ p∈pins',s.heap.get? p.1=some p.2∧H p.1=none∧p.1≠X.env.locals∧p.1 ∉ X.fs∧∀ v,p.2.data≠.cell v):Inv X pins' σ H s:=
 ⟨I.ok,I.os,I.bare,I.base,I.loc,I.cell,I.free,I.freeC,fun p hp=>(List.mem_append.mp hp).elim (fun z=>I.pin p (List.mem_append_left _ z)) (h p),I.hok,I.len⟩
theorem ZU {N:List Str} (hN:N.Nodup) {i j:Nat} {x:Str} (a:N[i]?=some x) (b:N[j]?=some x):i=j:=by
 obtain ⟨h1,e1⟩:=List.getElem?_eq_some_iff.mp a
 obtain ⟨h2,e2⟩:=List.getElem?_eq_some_iff.mp b
 exact (List.getElem_inj hN).mp (e1.trans e2.symm)
theorem Yk {M:Model} {A:Around} {E:Value→Shared→Prop} {i:Nat} {x:Str} {v:V} {u:Value} {Q:Unit→Shared→Prop} (I:Inv X pins σ H s) (hN:X.N.Nodup) (hi:X.N[i]?=some x) (hx:Loc X.env.scope x) (r:RelV v u)
  (h:∀ s',Inv X pins (σ.set i (some v)) H s'→(∃ a,Heap.SameBut a s.heap s'.heap∧(a=X.env.locals∨X.env.cells.lookup x=some a))→Q () s') (hf:X.fn x=true∨X.env.scope.names.lookup x=some .local:=by first | exact .inl rfl | exact .inr rfl | assumption):wpAny M A (storeName X.env x u) Q E s:=by
 obtain ⟨m,hn,hl⟩:=id I.loc
 have hcls:(X.env.scope.kind == .class || (X.env.scope.kind == .module && X.env.locals != X.env.globals))=false:=by rw [I.ok.kind];rfl
 have hiσ:i < σ.length:=by rw [I.len];exact (List.getElem?_eq_some_iff.mp hi).1
 have cne:=I.cne
 have tracked:∀ {a:Addr} {h':Heap},(∃ o,s.heap.get? a=some o∧H a=none)→Heap.SameBut a s.heap h'→HOk X.prog X.w H h':=fun {a h'} ha hs b ob e=>by
  obtain ⟨_,_,hfree⟩:=ha
  refine (I.hok b ob e).stay (fun c w' hc q=>(hs.2 c ?_).trans q) (fun _ q=>q) fun _ _ q=>q
  rintro rfl
  rcases hc with rfl | hc
  ·rw [hfree] at e;cases e
  ·rw [hfree] at hc;cases hc
 rcases hx with hk | hk
 ·refine wpAny_storeName_local hk hn (fun h' hn' hs=>?_) hcls
  obtain ⟨oL,_,_,hoL,_⟩:=id hn
  refine h _ ⟨I.ok,I.os,I.bare,⟨fun b o e n hb hx=>?_,fun b o e n hb hx=>?_,I.base.free,fun b o e hx=>?_,I.base.tups,I.base.frzs,I.base.tbls,fun b o xs q e hb hx=>(hs.2 b (Nat.ne_of_lt (Nat.lt_of_lt_of_le (Heap.lt_size e) I.ok.above))).trans (I.base.stay b o xs q e hb hx)⟩,⟨_,hn',fun j y v' e1 e2 e3=>?_⟩,fun y c e=>?_,I.free,I.freeC,fun p hp=>?_,tracked ⟨oL,hoL,I.free⟩ hs,by simpa using I.len⟩ ⟨_,hs,.inl rfl⟩
  ·exact (hs.2 b (Nat.ne_of_lt (Nat.lt_of_lt_of_le (Heap.lt_size e) I.ok.above))).trans (I.base.keep b o e n hb hx)
  ·obtain ⟨sl,e1⟩:=I.base.slot b o e n hb hx
   exact ⟨sl,(hs.2 b (Nat.ne_of_lt (Nat.lt_of_lt_of_le (Heap.lt_size e) I.ok.above))).trans e1⟩
  ·obtain ⟨o',e1⟩:=I.base.there b o e hx
   exact ⟨o',(hs.2 b (Nat.ne_of_lt (Nat.lt_of_lt_of_le (Heap.lt_size e) I.ok.above))).trans e1⟩
  ·by_cases hj:j=i
   ·subst hj
    rw [hi] at e1;cases e1
    rw [List.getElem?_set_self hiσ] at e2
    cases e2
    exact ⟨u,r,.inl ⟨hk,by simp⟩⟩
   ·rw [List.getElem?_set_ne (Ne.symm hj)] at e2
    obtain ⟨u',r',q⟩:=hl j y v' e1 e2 e3
    refine ⟨u',r',?_⟩
    rcases q with ⟨k,e⟩ | ⟨k,c,e,z⟩
    ·refine .inl ⟨k,?_⟩
     have:y≠x:=fun e=>hj (ZU hN e1 (e ▸ hi))
     simp [this,e]
    ·exact .inr ⟨k,c,e,z.sameBut hs (cne y c e)⟩
  ·obtain ⟨w',z⟩:=I.cell y c e
   exact ⟨w',z.sameBut hs (cne y c e)⟩
  ·obtain ⟨e,n,ne,nf,d⟩:=I.pin p hp
   exact ⟨(hs.2 p.1 ne).trans e,n,ne,nf,d⟩
 ·have hfn:X.fn x=true:=by
   rcases hf with z | z
   ·exact z
   ·rw [z] at hk;cases hk
  obtain ⟨c,hc⟩:=I.ok.has x (.inl hk)
  obtain ⟨w',z⟩:=I.cell x c hc
  refine wpAny_storeName_cell I.ok.kind hk hc z (fun h' hc' hs=>?_)
  obtain ⟨oc,hoc,hocd⟩:=id z
  refine h { s with heap:=h' } ⟨I.ok,I.os,I.bare,⟨fun b o e n hb hx=>?_,fun b o e n hb hx=>?_,I.base.free,fun b o e hx=>?_,I.base.tups,I.base.frzs,I.base.tbls,fun b o xs q e hb hx=>(hs.2 b (Nat.ne_of_lt (Nat.lt_of_lt_of_le (Heap.lt_size e) (I.ok.cab x c hfn hc)))).trans (I.base.stay b o xs q e hb hx)⟩,⟨m,hn.sameBut hs (Ne.symm (cne x c hc)),fun j y v' e1 e2 e3=>?_⟩,fun y c' e=>?_,I.free,I.freeC,fun p hp=>?_,tracked ⟨oc,hoc,I.freeC x c hc⟩ hs,by simpa using I.len⟩ ⟨c,hs,.inr hc⟩
  ·exact (hs.2 b (Nat.ne_of_lt (Nat.lt_of_lt_of_le (Heap.lt_size e) (I.ok.cab x c hfn hc)))).trans (I.base.keep b o e n hb hx)
  ·obtain ⟨sl,e1⟩:=I.base.slot b o e n hb hx
   exact ⟨sl,(hs.2 b (Nat.ne_of_lt (Nat.lt_of_lt_of_le (Heap.lt_size e) (I.ok.cab x c hfn hc)))).trans e1⟩
  ·obtain ⟨o',e1⟩:=I.base.there b o e hx
   exact ⟨o',(hs.2 b (Nat.ne_of_lt (Nat.lt_of_lt_of_le (Heap.lt_size e) (I.ok.cab x c hfn hc)))).trans e1⟩
  ·by_cases hj:j=i
   ·subst hj
    rw [hi] at e1;cases e1
    rw [List.getElem?_set_self hiσ] at e2
    cases e2
    exact ⟨u,r,.inr ⟨.inl hk,c,hc,hc'⟩⟩
   ·rw [List.getElem?_set_ne (Ne.symm hj)] at e2
    obtain ⟨u',r',q⟩:=hl j y v' e1 e2 e3
    refine ⟨u',r',?_⟩
    rcases q with q | ⟨k,c',e,z'⟩
    ·exact .inl q
    ·refine .inr ⟨k,c',e,z'.sameBut hs ?_⟩
     rintro rfl
     exact hj (ZU hN e1 (I.ok.inj _ _ _ e hc ▸ hi))
  ·by_cases hcc:c'=c
   ·subst hcc;exact ⟨_,hc'⟩
   ·obtain ⟨w2,z2⟩:=I.cell y c' e
    exact ⟨w2,z2.sameBut hs hcc⟩
  ·obtain ⟨e,n,ne,nf,d⟩:=I.pin p hp
   refine ⟨(hs.2 p.1 ?_).trans e,n,ne,nf,d⟩
   intro q
   rw [q,hoc] at e
   have q':oc=p.2:=Option.some.inj e
   exact d w' (by rw [← q'];exact hocd)
theorem yN {M:Model} {A:Around} {E:Value→Shared→Prop} {i:Nat} {x:Str} {v:V} {u:Value} {Q:Unit→Shared→Prop} (I:Inv X pins σ H s) (hN:X.N.Nodup) (hi:X.N[i]?=some x) (hx:Loc X.env.scope x) (r:RelV v u)
  (h:∀ s',Inv X pins (σ.set i (some v)) H s'→Q () s') (hf:X.fn x=true∨X.env.scope.names.lookup x=some .local:=by first | exact .inl rfl | exact .inr rfl | assumption):wpAny M A (storeName X.env x u) Q E s:=
 Yk I hN hi hx r (fun s' I' _=>h s' I') hf
theorem Inv.call' {s':Shared} {ch:List Addr} (I:Inv X pins σ H s) (ho:s'.os=s.os) (u:Un (frs X.stack) ch H H' s.heap s'.heap) (hok:HOk X.prog X.w H' s'.heap) (hg:AllBare s'.gens)
  (hch:∀ b∈ch,(b∈X.ex∨X.s₀.heap.objs.size≤b)∧b≠X.env.locals∧(∀ x c,X.env.cells.lookup x=some c→c≠b)∧∀ p∈X.pn++pins,p.1≠b):Inv X pins σ H' s':=by
 obtain ⟨h',g',d',t',o'⟩:=s'
 have e:o'=s.os:=ho
 subst e
 exact I.call (g':=g') (t':=t') (d':=d') u hok hg hch
end
abbrev XK:=Value→Option Addr→Hp→Prop
abbrev St:=List (Option V)
abbrev VK:=V→Hp→Prop
abbrev TE:=St→Hp→VK→Prop
abbrev TT:=St→Hp→(Bool→Hp→Prop)→Prop
abbrev TA:=St→Hp→(List V→Hp→Prop)→Prop
structure Ends where
 nx:St→Hp→Prop
 rt:VK
 bk:St→Hp→Prop:=fun _ _=>False
 ct:St→Hp→Prop:=fun _ _=>False
abbrev TS:=Ends→St→Hp→Prop
def EP (X:Cx) (pins:List (Addr×Obj)) (σ:St) (Q:VK) (u:Value) (s':Shared):Prop:=∃ v H',Inv X pins σ H' s'∧RelV v u∧Q v H'
def TP (X:Cx) (pins:List (Addr×Obj)) (σ:St) (Q:Bool→Hp→Prop) (b:Bool) (s':Shared):Prop:=∃ H',Inv X pins σ H' s'∧Q b H'
def AP (X:Cx) (pins:List (Addr×Obj)) (σ:St) (Q:List V→Hp→Prop) (us:List Value) (s':Shared):Prop:=∃ vs H',Inv X pins σ H' s'∧Vals vs us∧Q vs H'
def SP (X:Cx) (pins:List (Addr×Obj)) (D:Ends) (f:Flow) (s':Shared):Prop:=
 match f with
 | .next=>∃ σ' H',Inv X pins σ' H' s'∧D.nx σ' H'
 | .brk=>∃ σ' H',Inv X pins σ' H' s'∧D.bk σ' H'
 | .cont=>∃ σ' H',Inv X pins σ' H' s'∧D.ct σ' H'
 | .ret u=>∃ v σ' H',Inv X pins σ' H' s'∧RelV v u∧D.rt v H'
def PE (X:Cx) (e:Expr) (t:TE):Prop:=
 ∀ (pins:List (Addr×Obj)) (s:Shared) (σ:St) (H:Hp) (Q:VK),Inv X pins σ H s→t σ H Q→wpAny (model X.prog X.w) X.A (eval e X.env) (EP X pins σ Q) X.xe s
def PT (X:Cx) (e:Expr) (t:TT):Prop:=
 ∀ (pins:List (Addr×Obj)) (s:Shared) (σ:St) (H:Hp) (Q:Bool→Hp→Prop),Inv X pins σ H s→t σ H Q→wpAny (model X.prog X.w) X.A (isTrue e X.env (eval e X.env)) (TP X pins σ Q) X.xe s
def PW (X:Cx) (e:Expr) (t:TT):Prop:=
 ∀ (whole:Sem Value) (pins:List (Addr×Obj)) (s:Shared) (σ:St) (H:Hp) (Q:Bool→Hp→Prop),Inv X pins σ H s→t σ H Q→wpAny (model X.prog X.w) X.A (isTrue e X.env whole) (TP X pins σ Q) X.xe s
theorem PW.pt {X:Cx} {e:Expr} {t:TT} (h:PW X e t):PT X e t:=h _
def PA (X:Cx) (es:List Expr) (t:TA):Prop:=
 ∀ (pos:Pos) (pins:List (Addr×Obj)) (s:Shared) (σ:St) (H:Hp) (Q:List V→Hp→Prop),Inv X pins σ H s→t σ H Q→wpAny (model X.prog X.w) X.A (spliced (backTo pos (starEach es X.env))) (AP X pins σ Q) X.xe s
def PS (X:Cx) (st:Stmt) (t:TS):Prop:=
 ∀ (pins:List (Addr×Obj)) (s:Shared) (σ:St) (H:Hp) (D:Ends),Inv X pins σ H s→t D σ H→wpAny (model X.prog X.w) X.A (exec st X.env) (SP X pins D) X.xe s
def PSs (X:Cx) (st:List Stmt) (t:TS):Prop:=
 ∀ (pins:List (Addr×Obj)) (s:Shared) (σ:St) (H:Hp) (D:Ends),Inv X pins σ H s→t D σ H→wpAny (model X.prog X.w) X.A (execs st X.env) (SP X pins D) X.xe s
theorem thn {α:Type} {t:Sem α} {Q Q':α→Shared→Prop} {M:Model} {A:Around} {E:Value→Shared→Prop} {s:Shared} (h:wpAny M A t Q E s) (hQ:∀ a s,Q a s→Q' a s):wpAny M A t Q' E s:=wpAny_mono h hQ fun _ _ x=>x
section
variable {X:Cx}
theorem bin {a b:Expr} {ta tb:TE} (ha:PE X a ta) (hb:PE X b tb) {pins:List (Addr×Obj)} {s:Shared} {σ:St} {H:Hp} {R:V→V→Hp→Prop} (I:Inv X pins σ H s) (h:ta σ H fun x H1=>tb σ H1 fun y H2=>R x y H2)
  {α:Type} {Q:α→Shared→Prop} {f:Value→Value→Sem α}
  (hf:∀ v u s2 x y H2,Inv X pins σ H2 s2→RelV x v→RelV y u→R x y H2→wpAny (model X.prog X.w) X.A (f v u) Q X.xe s2) :
  wpAny (model X.prog X.w) X.A (eval a X.env) (fun v s₁=>wpAny (model X.prog X.w) X.A (eval b X.env) (fun u s₂=>wpAny (model X.prog X.w) X.A (f v u) Q X.xe s₂) X.xe s₁) X.xe s:=by
 refine thn (ha pins s σ H _ I h) fun v s1 ⟨x,H1,I1,r1,q1⟩=>?_
 refine thn (hb pins s1 σ H1 _ I1 q1) fun u s2 ⟨y,H2,I2,r2,q2⟩=>?_
 exact hf v u s2 x y H2 I2 r1 r2 q2
def jap (i:Nat):TE:=fun σ H Q=>∃ v,σ[i]?=some (some v)∧Q v H
def tC (v:V):TE:=fun _ H Q=>Q v H
theorem jdE {i:Nat} {x:Str} {pos:Pos} (hN:X.N[i]?=some x) (hv:Vis X.env.scope x) (hd:(x == ("__debug__" : Str))=false:=by decide) (hcd:(x == ("__classdict__" : Str))=false:=by decide):PE X (.Name x pos) (jap i):=by
 intro pins s σ H Q I h
 obtain ⟨v,e,h⟩:=h
 obtain ⟨m,hn,hl⟩:=I.loc
 obtain ⟨u,r,l⟩:=hl i x v hN e hv
 have fin:EP X pins σ Q u s:=⟨v,H,I,r,h⟩
 rcases l with ⟨hk,hm⟩ | ⟨hk,c,hc,hcell⟩
 ·exact wpAny_Name (wpAny_loadName_local I.ok.kind hk hn hm fin) hd
 ·rcases hk with hk | hk
  ·exact wpAny_Name (wpAny_loadName_cell I.ok.kind hk hc hcell fin) hd
  ·exact wpAny_Name (wpAny_loadName_free I.ok.kind hk hc hcell fin hcd) hd
theorem jdJ {i j pos}:PE X (.Constant (.int i) j pos) (tC (.int i)):=fun _ _ _ H _ I h=>wpAny_Constant_int ⟨.int i,H,I.tok _,⟨_,rfl⟩,h⟩
theorem jhQ {b j pos}:PE X (.Constant (.bool b) j pos) (tC (.bl b)):=fun _ _ _ H _ I h=>Constant_bool ⟨.bl b,H,I,rfl,h⟩
theorem jdG {x j pos}:PE X (.Constant (.str x) j pos) (tC (.str x)):=fun _ _ _ H _ I h=>Calls.Constant_str ⟨.str x,H,I.tok _,⟨_,rfl⟩,h⟩
def Gl (X:Cx) (x:Str):Prop:=X.env.kindOf x=some .globalImplicit
theorem Y9 {E:Value→Shared→Prop} {pins:List (Addr×Obj)} {s:Shared} {σ:St} {H:Hp} {x:Str} {u:Value} {pos:Pos} {Q:Value→Shared→Prop} (I:Inv X pins σ H s) (hg:Gl X x) (hm:X.mg x=some u) (h:Q u s)
  (hd:(x == ("__debug__" : Str))=false:=by decide):wpAny (model X.prog X.w) X.A (eval (.Name x pos) X.env) Q E s:=
 Calls.Name_function_global I.ok.kind hg (Calls.loadGlobal_global (by rw [I.ok.glob];exact I.mod.glob.keeps I.bk) hm h) hd
theorem KH {E:Value→Shared→Prop} {pins:List (Addr×Obj)} {s:Shared} {σ:St} {H:Hp} {x:Str} {u:Value} {pos:Pos} {Q:Value→Shared→Prop} (I:Inv X pins σ H s) (hg:Gl X x) (hm:X.mg x=none) (hv:bootBuiltins x=some u) (h:Q u s)
  (hn:x≠"__name__":=by decide) (hd:(x == ("__debug__" : Str))=false:=by decide):wpAny (model X.prog X.w) X.A (eval (.Name x pos) X.env) Q E s:=by
 obtain ⟨mb,h1,h2⟩:=I.mod.blt
 exact Calls.Name_function_global I.ok.kind hg (Calls.loadGlobal_builtin (by rw [I.ok.glob];exact I.mod.glob.keeps I.bk) hm (by rw [I.ok.blt];exact h1.keeps I.bk) ((h2 x hn).trans hv) h) hd
theorem jfe {x:Str} {v:V} {u:Value} {pos:Pos} (hg:Gl X x) (hm:X.mg x=some u) (r:RelV v u) (hd:(x == ("__debug__" : Str))=false:=by decide):PE X (.Name x pos) (tC v):=
 fun _ _ _ H _ I h=>Y9 I hg hm ⟨v,H,I,r,h⟩ hd
theorem jfk {x:Str} {v:V} {u:Value} {pos:Pos} (hg:Gl X x) (hm:X.mg x=none) (hv:bootBuiltins x=some u) (r:RelV v u) (hn:x≠"__name__":=by decide) (hd:(x == ("__debug__" : Str))=false:=by decide):PE X (.Name x pos) (tC v):=
 fun _ _ _ H _ I h=>KH I hg hm hv ⟨v,H,I,r,h⟩ hn hd
variable {a b:Expr} {ta tb:TE} {pos:Pos}
def PC (X:Cx) (op:CmpOp) (a b:Expr) (t:TE):Prop:=
 ∀ (pins:List (Addr×Obj)) (s:Shared) (σ:St) (H:Hp) (Q:VK),Inv X pins σ H s→t σ H Q→
  wpAny (model X.prog X.w) X.A (eval a X.env) (fun v s₁=>wpAny (model X.prog X.w) X.A (eval b X.env) (fun u s₂=>wpAny (model X.prog X.w) X.A (compareOp op v u) (EP X pins σ Q) X.xe s₂) X.xe s₁) X.xe s
theorem jd7 (b:Expr) {op:CmpOp} (h:op≠.In) (h2:op≠.NotIn):behindInMarks op b=false:=by
 have e1:(op == CmpOp.In)=false:=by cases op <;> first | rfl | exact absurd rfl h
 have e2:(op == CmpOp.NotIn)=false:=by cases op <;> first | rfl | exact absurd rfl h2
 cases b <;> simp [behindInMarks,e1,e2]
def tB (t:TE):TT:=fun σ H Q=>t σ H fun x H1=>∃ c,x=.bl c∧Q c H1
theorem jgD {op:CmpOp} {t:TE} (h:PC X op a b t) (h1:behindInMarks op b=false:=by first | exact jd7 _ (by decide) (by decide) | rfl):PT X (.Compare a [op] [b] pos) (tB t):=by
 intro pins s σ H Q I hw
 refine wpAny_isTrue_Compare1 (thn (h pins s σ H _ I hw) fun v s1 h1=>thn h1 fun u s2 h2=>thn h2 fun c s3 ⟨x,H1,I1,r1,q1⟩=>?_) h1
 obtain ⟨d,rfl,q⟩:=q1
 cases r1
 exact wpAny_truthy_bool ⟨H1,I1,q⟩
theorem jgB {e:Expr} {t:TE} (h:PE X e t) (he:∀ whole,isTrue e X.env whole=(do let v ← whole;standAt e.pos;holding [v] (truthy v)):=by intro _;rfl):PT X e (tB t):=by
 intro pins s σ H Q I hw
 refine isTrue_plain (thn (h pins s σ H _ I hw) fun v s1 ⟨x,H1,I1,r1,q1⟩=>?_) (he _)
 obtain ⟨d,rfl,q⟩:=q1
 cases r1
 exact wpAny_truthy_bool ⟨H1,I1,q⟩
variable {tA tB':TT} {zC:List Expr}
def tOr (t u:TT):TT:=fun σ H Q=>t σ H fun c H1=>if c=true then Q true H1 else u σ H1 Q
def jhv (t:TT):TT:=fun σ H Q=>t σ H fun c H1=>Q (!c) H1
theorem jgz (ha:PT X a tA):PW X (.BoolOp .Or [a] pos) tA:=by
 intro wh pins s σ H Q I h
 refine isTrue_or (thn (ha pins s σ H Q I h) fun c s1 e=>?_)
 cases c with
 | false=>exact isTrue_or_nil e
 | true=>exact e
theorem jhH (ha:PT X a tA) (hb:PW X (.BoolOp .Or (b :: zC) pos) tB'):PW X (.BoolOp .Or (a :: b :: zC) pos) (tOr tA tB'):=by
 intro wh pins s σ H Q I h
 refine isTrue_or (thn (ha pins s σ H _ I h) fun c s1 ⟨H1,I1,q1⟩=>?_)
 cases c with
 | true=>exact ⟨H1,I1,q1⟩
 | false=>exact hb wh pins s1 σ H1 Q I1 q1
theorem jgC (ha:PT X a tA):PT X (.UnaryOp .Not a pos) (jhv tA):=by
 intro pins s σ H Q I h
 exact isTrue_not (ha pins s σ H (fun c H1=>Q (!c) H1) I h)
end
def SqL (K:PySem.W.Frag) (H:Hp) (a:Addr) (xs:List V):Prop:=
 Rd H a (.lst xs)∨
  ∃ (o:Obj) (its:Array Value) (n:Nat),K.lookup a=some o∧o.cls=.type "list"∧o.dict=none∧o.data=.seq its n∧its.size≤sizeLine∧Vals xs its.toList
def SqT (K:PySem.W.Frag) (H:Hp) (a:Addr) (xs:List V):Prop:=
 Rd H a (.tup xs)∨
  ∃ (o:Obj) (its:Array Value) (n:Nat),K.lookup a=some o∧o.cls=.type "tuple"∧o.data=.seq its n∧its.size≤sizeLine∧Vals xs its.toList
def jiu:Value→Option V
 | .none=>some .non
 | .bool b=>some (.bl b)
 | .int i _=>some (.int i)
 | .str x _=>some (.str x)
 | .bytes b _=>some (.byt b)
 | .float b _=>some (.flt b)
 | .ref a=>some (.ref a)
 | .type n=>some (.ty n)
 | _=>none
theorem RelV.abs {x:V} {u:Value} (r:RelV x u):jiu u=some x:=by
 cases x with
 | non=>cases r;rfl
 | bl _=>cases r;rfl
 | int _=>obtain ⟨t,rfl⟩:=r;rfl
 | str _=>obtain ⟨t,rfl⟩:=r;rfl
 | byt _=>obtain ⟨t,rfl⟩:=r;rfl
 | flt _=>obtain ⟨t,rfl⟩:=r;rfl
 | ref _=>cases r;rfl
 | ty _=>cases r;rfl
theorem RelV.inj {x y:V} {u:Value} (r:RelV x u) (q:RelV y u):x=y:=Option.some.inj (r.abs.symm.trans q.abs)
theorem Vals.inj:∀ {xs ys:List V} {us:List Value},Vals xs us→Vals ys us→xs=ys
 | _,_,_,.nil,.nil=>rfl
 | _,_,_,.cons r t,.cons r' t'=>by rw [r.inj r',Vals.inj t t']
section
variable {X:Cx} {pins:List (Addr×Obj)} {σ:St} {H:Hp} {s:Shared} {a:Addr} {xs ys:List V}
theorem SqL.of {K:PySem.W.Frag} (h:H a=some (.lst xs)):SqL K H a xs:=.inl (.inl h)
theorem SqT.of {K:PySem.W.Frag} (h:H a=some (.tup xs)):SqT K H a xs:=.inl (.inl h)
theorem Inv.list (I:Inv X pins σ H s) (h:SqL X.K H a xs):∃ its:List Value,Vals xs its∧PlainL s.heap a its.toArray∧xs.length≤sizeLine:=by
 rcases h with h | ⟨o,its,n,hk,hc,hd,hs,hz,r⟩
 ·obtain ⟨z,its,n,r,e⟩:=h.ok I.hok
  exact ⟨its,r,⟨_,n,e,rfl,rfl,rfl⟩,z⟩
 ·refine ⟨its.toList,r,⟨o,n,I.kIn a o hk,hc,hd,by simpa using hs⟩,?_⟩
  have e:=r.length
  simp only [Array.length_toList] at e
  omega
theorem Inv.tuple (I:Inv X pins σ H s) (h:SqT X.K H a xs):∃ its:List Value,Vals xs its∧IsTup s.heap a its.toArray∧xs.length≤sizeLine:=by
 rcases h with h | ⟨o,its,n,hk,hc,hs,hz,r⟩
 ·obtain ⟨z,its,r,p⟩:=h.ok I.hok
  exact ⟨its,r,p,z⟩
 ·refine ⟨its.toList,r,⟨o,I.kIn a o hk,hc,n,by simpa using hs⟩,?_⟩
  have e:=r.length
  simp only [Array.length_toList] at e
  omega
theorem Inv.list_inj (I:Inv X pins σ H s) (h:SqL X.K H a xs) (h':SqL X.K H a ys):xs=ys:=by
 obtain ⟨its,r,⟨o,n,e,_,_,d⟩,_⟩:=I.list h
 obtain ⟨its',r',⟨o',n',e',_,_,d'⟩,_⟩:=I.list h'
 rw [e] at e';cases e'
 rw [d] at d'
 injection d' with d1 _
 have:its=its':=by simpa using congrArg Array.toList d1
 subst this
 exact r.inj r'
end
abbrev Cx.wish (X:Cx) (E:Value→Shared→Prop):Cx:={ X with xe:=E }
abbrev Cx.nox (X:Cx):Cx:=X.wish fun _ _=>False
theorem Cx.Ok.wish {X:Cx} (ok:X.Ok) (E:Value→Shared→Prop):(X.wish E).Ok:=
 ⟨ok.mod,ok.kind,ok.glob,ok.blt,ok.above,ok.inj,ok.has,ok.cab,ok.hd,ok.frames,ok.stk,ok.exf,ok.bs,ok.bsz,ok.noex,ok.exfs,ok.funs,ok.frf⟩
theorem Cx.Ok.unwish {X:Cx} {E:Value→Shared→Prop} (ok:(X.wish E).Ok):X.Ok:=
 ⟨ok.mod,ok.kind,ok.glob,ok.blt,ok.above,ok.inj,ok.has,ok.cab,ok.hd,ok.frames,ok.stk,ok.exf,ok.bs,ok.bsz,ok.noex,ok.exfs,ok.funs,ok.frf⟩
section
variable {X:Cx} {pins:List (Addr×Obj)} {σ:St} {H:Hp} {s:Shared} {E:Value→Shared→Prop}
theorem Inv.wish (I:Inv X pins σ H s) (E:Value→Shared→Prop):Inv (X.wish E) pins σ H s:=⟨I.ok.wish E,I.os,I.bare,I.base,I.loc,I.cell,I.free,I.freeC,I.pin,I.hok,I.len⟩
theorem Inv.unwish (I:Inv (X.wish E) pins σ H s):Inv X pins σ H s:=⟨I.ok.unwish,I.os,I.bare,I.base,I.loc,I.cell,I.free,I.freeC,I.pin,I.hok,I.len⟩
theorem SP.unwish {D:Ends} {f:Flow} {s':Shared} (h:SP (X.wish E) pins D f s'):SP X pins D f s':=by
 cases f with
 | next=>obtain ⟨σ',H',I,q⟩:=h;exact ⟨σ',H',I.unwish,q⟩
 | brk=>obtain ⟨σ',H',I,q⟩:=h;exact ⟨σ',H',I.unwish,q⟩
 | cont=>obtain ⟨σ',H',I,q⟩:=h;exact ⟨σ',H',I.unwish,q⟩
 | ret u=>obtain ⟨v,σ',H',I,r,q⟩:=h;exact ⟨v,σ',H',I.unwish,r,q⟩
theorem PSs.nox {st:List Stmt} {t:TS} (h:PSs X.nox st t):PSs X st t:=fun pins s σ H D I hw=>
 wpAny_mono (h pins s σ H D (I.wish _) hw) (fun _ _ q=>q.unwish) fun _ _ z=>False.elim z
end
section
variable {X:Cx} {st:Stmt} {zC:List Stmt} {t u:TS} {e:Expr} {te:TE} {pos:Pos}
def jf8:TS:=fun D σ H=>D.nx σ H
def jF (t u:TS):TS:=fun D σ H=>t { D with nx:=u D } σ H
theorem je2:PSs X [] jf8:=fun _ _ σ H _ I h=>wpAny_execs_nil ⟨σ,H,I,h⟩
theorem jdA (h1:PS X st t) (h2:PSs X zC u):PSs X (st :: zC) (jF t u):=by
 intro pins s σ H D I h
 refine wpAny_execs_cons (thn (h1 pins s σ H { D with nx:=u D } I h) fun f s1 q=>?_)
 cases f with
 | next=>
  obtain ⟨σ',H',I',q⟩:=q
  exact h2 pins s1 σ' H' D I' q
 | ret v=>exact q
 | brk=>exact q
 | cont=>exact q
theorem je1 (h1:PS X st t):PSs X [st] t:=by
 intro pins s σ H D I h
 refine wpAny_execs_cons (thn (h1 pins s σ H D I h) fun f s1 q=>?_)
 cases f with
 | next=>exact wpAny_execs_nil q
 | ret v=>exact q
 | brk=>exact q
 | cont=>exact q
theorem Inv.quiet {pins:List (Addr×Obj)} {σ:St} {H:Hp} {s:Shared} (I:Inv X pins σ H s):interactive X.env=false:=by simp [interactive,I.ok.kind]
def jc7 (te:TE):TS:=fun D σ H=>te σ H fun _ H1=>D.nx σ H1
theorem je5 (he:PE X e te) (hs:swapsWith e none pos.line X.env=pure false:=by rfl):PS X (.Expr e pos) (jc7 te):=by
 intro pins s σ H D I h
 exact wpAny_Expr_any (thn (he pins s σ H _ I h) fun v s1 ⟨x,H1,I1,r1,q1⟩=>⟨σ,H1,I1,q1⟩) I.quiet hs
def jgr (te:TE):TS:=fun D σ H=>te σ H D.rt
theorem jgF (he:PE X e te):PS X (.Return (some e) pos) (jgr te):=by
 intro pins s σ H D I h
 exact wpAny_Return_some (thn (he pins s σ H _ I h) fun v s1 ⟨x,H1,I1,r1,q1⟩=>⟨x,σ,H1,I1,r1,q1⟩)
def jf6:TS:=fun D _ H=>D.rt .non H
theorem je3:PS X (.Return none pos) jf6:=fun _ _ σ H _ I h=>wpAny_Return_none ⟨.non,σ,H,I,rfl,h⟩
def jhx (c:TT) (t u:TS):TS:=fun D σ H=>c σ H fun b H1=>if b=true then t D σ H1 else u D σ H1
theorem jhI {c:Expr} {a b:List Stmt} {tc:TT} (hc:PT X c tc) (ha:PSs X a t) (hb:PSs X b u):PS X (.If c a b pos) (jhx tc t u):=by
 intro pins s σ H D I h
 refine wpAny_If (thn (hc pins s σ H _ I h) fun d s1 ⟨H1,I1,q1⟩=>?_)
 cases d with
 | true=>exact ha pins s1 σ H1 D I1 q1
 | false=>exact hb pins s1 σ H1 D I1 q1
end
abbrev TG:=V→St→Hp→(St→Hp→Prop)→Prop
abbrev TGs:=List V→St→Hp→(St→Hp→Prop)→Prop
def PG (X:Cx) (target:Expr) (t:TG):Prop:=
 ∀ (pins:List (Addr×Obj)) (s:Shared) (σ:St) (H:Hp) (v:V) (u:Value) (Q:St→Hp→Prop),Inv X pins σ H s→RelV v u→t v σ H Q→
  wpAny (model X.prog X.w) X.A (assign target X.env u) (fun _ s'=>∃ σ' H',Inv X pins σ' H' s'∧Q σ' H') X.xe s
def PGs (X:Cx) (ts:List Expr) (t:TGs):Prop:=
 ∀ (pins:List (Addr×Obj)) (s:Shared) (σ:St) (H:Hp) (vs:List V) (us:List Value) (Q:St→Hp→Prop),Inv X pins σ H s→Vals vs us→t vs σ H Q→
  wpAny (model X.prog X.w) X.A (assignInOrder ((assignEach ts X.env).map (·.2)) us) (fun _ s'=>∃ σ' H',Inv X pins σ' H' s'∧Q σ' H') X.xe s
abbrev jf2:=V→V→V→Hp→(Hp→Prop)→Prop
def jhk (X:Cx) (t:jf2):Prop:=
 ∀ (pins:List (Addr×Obj)) (s:Shared) (σ:St) (H:Hp) (o i v:V) (ov iv u:Value) (Q:Hp→Prop),Inv X pins σ H s→RelV o ov→RelV i iv→RelV v u→t o i v H Q→
  wpAny (model X.prog X.w) X.A (setItem ov iv u) (fun _ s'=>∃ H',Inv X pins σ H' s'∧Q H') X.xe s
section
variable {X:Cx} {pos:Pos}
def qd (i:Nat):TG:=fun v σ H Q=>Q (σ.set i (some v)) H
theorem jfd {i:Nat} {x:Str} (hN:X.N.Nodup) (hi:X.N[i]?=some x) (hx:Loc X.env.scope x) (hf:X.fn x=true∨X.env.scope.names.lookup x=some .local:=by first | exact .inl rfl | exact .inr rfl | assumption):PG X (.Name x pos) (qd i):=by
 intro pins s σ H v u Q I r h
 exact wpAny_assign_Name (yN I hN hi hx r (fun s' I'=>⟨_,H,I',h⟩) hf)
def jh9:TGs:=fun vs σ H Q=>vs=[]∧Q σ H
def jgn (t:TG) (u:TGs):TGs:=fun vs σ H Q=>∃ v r,vs=v :: r∧t v σ H fun σ' H'=>u r σ' H' Q
theorem jfc:PGs X [] jh9:=by
 intro pins s σ H vs us Q I r h
 obtain ⟨e,h⟩:=h
 subst e
 cases r
 exact assignInOrder_nil ⟨σ,H,I,h⟩
theorem jdD {e:Expr} {es:List Expr} {t:TG} {u:TGs} (h1:PG X e t) (h2:PGs X es u)
  (hs:(assignEach (e :: es) X.env).map (·.2)=assign e X.env :: (assignEach es X.env).map (·.2):=by rfl):PGs X (e :: es) (jgn t u):=by
 intro pins s σ H vs us Q I r h
 obtain ⟨v,vr,e1,h⟩:=h
 subst e1
 cases r with
 | cons r rr=>
  rw [hs]
  refine assignInOrder_cons (thn (h1 pins s σ H _ _ _ I r h) fun _ s1 ⟨σ1,H1,I1,q1⟩=>?_)
  exact h2 pins s1 σ1 H1 _ _ Q I1 rr q1
def jh7 (K:PySem.W.Frag) (n:Nat) (t:TGs):TG:=fun v σ H Q=>∃ a xs,v=.ref a∧SqT K H a xs∧xs.length=n∧t xs σ H Q
theorem jgK {es:List Expr} {k:Nat} {t:TGs} {n:Nat} (hc:X.calm=true) (h:PGs X es t)
  (hn:(assignEach es X.env).length=n:=by rfl) (hst:(assignEach es X.env).findIdx? (·.1)=none:=by rfl):PG X (.Tuple es k pos) (jh7 X.K n t):=by
 intro pins s σ H v u Q I r hw
 obtain ⟨a,xs,e1,hq,hl,hw⟩:=hw
 subst e1
 cases r
 obtain ⟨its,rv,ht,hz⟩:=I.tuple hq
 refine assign_Tuple_tuple (I.ok.hd hc) ht (by simp [hn,← hl,rv.length]) hst fun h' hx=>?_
 have I1:Inv X pins σ H { s with heap:=h' }:=I.kept (t':=s.toks) fun b o e=>hx b o (Nat.ne_of_lt (Heap.lt_size e)) e
 exact h pins _ σ H xs _ Q I1 (by simpa using rv) hw
def jh8 (to ti:TE) (t:jf2):TG:=fun v σ H Q=>to σ H fun o H1=>ti σ H1 fun i H2=>t o i v H2 fun H3=>Q σ H3
theorem jgL {o i:Expr} {to ti:TE} {t:jf2} (ho:PE X o to) (hi:PE X i ti) (hs:jhk X t)
  (ha:∀ v,assign (.Subscript o i pos) X.env v=(do
   let ov ← holding [v] (eval o X.env)
   let iv ← holding [v,ov] (eval i X.env)
   standAt pos
   holding [v,ov,iv] (setItem ov iv v)
   release [v,ov,iv] []):=by intro _;rfl):PG X (.Subscript o i pos) (jh8 to ti t):=by
 intro pins s σ H v u Q I r h
 rw [ha]
 refine wpAny_bind (wpAny_holding (thn (ho pins s σ H _ I h) fun ov s1 ⟨x,H1,I1,r1,q1⟩=>?_))
 refine wpAny_bind (wpAny_holding (thn (hi pins s1 σ H1 _ I1 q1) fun iv s2 ⟨y,H2,I2,r2,q2⟩=>?_))
 refine wpAny_bind (wpAny_standAt (wpAny_bind (wpAny_holding (thn (hs pins s2 σ H2 x y v ov iv u _ I2 r1 r2 r q2) fun _ s3 ⟨H3,I3,q3⟩=>?_))))
 exact wpAny_release ⟨σ,H3,I3,q3⟩
def YO (te:TE) (g:TG):TS:=fun D σ H=>te σ H fun x H1=>g x σ H1 D.nx
theorem jgJ {tg e:Expr} {te:TE} {g:TG} (he:PE X e te) (hg:PG X tg g) (hs:swapsWithSole [tg] e pos.line X.env=pure false:=by rfl) (hw:swappedStores [tg] e X.env=pure none:=by rfl)
  (h1:(assignEach [tg] X.env).map (·.2)=[assign tg X.env]:=by rfl):PS X (.Assign [tg] e pos) (YO te g):=by
 intro pins s σ H D I h
 refine wpAny_Assign_stores (thn (he pins s σ H _ I h) fun v s1 ⟨x,H1,I1,r1,q1⟩=>?_) hs hw
 rw [h1]
 exact thn (hg pins s1 σ H1 x v _ I1 r1 q1) fun _ s2 q=>q
theorem jgE {i:Nat} {x:Str} {e:Expr} {te:TE} {pos':Pos} (hN:X.N.Nodup) (hi:X.N[i]?=some x) (hx:Loc X.env.scope x) (he:PE X e te) (hs:swapsWith e (some (.Name x pos')) pos.line X.env=pure false:=by rfl) (hf:X.fn x=true∨X.env.scope.names.lookup x=some .local:=by first | exact .inl rfl | exact .inr rfl | assumption) :
  PS X (.Assign [.Name x pos'] e pos) (YO te (qd i)):=by
 intro pins s σ H D I h
 refine wpAny_Assign_Name (thn (he pins s σ H _ I h) fun v s1 ⟨y,H1,I1,r1,q1⟩=>?_) hs
 exact yN I1 hN hi hx r1 (fun s2 I2=>⟨_,H1,I2,q1⟩) hf
def jhu (i j:Nat) (ta:TA):TS:=fun D σ H=>ta σ H fun vs H1=>∃ v w,vs=[v,w]∧D.nx ((σ.set i (some v)).set j (some w)) H1
theorem jgG {i j:Nat} {x y:Str} {a b:Expr} {ta:TA} {px py pt:Pos} {kt k2 pt2} (hc:X.calm=true) (hN:X.N.Nodup) (hi:X.N[i]?=some x) (hj:X.N[j]?=some y) (hij:i≠j)
  (hx:X.env.scope.names.lookup x=some .local) (hy:X.env.scope.names.lookup y=some .local) (ha:PA X [a,b] ta)
  (hw:swappedStores [.Tuple [.Name x px,.Name y py] kt pt] (.Tuple [a,b] k2 pt2) X.env=pure (some [x,y]))
  (hs:swapsWithSole [.Tuple [.Name x px,.Name y py] kt pt] (.Tuple [a,b] k2 pt2) pos.line X.env=pure false:=by rfl) :
  PS X (.Assign [.Tuple [.Name x px,.Name y py] kt pt] (.Tuple [a,b] k2 pt2) pos) (jhu i j ta):=by
 intro pins s σ H D I h
 rw [exec_Assign_arm]
 refine wpAny_bind (wpAny_standAt ?_)
 rw [hs]
 refine wpAny_bind (wpAny_pure ?_)
 rw [if_neg (by decide)]
 refine wpAny_bind (Tuple_ (thn (ha _ pins s σ H _ I h) fun us s1 ⟨vs,H1,I1,r1,q1⟩=>?_))
 obtain ⟨v,w,e1,q1⟩:=q1
 subst e1
 obtain ⟨u1,u2,rfl,rv,rw'⟩:∃ u1 u2,us=[u1,u2]∧RelV v u1∧RelV w u2:=by
  cases r1 with
  | cons p q=>
   cases q with
   | cons p' q'=>
    cases q'
    exact ⟨_,_,rfl,p,p'⟩
 refine wpAny_newObj_type ?_ (by show 2≤sizeLine;decide)
 have I2:Inv X pins σ H1 { s1 with heap:=s1.heap.push { cls:=.type "tuple",data:=.seq [u1,u2].toArray } }:=I1.kept (t':=s1.toks) fun b o e=>Heap.get?_push_of_some _ e
 rw [hw]
 refine wpAny_bind (wpAny_pure ?_)
 show wpAny (model X.prog X.w) X.A (do rule "assign.swapped-stores";let items ← unpackItems (.ref s1.heap.objs.size) 2 none;assignInOrder [fun v=>bindName X.env y v,fun v=>bindName X.env x v] items.reverse;pure Flow.next) _ _ _
 refine wpAny_bind (wpAny_rule (wpAny_bind (unpackItems_tuple (items:=#[u1,u2]) (I.ok.hd hc) (IsTup.new s1.heap _) fun h' hx'=>?_)))
 have I3:=I2.kept (h':=h') (t':=s1.toks) fun b o e=>hx' b o (Nat.ne_of_lt (Heap.lt_size e)) e
 show wpAny _ _ (assignInOrder [fun v=>bindName X.env y v,fun v=>bindName X.env x v] [u2,u1] >>= fun _=>pure Flow.next) _ _ _
 refine wpAny_bind (assignInOrder_cons (wpAny_bindName (yN I3 hN hj (.inl hy) rw' (fun s2 I4=>?_) (.inr hy))))
 refine assignInOrder_cons (wpAny_bindName (yN I4 hN hi (.inl hx) rv (fun s3 I5=>assignInOrder_nil (wpAny_pure ?_)) (.inr hx)))
 rw [List.set_comm _ _ (Ne.symm hij)] at I5
 exact ⟨_,H1,I5,q1⟩
end
structure It where
 go:Nat→Hp→Prop
 yld:Nat→Hp→V→Hp→Prop
 stop:Nat→Hp→Prop
def JY (X:Cx) (pins:List (Addr×Obj)) (H:Hp) (b:Addr):Prop:=
 H b=none∧b≠X.env.locals∧b ∉ X.fs∧(b∈X.ex∨X.s₀.heap.objs.size≤b)∧(∀ x c,X.env.cells.lookup x=some c→c≠b)∧∀ p∈X.pn++pins,p.1≠b
theorem Inv.fpOk {X:Cx} {pins:List (Addr×Obj)} {σ:St} {H H':Hp} {s:Shared} {b:Addr} (I:Inv X pins σ H s) (hb:s.heap.objs.size≤b) (hn:H' b=none):JY X pins H' b:=by
 refine ⟨hn,Nat.ne_of_gt (Nat.lt_of_lt_of_le I.lt hb),I.nofs hb,.inr (Nat.le_trans I.sz hb),fun x c e z=>?_,fun p hp z=>?_⟩
 ·obtain ⟨v,q⟩:=I.cell x c e
  exact absurd (Nat.lt_of_lt_of_le q.lt (by rw [z];exact hb)) (Nat.lt_irrefl _)
 ·exact absurd (Nat.lt_of_lt_of_le (Heap.lt_size (I.pin p hp).1) (by rw [z];exact hb)) (Nat.lt_irrefl _)
structure Turn (P:Program) (w:World) (K:PySem.W.Frag) (tg:Expr) (J:It) (fp:List Addr) (it:Addr) (tn:Nat→Heap→Prop):Prop where
 mem:it∈fp
 obj:∀ i h,tn i h→∀ b∈fp,∃ o,h.get? b=some o∧∀ v,o.data≠.cell v
 keep:∀ i h h',tn i h→(∀ b∈fp,∀ o,h.get? b=some o→h'.get? b=some o)→tn i h'
 item:∀ (X:Cx),X.prog=P→X.w=w→X.K=K→X.calm=true→∀ (i:Nat) (pins:List (Addr×Obj)) (s:Shared) (σ:St) (H:Hp) (E:Value→Shared→Prop),Inv X pins σ H s→(∀ b∈fp,JY X pins H b)→tn i s.heap→J.go i H→
  wpAny (model P w) X.A (pyNext (.ref it)) (fun r s1=>∃ u,r=some u∧
   wpAny (model P w) X.A (letOwnedTupleGo tg (.ref it) u) (fun _ s2=>∃ x H',Inv X pins σ H' s2∧RelV x u∧J.yld i H x H'∧tn (i+1) s2.heap∧∀ b∈fp,H' b=none) E s1) E s
 done:∀ (X:Cx),X.prog=P→X.w=w→X.K=K→X.calm=true→∀ (i:Nat) (pins:List (Addr×Obj)) (s:Shared) (σ:St) (H:Hp) (E:Value→Shared→Prop),Inv X pins σ H s→(∀ b∈fp,JY X pins H b)→tn i s.heap→J.stop i H→
  wpAny (model P w) X.A (pyNext (.ref it)) (fun r s1=>r=none∧Inv X pins σ H s1) E s
 self:∀ (A:Around) (i:Nat) (s:Shared) (Q:Value→Shared→Prop) (E:Value→Shared→Prop),tn i s.heap→Q (.ref it) s→wpAny (model P w) A (pyIter (.ref it)) Q E s
abbrev TI:=St→Hp→(It→Hp→Prop)→Prop
def PIE (X:Cx) (pins:List (Addr×Obj)) (σ:St) (tg:Expr) (R:It→Hp→Prop) (itv:Value) (s2:Shared):Prop:=
 ∃ (it:Addr) (fp:List Addr) (tn:Nat→Heap→Prop) (J:It) (H':Hp),itv=.ref it∧Inv X pins σ H' s2∧Turn X.prog X.w X.K tg J fp it tn∧tn 0 s2.heap∧(∀ b∈fp,JY X pins H' b)∧R J H'
def PI (X:Cx) (tg iter:Expr) (wi:TI):Prop:=
 ∀ (pins:List (Addr×Obj)) (s:Shared) (σ:St) (H:Hp) (R:It→Hp→Prop),Inv X pins σ H s→wi σ H R→
  wpAny (model X.prog X.w) X.A (eval iter X.env) (fun v s1=>wpAny (model X.prog X.w) X.A (pyIter v) (PIE X pins σ tg R) X.xe s1) X.xe s
theorem jgm {M:Model} {A:Around} {E:Value→Shared→Prop} {s:Shared} {tg:Expr} {it:Addr} {u:Value} {o:Obj} {n:String} {vs:Array Value} {Q:Unit→Shared→Prop} (ho:s.heap.get? it=some o) (hc:o.cls=.type n) (hd:o.data=.fields vs)
  (hn:["enumerate","zip","dict_itemiterator","dict_reverseitemiterator","odict_iterator","itertools.zip_longest","itertools.pairwise"].contains n=false) (hQ:Q () s):wpAny M A (letOwnedTupleGo tg (.ref it) u) Q E s:=by
 unfold letOwnedTupleGo
 cases tg <;> first
  | exact wpAny_pure hQ
  | (cases u <;> first
    | exact wpAny_pure hQ
    | (refine wpAny_bind (wpAny_load ho ?_)
       rw [hc,hd]
       show wpAny M A (if (["enumerate","zip","dict_itemiterator","dict_reverseitemiterator","odict_iterator","itertools.zip_longest","itertools.pairwise"].contains n && vs[0]? == some (rawInt _))=true then _ else _) Q E s
       rw [if_neg (by intro h;rw [hn,Bool.false_and] at h;cases h)]
       exact wpAny_pure hQ))
def Itl (K:PySem.W.Frag) (a:Addr):It:=
 ⟨fun i H=>∃ xs x,SqL K H a xs∧xs[i]?=some x,fun i H x H'=>H'=H∧∀ xs,SqL K H a xs→xs[i]?=some x,fun i H=>∃ xs,SqL K H a xs∧xs.length≤i⟩
def Itr (lo:Int) (n:Nat):It:=⟨fun i _=>i < n,fun i H x H'=>H'=H∧x=.int (lo+i),fun i _=>n≤i⟩
theorem jb4 {P:Program} {w:World} {K:PySem.W.Frag} {tg:Expr} (a it:Addr):Turn P w K tg (Itl K a) [it] it (fun i h=>h.IsListIter it a i) where
 mem:=by simp
 obj:=fun i h st b hb=>by
  have e:b=it:=by simpa using hb
  subst e
  obtain ⟨o,e,c,d⟩:=st
  exact ⟨o,e,fun v z=>by rw [d] at z;cases z⟩
 keep:=fun i h h' st k=>st.at fun o e=>k it (by simp) o e
 item:=by
  intro X hP hw hK hc i pins s σ H E I hf st hg
  subst hP hw hK
  obtain ⟨xs,x,hq,hx⟩:=hg
  obtain ⟨its,rv,p,hz⟩:=I.list hq
  obtain ⟨u,hu,ru⟩:=rv.get hx
  obtain ⟨f0,f1,f2,f3,f4,f5⟩:=hf it (by simp)
  refine wpAny_pyNext_list_item st p.isList (x:=u) (by simpa using hu) fun h' st' sb=>?_
  have I1:Inv X pins σ H { s with heap:=h' }:=I.turned (t':=s.toks) (fun b o hb e=>(sb.2 b hb).trans e) f0 f1 f3 f4 f5
  obtain ⟨o,e,c,d⟩:=id st'
  exact ⟨u,rfl,jgm (s:={ s with heap:=h' }) e c d (by decide) ⟨x,H,I1,ru,⟨rfl,fun ys hy=>by rw [I.list_inj hy hq];exact hx⟩,st',fun b hb=>(hf b hb).1⟩⟩
 done:=by
  intro X hP hw hK hc i pins s σ H E I hf st hg
  subst hP hw hK
  obtain ⟨xs,hq,hx⟩:=hg
  obtain ⟨its,rv,p,hz⟩:=I.list hq
  obtain ⟨f0,f1,f2,f3,f4,f5⟩:=hf it (by simp)
  have hl:=rv.length
  exact wpAny_pyNext_list_end (I.ok.hd hc) st p.isList (by simp;omega) fun h' eb=>⟨rfl,I.turned (t':=s.toks) (fun b o hb e=>eb b o hb e) f0 f1 f3 f4 f5⟩
 self:=fun _ _ _ _ _ st h=>wpAny_pyIter_listiter st h
theorem jam {P:Program} {w:World} {K:PySem.W.Frag} {tg:Expr} (it:Addr) (lo:Int) (n:Nat):Turn P w K tg (Itr lo n) [it] it (fun i h=>IsRangeIter h it (lo+(i:Nat) * 1) ((n:Int) - (i:Nat)) 1) where
 mem:=by simp
 obj:=fun i h st b hb=>by
  have e:b=it:=by simpa using hb
  subst e
  exact ⟨_,st,fun v z=>by
   have z':Data.fields _=Data.cell v:=z
   cases z'⟩
 keep:=fun i h h' st k=>k it (by simp) _ st
 item:=by
  intro X hP hw hK hc i pins s σ H E I hf st hg
  subst hP hw hK
  obtain ⟨f0,f1,f2,f3,f4,f5⟩:=hf it (by simp)
  have W:=Walks.range (prog:=X.prog) (w:=X.w) (I.ok.hd hc) it lo 1 n
  refine W.item i s _ _ hg st fun v h' tk hv st' kk=>?_
  obtain ⟨t,rfl⟩:=hv
  have I1:Inv X pins σ H { s with heap:=h',toks:=tk }:=I.turned (fun b o hb e=>kk b o (by simpa using hb) e) f0 f1 f3 f4 f5
  refine ⟨_,rfl,jgm (s:={ s with heap:=h',toks:=tk }) (n:="range_iterator") st' rfl rfl (by decide) ⟨.int (lo+i),H,I1,⟨t,?_⟩,⟨rfl,rfl⟩,st',fun b hb=>(hf b hb).1⟩⟩
  rw [Int.mul_one]
 done:=by
  intro X hP hw hK hc i pins s σ H E I hf st hg
  subst hP hw hK
  obtain ⟨f0,f1,f2,f3,f4,f5⟩:=hf it (by simp)
  exact wpAny_pyNext_range_end (I.ok.hd hc) st (by have:n≤i:=hg;omega) fun h' eb=>⟨rfl,I.turned (t':=s.toks) (fun b o hb e=>eb b o hb e) f0 f1 f3 f4 f5⟩
 self:=fun _ _ _ _ _ st h=>wpAny_pyIter_rangeiter st h
section
variable {X:Cx} {tg:Expr}
def jgk (K:PySem.W.Frag) (tl:TE):TI:=fun σ H R=>tl σ H fun x H1=>∃ a,x=.ref a∧(∃ xs,SqL K H1 a xs)∧R (Itl K a) H1
theorem jfa {l:Expr} {tl:TE} (hl:PE X l tl):PI X tg l (jgk X.K tl):=by
 intro pins s σ H R I h
 refine thn (hl pins s σ H _ I h) fun v s1 ⟨x,H1,I1,r1,q1⟩=>?_
 obtain ⟨a,e,⟨xs,hq⟩,q⟩:=q1
 subst e
 cases r1
 obtain ⟨its,rv,p,hz⟩:=I1.list hq
 refine wpAny_pyIter_list p.isList ?_
 refine ⟨s1.heap.objs.size,[s1.heap.objs.size],_,_,H1,rfl,I1.kept (t':=s1.toks) fun b o e=>Heap.get?_push_of_some _ e,jb4 a _,⟨_,Heap.get?_push_size _ rfl,rfl,rfl⟩,fun b hb=>?_,q⟩
 have e:b=s1.heap.objs.size:=by simpa using hb
 subst e
 exact I1.fpOk (Nat.le_refl _) (I1.hok.fresh (Nat.le_refl _))
theorem jdx {pins:List (Addr×Obj)} {σ:St} {H:Hp} {s:Shared} {R:It→Hp→Prop} {E:Value→Shared→Prop} {lo hi:Int} {t u v:Tok} {tk:Nat} (I:Inv X pins σ H s) (h1:-(2 ^ 62)≤lo) (h2:lo < 2 ^ 62) (h3:-(2 ^ 62)≤hi) (h4:hi < 2 ^ 62)
  (q:R (Itr lo (hi - lo).toNat) H):wpAny (model X.prog X.w) X.A (pyIter (.ref s.heap.objs.size)) (PIE X pins σ tg R) E { s with heap:=s.heap.push { cls:=.type "range",data:=.fields #[.int lo t,.int hi u,.int 1 v] },toks:=tk }:=by
 refine wpAny_pyIter_range (IsRange.new ..) (small_one h1 h2 h3 h4) ?_
 have I1:Inv X pins σ H { s with heap:=s.heap.push { cls:=.type "range",data:=.fields #[.int lo t,.int hi u,.int 1 v] },toks:=tk }:=I.kept fun b o e=>Heap.get?_push_of_some _ e
 refine ⟨(s.heap.push { cls:=.type "range",data:=.fields #[.int lo t,.int hi u,.int 1 v] }).objs.size,[(s.heap.push { cls:=.type "range",data:=.fields #[.int lo t,.int hi u,.int 1 v] }).objs.size],_,_,H,rfl,
  I1.kept (t':=tk) fun b o e=>Heap.get?_push_of_some _ e,jam _ lo (hi - lo).toNat,?_,fun b hb=>?_,q⟩
 ·have e1:lo+((0:Nat):Int) * 1=lo:=by simp
  have e2:(((hi - lo).toNat:Nat):Int) - ((0:Nat):Int)=Builtin.Range.rangeSize lo hi 1:=by rw [rangeSize_one];split <;> omega
  show IsRangeIter _ _ (lo+((0:Nat):Int) * 1) ((((hi - lo).toNat:Nat):Int) - ((0:Nat):Int)) 1
  rw [e1,e2]
  exact Heap.get?_push_size _ rfl
 ·have e:b=(s.heap.push { cls:=.type "range",data:=.fields #[.int lo t,.int hi u,.int 1 v] }).objs.size:=by simpa using hb
  subst e
  exact I1.fpOk (Nat.le_refl _) (I1.hok.fresh (Nat.le_refl _))
def jgj (ta:TA):TI:=fun σ H R=>ta σ H fun vs H1=>∃ j:Int,vs=[.int j]∧-(2 ^ 62)≤j∧j < 2 ^ 62∧R (Itr 0 j.toNat) H1
theorem jca {a:Expr} {ta:TA} {p pos:Pos} (hg:Gl X "range") (hm:X.mg "range" = none) (ha:PA X [a] ta) (hs:starEach [a] X.env=[(false,eval a X.env)]:=by rfl):PI X tg (.Call (.Name "range" p) [a] [] pos) (jgj ta):=by
 intro pins s σ H R I h
 refine Call_ (KH I hg hm boot_range (PyProof.Rows.callWith_type1 (thn (ha pos pins s σ H _ I h) fun us s1 ⟨vs,H1,I1,r1,q1⟩=>?_) hs rfl))
 obtain ⟨j,e,q1,q2,q⟩:=q1
 subst e
 cases r1 with
 | cons r rr=>
  cases rr
  obtain ⟨t,rfl⟩:=r
  exact call_range_1 (jdx I1 (by omega) (by omega) q1 q2 (by simpa using q))
def jhy (wi:TI) (g:TG) (tb:TS):TS:=fun D σ H=>wi σ H fun J H1=>∃ W:Nat→Nat→St→Hp→Prop,(∃ m,W 0 m σ H1)∧∀ i m σ H,W i m σ H→
 (J.stop i H∧D.nx σ H)∨(J.go i H∧∃ N:St→Hp→Prop,(∀ σ' H',N σ' H'→∃ m',m' < m∧W (i+1) m' σ' H')∧∀ x H',J.yld i H x H'→g x σ H' fun σ2 H2=>tb { D with nx:=N,ct:=N,bk:=D.nx } σ2 H2)
def zP (fp:List Addr) (h:Heap):List (Addr×Obj):=fp.filterMap fun b=>(h.get? b).map fun o=>(b,o)
theorem qi {fp:List Addr} {h:Heap} {b:Addr} {o:Obj} (hb:b∈fp) (e:h.get? b=some o):(b,o)∈zP fp h:=List.mem_filterMap.mpr ⟨b,hb,by rw [e];rfl⟩
theorem jcj {fp:List Addr} {h:Heap} {p:Addr×Obj} (hp:p∈zP fp h):p.1∈fp∧h.get? p.1=some p.2:=by
 obtain ⟨b,hb,e⟩:=List.mem_filterMap.mp hp
 cases q:h.get? b with
 | none=>rw [q] at e;cases e
 | some o=>
  rw [q] at e
  have e':(b,o)=p:=Option.some.inj e
  subst e'
  exact ⟨hb,q⟩
theorem Inv.pinned {pins:List (Addr×Obj)} {σ:St} {H:Hp} {s:Shared} {fp:List Addr} (I:Inv X pins σ H s) (hf:∀ b∈fp,JY X pins H b) (ho:∀ b∈fp,∃ o,s.heap.get? b=some o∧∀ v,o.data≠.cell v):Inv X (pins++zP fp s.heap) σ H s:=
 I.pins_of fun p hp=>(List.mem_append.mp hp).elim (fun z=>I.pin p (List.mem_append_right _ z)) fun z=>by
  obtain ⟨hb,e⟩:=jcj z
  obtain ⟨f0,f1,f2,_⟩:=hf p.1 hb
  obtain ⟨o,e',d⟩:=ho p.1 hb
  rw [e] at e';cases e'
  exact ⟨e,f0,f1,f2,d⟩
theorem Inv.unpinned {pins pl:List (Addr×Obj)} {σ:St} {H:Hp} {s:Shared} (I:Inv X (pins++pl) σ H s):Inv X pins σ H s:=I.pins_of fun p hp=>I.pin p (List.mem_append_right _ (List.mem_append_left _ hp))
theorem jgH {iter:Expr} {body:List Stmt} {wi:TI} {g:TG} {tb:TS} {pos:Pos} (hp:PassesOwn (model X.prog X.w) X.A X.env X.xe) (hc:X.calm=true) (hi:PI X tg iter wi) (hg:PG X tg g) (hb:PSs X body tb)
  (hs:∀ x,foldedSetIterable iter X.env x=pure x:=by intro _;rfl):PS X (.For tg iter body [] pos) (jhy wi g tb):=by
 intro pins s σ H D I h
 refine wpAny_For (thn (hi pins s σ H _ I h) fun v s1 h1=>thn h1 fun itv s2 h2=>?_) hs
 obtain ⟨it,fp,tn,J,H2,e,I2,T,st2,f2,W,⟨m0,w0⟩,turn⟩:=h2
 subst e
 have stat:∀ {H':Hp},(∀ b∈fp,H' b=none)→∀ b∈fp,JY X pins H' b:=fun hn b hb=>⟨hn b hb,(f2 b hb).2⟩
 refine codeAny_forLoop_any (fun n s'=>∃ i σ' H',Inv X pins σ' H' s'∧tn i s'.heap∧(∀ b∈fp,H' b=none)∧W i n σ' H') ?_ m0 ⟨0,σ,H2,I2,st2,fun b hb=>(f2 b hb).1,w0⟩
 rintro n s3 ⟨i,σ3,H3,I3,st3,fr3,w3⟩
 rcases turn i n σ3 H3 w3 with ⟨stop,qn⟩ | ⟨go,N,hN,step⟩
 ·refine wpAny_passesOwn hp (thn (T.done X rfl rfl rfl hc i pins s3 σ3 H3 X.xe I3 (stat fr3) st3 stop) fun r s4 ⟨hr,I4⟩=>?_)
  subst hr
  exact wpAny_execs_nil ⟨σ3,H3,I4,qn⟩
 ·refine wpAny_passesOwn hp (thn (T.item X rfl rfl rfl hc i pins s3 σ3 H3 X.xe I3 (stat fr3) st3 go) fun r s4 ⟨u,hr,h4⟩=>?_)
  subst hr
  refine wpAny_passesOwn hp (thn h4 fun _ s5 ⟨x,H5,I5,r5,y5,st5,fr5⟩=>?_)
  have I5':=I5.pinned (stat fr5) (T.obj _ _ st5)
  refine wpAny_passesOwn hp (thn (hg _ s5 σ3 H5 x u _ I5' r5 (step x H5 y5)) fun _ s6 ⟨σ6,H6,I6,q6⟩=>?_)
  refine wpAny_passesOwn hp (thn (hb _ s6 σ6 H6 _ I6 q6) fun f s7 q7=>?_)
  have again:∀ {σ7:St} {H7:Hp},Inv X (pins++zP fp s5.heap) σ7 H7 s7→N σ7 H7→∃ m,m < n∧∃ i σ' H',Inv X pins σ' H' s7∧tn i s7.heap∧(∀ b∈fp,H' b=none)∧W i m σ' H':=fun {σ7 H7} I7 n7=>by
   obtain ⟨m',hm,w7⟩:=hN σ7 H7 n7
   refine ⟨m',hm,i+1,σ7,H7,I7.unpinned,T.keep _ _ _ st5 fun b hb o e=>(I7.pin (b,o) (List.mem_append_right _ (List.mem_append_right _ (qi hb e)))).1,fun b hb=>?_,w7⟩
   obtain ⟨o,e,d⟩:=T.obj _ _ st5 b hb
   exact (I7.pin (b,o) (List.mem_append_right _ (List.mem_append_right _ (qi hb e)))).2.1
  cases f with
  | next=>obtain ⟨σ7,H7,I7,n7⟩:=q7;exact again I7 n7
  | cont=>obtain ⟨σ7,H7,I7,n7⟩:=q7;exact again I7 n7
  | brk=>obtain ⟨σ7,H7,I7,q7⟩:=q7;exact ⟨σ7,H7,I7.unpinned,q7⟩
  | ret v=>obtain ⟨x7,σ7,H7,I7,r7,q7⟩:=q7;exact ⟨x7,σ7,H7,I7.unpinned,r7,q7⟩
end
theorem Z5 {K:PySem.W.Frag} {a:Addr} {xs:List V} {g:TG} {tb:TS} {D:Ends} {σ:St} {H:Hp} (Pv:Nat→St→Hp→Prop) (h0:Pv 0 σ H) (hl:∀ i σ H,i≤xs.length→Pv i σ H→SqL K H a xs)
  (hs:∀ i x σ H,xs[i]?=some x→Pv i σ H→g x σ H fun σ2 H2=>tb { D with nx:=Pv (i+1),ct:=Pv (i+1),bk:=D.nx } σ2 H2) (hd:∀ σ H,Pv xs.length σ H→D.nx σ H) :
  ∃ W:Nat→Nat→St→Hp→Prop,(∃ m,W 0 m σ H)∧∀ i m σ H,W i m σ H→
   ((Itl K a).stop i H∧D.nx σ H)∨((Itl K a).go i H∧∃ N:St→Hp→Prop,(∀ σ' H',N σ' H'→∃ m',m' < m∧W (i+1) m' σ' H')∧∀ x H',(Itl K a).yld i H x H'→g x σ H' fun σ2 H2=>tb { D with nx:=N,ct:=N,bk:=D.nx } σ2 H2):=by
 refine ⟨fun i m σ H=>m=xs.length - i∧i≤xs.length∧Pv i σ H,⟨xs.length,by simp,Nat.zero_le _,h0⟩,?_⟩
 rintro i m σ H ⟨rfl,hi,p⟩
 have q:=hl i σ H hi p
 by_cases hlt:i < xs.length
 ·refine .inr ⟨⟨xs,xs[i],q,by simp [hlt]⟩,Pv (i+1),fun σ' H' p'=>⟨xs.length - (i+1),by omega,rfl,hlt,p'⟩,fun x H' y=>?_⟩
  obtain ⟨e,y⟩:=y
  subst e
  exact hs i x σ _ (y xs q) p
 ·have e:i=xs.length:=by omega
  subst e
  exact .inl ⟨⟨xs,q,Nat.le_refl _⟩,hd σ H p⟩
theorem jcy {lo:Int} {n:Nat} {g:TG} {tb:TS} {D:Ends} {σ:St} {H:Hp} (Pv:Nat→St→Hp→Prop) (h0:Pv 0 σ H)
  (hs:∀ i σ H,i < n→Pv i σ H→g (.int (lo+i)) σ H fun σ2 H2=>tb { D with nx:=Pv (i+1),ct:=Pv (i+1),bk:=D.nx } σ2 H2) (hd:∀ σ H,Pv n σ H→D.nx σ H) :
  ∃ W:Nat→Nat→St→Hp→Prop,(∃ m,W 0 m σ H)∧∀ i m σ H,W i m σ H→
   ((Itr lo n).stop i H∧D.nx σ H)∨((Itr lo n).go i H∧∃ N:St→Hp→Prop,(∀ σ' H',N σ' H'→∃ m',m' < m∧W (i+1) m' σ' H')∧∀ x H',(Itr lo n).yld i H x H'→g x σ H' fun σ2 H2=>tb { D with nx:=N,ct:=N,bk:=D.nx } σ2 H2):=by
 refine ⟨fun i m σ H=>m=n - i∧i≤n∧Pv i σ H,⟨n,by simp,Nat.zero_le _,h0⟩,?_⟩
 rintro i m σ H ⟨rfl,hi,p⟩
 by_cases hlt:i < n
 ·refine .inr ⟨hlt,Pv (i+1),fun σ' H' p'=>⟨n - (i+1),by omega,rfl,hlt,p'⟩,fun x H' y=>?_⟩
  obtain ⟨e,y⟩:=y
  subst e y
  exact hs i σ _ hlt p
 ·have e:i=n:=by omega
  subst e
  exact .inl ⟨Nat.le_refl _,hd σ H p⟩
abbrev R2:=V→V→Hp→VK→Prop
def OpR (X:Cx) (f:Value→Value→Sem Value) (r:R2):Prop:=
 ∀ (pins:List (Addr×Obj)) (s:Shared) (σ:St) (H:Hp) (x y:V) (v u:Value) (Q:VK),Inv X pins σ H s→RelV x v→RelV y u→r x y H Q→
  wpAny (model X.prog X.w) X.A (f v u) (EP X pins σ Q) X.xe s
def UnR (X:Cx) (f:Value→Sem Value) (r:V→Hp→VK→Prop):Prop:=
 ∀ (pins:List (Addr×Obj)) (s:Shared) (σ:St) (H:Hp) (x:V) (v:Value) (Q:VK),Inv X pins σ H s→RelV x v→r x H Q→
  wpAny (model X.prog X.w) X.A (f v) (EP X pins σ Q) X.xe s
def qt (X:Cx) (f:Value) (r:List V→Hp→VK→Prop):Prop:=
 ∀ (pins:List (Addr×Obj)) (s:Shared) (σ:St) (H:Hp) (xs:List V) (us:List Value) (Q:VK),Inv X pins σ H s→Vals xs us→r xs H Q→
  wpAny (model X.prog X.w) X.A (call f us) (EP X pins σ Q) X.xe s
def jiv (X:Cx) (r:V→Hp→(Bool→Hp→Prop)→Prop):Prop:=
 ∀ (pins:List (Addr×Obj)) (s:Shared) (σ:St) (H:Hp) (x:V) (v:Value) (Q:Bool→Hp→Prop),Inv X pins σ H s→RelV x v→r x H Q→
  wpAny (model X.prog X.w) X.A (truthy v) (TP X pins σ Q) X.xe s
def tOp (r:R2) (ta tb:TE):TE:=fun σ H Q=>ta σ H fun x H1=>tb σ H1 fun y H2=>r x y H2 Q
def tUn (r:V→Hp→VK→Prop) (ta:TE):TE:=fun σ H Q=>ta σ H fun x H1=>r x H1 Q
def rI (C:Int→Int→Prop) (g:Int→Int→V):R2:=fun x y H Q=>∃ i j,x=.int i∧y=.int j∧C i j∧Q (g i j) H
def rI0 (g:Int→Int→V):R2:=fun x y H Q=>∃ i j,x=.int i∧y=.int j∧Q (g i j) H
def rU (g:Int→V):V→Hp→VK→Prop:=fun x H Q=>∃ i,x=.int i∧Q (g i) H
section
variable {X:Cx} {a b c:Expr} {ta tb tc:TE} {pos:Pos}
theorem jhf (ha:PE X a ta) (hb:PE X b tb) {pins:List (Addr×Obj)} {s:Shared} {σ:St} {H:Hp} {R:V→V→Hp→Prop} (I:Inv X pins σ H s)
  (h:ta σ H fun x H1=>tb σ H1 fun y H2=>R x y H2) {Q:Value→Shared→Prop} {f:Value→Value→Sem Value}
  (hf:∀ v u s2 x y H2,Inv X pins σ H2 s2→RelV x v→RelV y u→R x y H2→wpAny (model X.prog X.w) X.A (f v u) Q X.xe s2) :
  wpAny (model X.prog X.w) X.A (eval a X.env) (fun v s₁=>wpAny (model X.prog X.w) X.A (eval b X.env) (fun u s₂=>wpAny (model X.prog X.w) X.A (f v u) Q X.xe s₂) X.xe s₁) X.xe s:=by
 refine thn (ha pins s σ H _ I h) fun v s1 ⟨x,H1,I1,r1,q1⟩=>?_
 refine thn (hb pins s1 σ H1 _ I1 q1) fun u s2 ⟨y,H2,I2,r2,q2⟩=>?_
 exact hf v u s2 x y H2 I2 r1 r2 q2
theorem jhK {op:Operator} {r:R2} (ho:OpR X (binaryOp op) r) (ha:PE X a ta) (hb:PE X b tb):PE X (.BinOp a op b pos) (tOp r ta tb):=by
 intro pins s σ H Q I h
 exact wpAny_BinOp (jhf ha hb I h fun v u s2 x y H2 I2 rx ry q=>ho pins s2 σ H2 x y v u Q I2 rx ry q)
theorem jhJ {op:UnaryOp} {r:V→Hp→VK→Prop} (ho:UnR X (unaryOp op) r) (ha:PE X a ta):PE X (.UnaryOp op a pos) (tUn r ta):=by
 intro pins s σ H Q I h
 exact UnaryOp_ (thn (ha pins s σ H _ I h) fun v s1 ⟨x,H1,I1,r1,q1⟩=>ho pins s1 σ H1 x v Q I1 r1 q1)
theorem opI {f:Value→Value→Sem Value} {C:Int→Int→Prop} {g:Int→Int→Int}
  (rule:∀ (i j:Int) (t u:Tok) (s:Shared) (Q:Value→Shared→Prop) (E:Value→Shared→Prop),C i j→Q (.int (g i j) s.toks) { s with toks:=s.toks+1 }→wpAny (model X.prog X.w) X.A (f (.int i t) (.int j u)) Q E s) :
  OpR X f (rI C fun i j=>.int (g i j)):=by
 intro pins s σ H x y v u Q I rx ry h
 obtain ⟨i,j,rfl,rfl,hc,q⟩:=h
 obtain ⟨t,rfl⟩:=rx
 obtain ⟨t',rfl⟩:=ry
 exact rule i j t t' s _ _ hc ⟨.int (g i j),H,I.tok _,⟨_,rfl⟩,q⟩
theorem jhU {f:Value→Value→Sem Value} {g:Int→Int→Int}
  (rule:∀ (i j:Int) (t u:Tok) (s:Shared) (Q:Value→Shared→Prop) (E:Value→Shared→Prop),Q (.int (g i j) s.toks) { s with toks:=s.toks+1 }→wpAny (model X.prog X.w) X.A (f (.int i t) (.int j u)) Q E s) :
  OpR X f (rI0 fun i j=>.int (g i j)):=by
 intro pins s σ H x y v u Q I rx ry h
 obtain ⟨i,j,rfl,rfl,q⟩:=h
 obtain ⟨t,rfl⟩:=rx
 obtain ⟨t',rfl⟩:=ry
 exact rule i j t t' s _ _ ⟨.int (g i j),H,I.tok _,⟨_,rfl⟩,q⟩
theorem jhV {f:Value→Value→Sem Value} {g:Int→Int→Bool}
  (rule:∀ (i j:Int) (t u:Tok) (s:Shared) (Q:Value→Shared→Prop) (E:Value→Shared→Prop),Q (.bool (g i j)) s→wpAny (model X.prog X.w) X.A (f (.int i t) (.int j u)) Q E s) :
  OpR X f (rI0 fun i j=>.bl (g i j)):=by
 intro pins s σ H x y v u Q I rx ry h
 obtain ⟨i,j,rfl,rfl,q⟩:=h
 obtain ⟨t,rfl⟩:=rx
 obtain ⟨t',rfl⟩:=ry
 exact rule i j t t' s _ _ ⟨.bl (g i j),H,I,rfl,q⟩
def jiA (i j:Int):Prop:=0≤j∧j≤1000000∧i.natAbs < 2 ^ 64
def CMul (i j:Int):Prop:=(-(2 ^ 64) < i∧i < 2 ^ 64)∨(-(2 ^ 64) < j∧j < 2 ^ 64)
theorem CMul.ok {i j:Int} (h:CMul i j):IntMulOk i j:=by
 rcases h with ⟨h1,h2⟩ | ⟨h1,h2⟩
 ·exact .of_left (intBits_le_64 h1 h2)
 ·exact .of_right (intBits_le_64 h1 h2)
theorem kN:OpR X (binaryOp .Add) (rI0 fun i j=>.int (i+j)):=jhU fun _ _ _ _ _ _ _ q=>add_int q
theorem qw:OpR X (binaryOp .Sub) (rI0 fun i j=>.int (i - j)):=jhU fun _ _ _ _ _ _ _ q=>sub_int q
theorem kH:OpR X (binaryOp .Mult) (rI CMul fun i j=>.int (i * j)):=opI fun _ _ _ _ _ _ _ hc q=>mul_int q hc.ok
theorem jR:OpR X (binaryOp .Mod) (rI (fun _ j=>0 < j) fun i j=>.int (i % j)):=opI fun i j _ _ _ _ _ hc q=>by
 have h1:(0:Int) < j:=hc
 exact mod_int' (by omega) (by rw [Int.fmod_eq_emod_of_nonneg i (by omega)];exact q)
theorem yC:OpR X (binaryOp .Pow) (rI jiA fun i j=>.int (i ^ j.toNat)):=opI fun _ _ _ _ _ _ _ hc q=>pow_int_small hc.1 hc.2.1 hc.2.2 q
theorem unI {f:Value→Sem Value} {g:Int→Int}
  (rule:∀ (i:Int) (t:Tok) (s:Shared) (Q:Value→Shared→Prop) (E:Value→Shared→Prop),Q (.int (g i) s.toks) { s with toks:=s.toks+1 }→wpAny (model X.prog X.w) X.A (f (.int i t)) Q E s) :
  UnR X f (rU fun i=>.int (g i)):=by
 intro pins s σ H x v Q I rx h
 obtain ⟨i,rfl,q⟩:=h
 obtain ⟨t,rfl⟩:=rx
 exact rule i t s _ _ ⟨.int (g i),H,I.tok _,⟨_,rfl⟩,q⟩
theorem jcW:UnR X (unaryOp .USub) (rU fun i=>.int (-i)):=unI fun _ _ _ _ _ q=>neg_int q
end
def jhC:V→V→Bool
 | .non,.non=>true | .non,.int _=>true | .int _,.non=>true | .non,.bl _=>true | .bl _,.non=>true | .non,.str _=>true | .str _,.non=>true
 | .int _,.int _=>true | .bl _,.bl _=>true | .str _,.str _=>true | .byt _,.byt _=>true
 | .int _,.str _=>true | .str _,.int _=>true | .bl _,.str _=>true | .str _,.bl _=>true
 | _,_=>false
def rEq:R2:=fun x y H Q=>jhC x y=true∧Q (.bl (decide (x=y))) H
def rNe:R2:=fun x y H Q=>jhC x y=true∧Q (.bl (!decide (x=y))) H
theorem jbP {i j:Int}:decide (V.int i=V.int j)=(i == j):=by
 rw [Bool.eq_iff_iff]
 simp
theorem jer {i j:Bool}:decide (V.bl i=V.bl j)=(i == j):=by
 rw [Bool.eq_iff_iff]
 simp
theorem jbO {i j:Str}:decide (V.str i=V.str j)=(i == j):=by
 rw [Bool.eq_iff_iff]
 simp
theorem jbQ {i j:Array UInt8}:decide (V.byt i=V.byt j)=(i.toList == j.toList):=by
 rw [Bool.eq_iff_iff]
 cases i
 cases j
 simp
section
variable {X:Cx} {a b c:Expr} {ta tb tc:TE} {pos:Pos}
theorem j7 {pins:List (Addr×Obj)} {σ:St} {H:Hp} {s:Shared} {Q:VK} {k k':Bool} (I:Inv X pins σ H s) (q:Q (.bl k) H) (e:k=k'):EP X pins σ Q (.bool k') s:=by
 subst e
 exact ⟨.bl k,H,I,rfl,q⟩
theorem j8:OpR X (compareOp .Eq) rEq:=by
 intro pins s σ H x y v u Q I rx ry h
 obtain ⟨hs,q⟩:=h
 cases x with
 | non=>
  cases rx
  cases y with
  | non=>cases ry;exact PySem.EqNone.eq_none_none (j7 I q (by simp))
  | bl j=>cases ry;exact PySem.EqNone.eq_none_bool (j7 I q (by simp))
  | int j=>obtain ⟨t',rfl⟩:=ry;exact PySem.EqNone.eq_none_int (j7 I q (by simp))
  | str j=>obtain ⟨t',rfl⟩:=ry;exact PySem.EqNone.eq_none_str (j7 I q (by simp))
  | _=>exact absurd (show false=true from hs) Bool.false_ne_true
 | bl i=>
  cases rx
  cases y with
  | non=>cases ry;exact PySem.EqNone.eq_bool_none (j7 I q (by simp))
  | bl j=>cases ry;exact eq_bool (j7 I q jer)
  | str j=>obtain ⟨t',rfl⟩:=ry;exact PySem.EqMixed.eq_bool_str (j7 I q (by simp))
  | _=>exact absurd (show false=true from hs) Bool.false_ne_true
 | int i=>
  obtain ⟨t,rfl⟩:=rx
  cases y with
  | non=>cases ry;exact PySem.EqNone.eq_int_none (j7 I q (by simp))
  | int j=>obtain ⟨t',rfl⟩:=ry;exact eq_int (j7 I q jbP)
  | str j=>obtain ⟨t',rfl⟩:=ry;exact PySem.EqMixed.eq_int_str (j7 I q (by simp))
  | _=>exact absurd (show false=true from hs) Bool.false_ne_true
 | str i=>
  obtain ⟨t,rfl⟩:=rx
  cases y with
  | non=>cases ry;exact PySem.EqNone.eq_str_none (j7 I q (by simp))
  | bl j=>cases ry;exact PySem.EqMixed.eq_str_bool (j7 I q (by simp))
  | int j=>obtain ⟨t',rfl⟩:=ry;exact PySem.EqMixed.eq_str_int (j7 I q (by simp))
  | str j=>obtain ⟨t',rfl⟩:=ry;exact eq_str (j7 I q jbO)
  | _=>exact absurd (show false=true from hs) Bool.false_ne_true
 | byt i=>
  obtain ⟨t,rfl⟩:=rx
  cases y with
  | byt j=>obtain ⟨t',rfl⟩:=ry;exact PySem.W.eq_bytes (j7 I q jbQ)
  | _=>exact absurd (show false=true from hs) Bool.false_ne_true
 | _=>cases y <;> exact absurd (show false=true from hs) Bool.false_ne_true
theorem jgi:OpR X (compareOp .NotEq) rNe:=by
 intro pins s σ H x y v u Q I rx ry h
 obtain ⟨hs,q⟩:=h
 cases x with
 | non=>
  cases rx
  cases y with
  | non=>cases ry;exact PySem.EqNone.ne_none_none (j7 I q (by simp))
  | bl j=>cases ry;exact PySem.EqNone.ne_none_bool (j7 I q (by simp))
  | int j=>obtain ⟨t',rfl⟩:=ry;exact PySem.EqNone.ne_none_int (j7 I q (by simp))
  | str j=>obtain ⟨t',rfl⟩:=ry;exact PySem.EqNone.ne_none_str (j7 I q (by simp))
  | _=>exact absurd (show false=true from hs) Bool.false_ne_true
 | bl i=>
  cases rx
  cases y with
  | non=>cases ry;exact PySem.EqNone.ne_bool_none (j7 I q (by simp))
  | bl j=>cases ry;exact ne_bool (j7 I q (congrArg not jer))
  | str j=>obtain ⟨t',rfl⟩:=ry;exact PySem.EqMixed.ne_bool_str (j7 I q (by simp))
  | _=>exact absurd (show false=true from hs) Bool.false_ne_true
 | int i=>
  obtain ⟨t,rfl⟩:=rx
  cases y with
  | non=>cases ry;exact PySem.EqNone.ne_int_none (j7 I q (by simp))
  | int j=>obtain ⟨t',rfl⟩:=ry;exact ne_int (j7 I q (congrArg not jbP))
  | str j=>obtain ⟨t',rfl⟩:=ry;exact PySem.EqMixed.ne_int_str (j7 I q (by simp))
  | _=>exact absurd (show false=true from hs) Bool.false_ne_true
 | str i=>
  obtain ⟨t,rfl⟩:=rx
  cases y with
  | non=>cases ry;exact PySem.EqNone.ne_str_none (j7 I q (by simp))
  | bl j=>cases ry;exact PySem.EqMixed.ne_str_bool (j7 I q (by simp))
  | int j=>obtain ⟨t',rfl⟩:=ry;exact PySem.EqMixed.ne_str_int (j7 I q (by simp))
  | str j=>obtain ⟨t',rfl⟩:=ry;exact ne_str (j7 I q (congrArg not jbO))
  | _=>exact absurd (show false=true from hs) Bool.false_ne_true
 | byt i=>
  obtain ⟨t,rfl⟩:=rx
  cases y with
  | byt j=>obtain ⟨t',rfl⟩:=ry;exact PySem.W.ne_bytes (j7 I q (congrArg not jbQ))
  | _=>exact absurd (show false=true from hs) Bool.false_ne_true
 | _=>cases y <;> exact absurd (show false=true from hs) Bool.false_ne_true
theorem jby:OpR X (compareOp .Lt) (rI0 fun i j=>.bl (decide (i < j))):=jhV fun _ _ _ _ _ _ _ q=>lt_int q
theorem jhT:OpR X (compareOp .Gt) (rI0 fun i j=>.bl (decide (j < i))):=jhV fun _ _ _ _ _ _ _ q=>gt_int q
theorem jH (b:Expr) {op:CmpOp} (h:op≠.In:=by decide) (h2:op≠.NotIn:=by decide):behindInMarks op b=false:=by
 have e1:(op == CmpOp.In)=false:=by cases op <;> first | rfl | exact absurd rfl h
 have e2:(op == CmpOp.NotIn)=false:=by cases op <;> first | rfl | exact absurd rfl h2
 cases b <;> simp [behindInMarks,e1,e2]
theorem jfi {op:CmpOp} {r:R2} (ho:OpR X (compareOp op) r) (ha:PE X a ta) (hb:PE X b tb) (hm:behindInMarks op b=false):PE X (.Compare a [op] [b] pos) (tOp r ta tb):=by
 intro pins s σ H Q I h
 exact wpAny_Compare1 (jhf ha hb I h fun v u s2 x y H2 I2 rx ry q=>ho pins s2 σ H2 x y v u Q I2 rx ry q) hm
def jf5 (t:TE):TT:=fun σ H Q=>t σ H fun x H'=>∃ k,x=.bl k∧Q k H'
theorem je0 {op:CmpOp} {r:R2} (ho:OpR X (compareOp op) r) (ha:PE X a ta) (hb:PE X b tb) (hm:behindInMarks op b=false):PT X (.Compare a [op] [b] pos) (jf5 (tOp r ta tb)):=by
 intro pins s σ H Q I h
 refine wpAny_isTrue_Compare1 (thn (ha pins s σ H _ I h) fun v s1 ⟨x,H1,I1,r1,q1⟩=>thn (hb pins s1 σ H1 _ I1 q1) fun u s2 ⟨y,H2,I2,r2,q2⟩=>
  thn (ho pins s2 σ H2 x y v u _ I2 r1 r2 q2) fun c s3 ⟨z,H3,I3,r3,k,e,q3⟩=>?_) hm
 subst e
 cases r3
 exact wpAny_truthy_bool ⟨H3,I3,q3⟩
def jf1 (K:PySem.W.Frag) (x:V) (H:Hp) (k:Bool):Prop:=
 match x with
 | .non=>k=false
 | .bl b=>k=b
 | .int i=>k=(i != 0)
 | .str y=>y.length≤sizeLine∧k=((y.length:Int) != 0)
 | .byt y=>y.size≤sizeLine∧k=((y.size:Int) != 0)
 | .ref p=>(∃ xs,SqL K H p xs∧k=!xs.isEmpty)∨(∃ xs,SqT K H p xs∧k=!xs.isEmpty)∨∃ kvs,H p=some (.dK kvs)∧k=!kvs.isEmpty
 | _=>False
theorem jaI {κ:Type} {kvs:List (κ×V)} {vs:List (κ×Value)} (r:KV kvs vs):(!vs.isEmpty)=!kvs.isEmpty:=by
 cases r <;> rfl
theorem KL {xs:List V} {its:List Value} (r:Vals xs its):(!its.toArray.isEmpty)=!xs.isEmpty:=by
 cases r <;> simp
theorem JF:(sizeLine:Nat) < 2 ^ 63:=by rw [sizeLine_eq];decide
theorem jgq:jiv X (fun x H Q=>∃ k,jf1 X.K x H k∧Q k H):=by
 intro pins s σ H x v Q I rx h
 obtain ⟨k,e,q⟩:=h
 have hl:=JF
 have hs:sizeLine=16777216:=sizeLine_eq
 cases x with
 | non=>
  cases rx
  have e':k=false:=e
  subst e'
  exact truthy_none ⟨H,I,q⟩
 | bl b=>
  cases rx
  have e':k=b:=e
  subst e'
  exact wpAny_truthy_bool ⟨H,I,q⟩
 | int i=>
  obtain ⟨t,rfl⟩:=rx
  have e':k=(i != 0):=e
  subst e'
  exact PySem.P.truthy_int ⟨H,I,q⟩
 | str y=>
  obtain ⟨t,rfl⟩:=rx
  obtain ⟨hy,e'⟩:y.length≤sizeLine∧k=((y.length:Int) != 0):=e
  subst e'
  exact PySem.P.truthy_str (by omega) ⟨H,I.tok _,q⟩
 | byt y=>
  obtain ⟨t,rfl⟩:=rx
  obtain ⟨hy,e'⟩:y.size≤sizeLine∧k=((y.size:Int) != 0):=e
  subst e'
  exact PySem.W.truthy_bytes (by omega) ⟨H,I.tok _,q⟩
 | ref p=>
  cases rx
  have e':(∃ xs,SqL X.K H p xs∧k=!xs.isEmpty)∨(∃ xs,SqT X.K H p xs∧k=!xs.isEmpty)∨∃ kvs,H p=some (.dK kvs)∧k=!kvs.isEmpty:=e
  rcases e' with ⟨xs,hx,e'⟩ | ⟨xs,hx,e'⟩ | ⟨kvs,hx,e'⟩
  ·subst e'
   obtain ⟨its,r,pl,hz⟩:=I.list hx
   have hlen:=r.length
   exact wpAny_truthy_list pl.isList (by simp only [List.size_toArray];omega) ⟨H,I.tok _,by rw [KL r];exact q⟩
  ·subst e'
   obtain ⟨its,r,pl,hz⟩:=I.tuple hx
   have hlen:=r.length
   exact truthy_tuple pl (by simp only [List.size_toArray];omega) ⟨H,I.tok _,by rw [KL r];exact q⟩
  ·subst e'
   obtain ⟨hz,hS,vs,r,m⟩:kvs.length≤sizeLine∧(p == sysModules)=false∧∃ vs,KV kvs vs∧s.heap.DictOf (j3 X.prog X.w) p vs:=I.hok p _ hx
   have hlen:kvs.length=vs.length:=Paired.length r
   exact wpAny_truthy_dict hS m (by omega) ⟨H,I.tok _,by rw [jaI r];exact q⟩
 | _=>exact (show False from e).elim
theorem jdz (ha:PE X a ta) (he:∀ whole,isTrue a X.env whole=(do let v ← whole;standAt a.pos;holding [v] (truthy v))) :
  PT X a (fun σ H Q=>ta σ H fun x H'=>∃ k,jf1 X.K x H' k∧Q k H'):=by
 intro pins s σ H Q I h
 exact isTrue_plain (thn (ha pins s σ H _ I h) fun v s1 ⟨x,H1,I1,r1,q1⟩=>jgq pins s1 σ H1 x v Q I1 r1 q1) (he _)
theorem yD:OpR X (binaryOp .Add) (fun x y H Q=>∃ i j,x=.str i∧y=.str j∧i.length+j.length≤sizeLine∧Q (.str (i++j)) H):=by
 intro pins s σ H x y v u Q I rx ry h
 obtain ⟨i,j,rfl,rfl,hz,q⟩:=h
 obtain ⟨t,rfl⟩:=rx
 obtain ⟨t',rfl⟩:=ry
 exact add_str (fun t' tk=>⟨.str (i++j),H,I.tok _,⟨_,rfl⟩,q⟩) hz
theorem zz {x:V} {us:List Value} (r:Vals [x] us):∃ u,us=[u]∧RelV x u:=by
 cases r with
 | cons r1 r2=>cases r2;exact ⟨_,rfl,r1⟩
theorem jhq {x y:V} {us:List Value} (r:Vals [x,y] us):∃ u w',us=[u,w']∧RelV x u∧RelV y w':=by
 cases r with
 | cons r1 r2=>
  cases r2 with
  | cons r3 r4=>cases r4;exact ⟨_,_,rfl,r1,r3⟩
theorem qD:qt X (.type "int") (fun xs H Q=>(∃ i,xs=[.int i]∧Q (.int i) H)∨∃ k,xs=[.bl k]∧Q (.int (if k then 1 else 0)) H):=by
 intro pins s σ H xs us Q I r h
 rcases h with ⟨i,rfl,q⟩ | ⟨k,rfl,q⟩
 ·obtain ⟨u,rfl,t,rfl⟩:=zz r
  exact call_int_int ⟨.int i,H,I,⟨_,rfl⟩,q⟩
 ·obtain ⟨u,rfl,r1⟩:=zz r
  cases r1
  exact call_int_bool ⟨.int (if k then 1 else 0),H,I.tok _,⟨_,rfl⟩,q⟩
end
structure ObjM (h:Heap) (x dx C:Addr) (mA:Str→Option Value):Prop where
 obj:h.get? x=some (PySem.W.instObj C dx)
 ns:h.Ns1 dx mA
 ne:dx≠x
theorem jcl {h:Heap} {dx:Addr} {mA:Str→Option Value} (n:h.Ns1 dx mA):∃ od,h.get? dx=some od∧∀ name,PySem.W.lookIn name od=some (mA name):=by
 obtain ⟨o,es,ep,ho,hd,hk,_,hm⟩:=n
 refine ⟨o,ho,fun name=>?_⟩
 have e:=hm name
 unfold nsFind findBy at e
 rw [← Array.find?_toList] at e
 unfold PySem.W.lookIn
 rw [hd]
 dsimp only
 split
 ·rename_i y q
  rw [q] at e
  exact congrArg some e
 ·rename_i q
  rw [q] at e
  have a:es.toList.any (·.refKey)=false:=by
   rw [List.any_eq_false]
   intro y hy
   obtain ⟨z,t,hkey⟩:=hk y (Array.mem_toList_iff.mp hy)
   simp [DictEntry.refKey,hkey]
  have a':¬ es.toList.any (·.refKey)=true:=by rw [a];exact Bool.false_ne_true
  rw [if_neg a']
  exact congrArg some e
theorem ObjM.look {h:Heap} {x dx C:Addr} {mA:Str→Option Value} (I:ObjM h x dx C mA):∃ od,PySem.W.InstAt h x (PySem.W.instObj C dx) C (some od)∧∀ name,PySem.W.lookIn name od=some (mA name):=
 let ⟨od,ho,hl⟩:=jcl I.ns
 ⟨od,⟨I.obj,rfl,rfl,ho⟩,hl⟩
section
variable {prog:Program} {w:World} {A:Around} {E:Value→Shared→Prop} {s:Shared} {K:PySem.W.Frag} {x dx C f:Addr} {mA:Str→Option Value} {name:Str} {v:Value}
theorem jfP {expr:Bool} {Q:Value→Shared→Prop} (X:K.In s.heap) (I:ObjM s.heap x dx C mA) (hg:PySem.W.plainGet K C name=true) (hh:PySem.W.hasDictIn K C=true)
  (ha:PySem.W.findIn K (.ref C) name=some none) (hv:mA name=some v) (hv':PySem.W.handedIn v=true) (h:Q v { s with toks:=s.toks+1 }) :
  wpAny (model prog w) A (getAttr (.ref x) name expr) Q E s:=by
 obtain ⟨od,J,hl⟩:=I.look
 exact PySem.W.get_value X J (PySem.W.plainGet_of hg).1 (PySem.W.findObj_own hh ha rfl (by rw [hl,hv])) hv' h
theorem jeS {ns:List Str} {Q:Unit→Shared→Prop} (X:K.In s.heap) (I:ObjM s.heap x dx C mA)
  (hs:PySem.W.findIn K (.ref C) "__setattr__" = some (some (.builtin "object.__setattr__"))) (hp:PySem.W.plainOver K C=true) (ht:PySem.W.takerIn K C name=some none) (hh:PySem.W.hasDictIn K C=true)
  (hw:PySem.Within mA ns) (hsz:ns.length≤sizeLine)
  (h:∀ h',ObjM h' x dx C (fun y=>if y=name then some v else mA y)→Heap.SameBut dx s.heap h'→Q () { s with heap:=h',toks:=s.toks+2 }) :
  wpAny (model prog w) A (setAttr (.ref x) name v) Q E s:=by
 obtain ⟨od,J,hl⟩:=I.look
 refine PySem.W.set_plain X J hs (PySem.W.osa_open (s:={ s with toks:=s.toks+1 }) (r:=none) X J hp ht fun b=>?_)
 obtain ⟨cd,hc,hd'⟩:=PySem.W.any_some hh
 have hx:s.heap.get? x=some ⟨.ref C,some dx,.plain,#[]⟩:=I.obj
 refine wpAny_bind (wpAny_pure (wpAny_bind (wpAny_bind (wpAny_loadPart hx (wpAny_bind (PySem.W.Looks.here (s:={ s with toks:=s.toks+1 }) (PySem.W.looks_clsIn X hc) ?_))))))
 rw [hd']
 refine wpAny_pure (a:=some dx) (wpAny_bind (wpAny_pure (wpAny_bind ?_)))
 refine wpAny_nsSet1 (s:={ s with toks:=s.toks+1 }) I.ns fun h' hn2 hs2=>?_
 obtain ⟨oD,esD,epD,hoD,hdD,hcD⟩:=hn2.count (PySem.Within.cons name v hw)
 refine wpAny_bind (wpAny_lookBehind hoD (by rw [hdD];exact pastItsLine_dict (Nat.le_trans hcD (by rw [List.length_cons];omega))) ?_)
 exact wpAny_pure (h _ ⟨(hs2.2 _ (Ne.symm I.ne)).trans I.obj,hn2,I.ne⟩ hs2)
theorem jea {R:Result→Shared→Prop} {vs:List Value} {kw:List (Str×Value)} (X:K.In s.heap) (hm:PySem.W.makesIn K C=true)
  (hi:PySem.W.findIn K (.ref C) "__init__" = some (some (.ref f))) (hf:PySem.W.typeIn K (.ref f)=some (.type "function"))
  (h:codeAny (model prog w) (A.under (.builtin "type.__call__" ⟨.ref C :: vs,kw⟩)) (.call (.ref f) ⟨.ref (s.heap.objs.size+1) :: vs,kw⟩) (PySem.W.InitBack (s.heap.objs.size+1) R)
   { s with heap:=(s.heap.push PySem.W.emptyDict).push (PySem.W.instObj C s.heap.objs.size) }) :
  codeAny (model prog w) A (.call (.ref C) ⟨vs,kw⟩) R s:=by
 obtain ⟨hh,g,d,t,os⟩:=s
 exact PySem.W.make_core (PySem.W.makes_of X hm) (PySem.W.looks_findIn X hi) (fun self=>PySem.W.bind_fn X self hf) (.inl rfl) h
end
def zu (f:Str) (v:V):List (Str×V)→List (Str×V)
 | []=>[(f,v)]
 | (g,x) :: r=>if g=f then (g,v) :: r else (g,x) :: zu f v r
theorem JR (f g:Str) (v:V):∀ fs:List (Str×V),(zu f v fs).lookup g=if g=f then some v else fs.lookup g
 | []=>by
  show List.lookup g [(f,v)]=_
  by_cases h:g=f
  ·have hb:(g == f)=true:=beq_iff_eq.mpr h
   simp only [List.lookup,hb,if_pos h]
  ·have hb:(g == f)=false:=beq_eq_false_iff_ne.mpr h
   simp only [List.lookup,hb,if_neg h]
 | (k,x) :: r=>by
  have ih:=JR f g v r
  rw [show zu f v ((k,x) :: r)=(if k=f then (k,v) :: r else (k,x) :: zu f v r) from rfl]
  by_cases hk:k=f
  ·rw [if_pos hk]
   by_cases h:g=k
   ·have hb:(g == k)=true:=beq_iff_eq.mpr h
    simp only [List.lookup,hb,if_pos (h.trans hk)]
   ·have hb:(g == k)=false:=beq_eq_false_iff_ne.mpr h
    simp only [List.lookup,hb,if_neg (fun e:g=f=>h (e.trans hk.symm))]
  ·rw [if_neg hk]
   by_cases h:g=k
   ·have hb:(g == k)=true:=beq_iff_eq.mpr h
    simp only [List.lookup,hb,if_neg (fun e:g=f=>hk (h.symm.trans e))]
   ·have hb:(g == k)=false:=beq_eq_false_iff_ne.mpr h
    simp only [List.lookup,hb]
    exact ih
theorem JH (f:Str) (v:V):∀ fs:List (Str×V),f∈(zu f v fs).map (·.1)∧∀ g,g∈fs.map (·.1)→g∈(zu f v fs).map (·.1)
 | []=>⟨by simp [zu],fun g h=>by simp at h⟩
 | (k,x) :: r=>by
  obtain ⟨i1,i2⟩:=JH f v r
  rw [show zu f v ((k,x) :: r)=(if k=f then (k,v) :: r else (k,x) :: zu f v r) from rfl]
  by_cases hk:k=f
  ·rw [if_pos hk]
   subst hk
   exact ⟨by simp,fun g h=>by simpa using h⟩
  ·rw [if_neg hk]
   refine ⟨?_,fun g h=>?_⟩
   ·rw [List.map_cons]
    exact List.mem_cons_of_mem _ i1
   ·rw [List.map_cons] at h ⊢
    rcases List.mem_cons.mp h with e | e
    ·exact List.mem_cons.mpr (.inl e)
    ·exact List.mem_cons_of_mem _ (i2 g e)
theorem JS (f:Str) (v:V):∀ fs:List (Str×V),(zu f v fs).length≤fs.length+1
 | []=>by simp [zu]
 | (k,x) :: r=>by
  have ih:=JS f v r
  rw [show zu f v ((k,x) :: r)=(if k=f then (k,v) :: r else (k,x) :: zu f v r) from rfl]
  by_cases hk:k=f
  ·rw [if_pos hk,List.length_cons,List.length_cons];omega
  ·rw [if_neg hk,List.length_cons,List.length_cons];omega
theorem RelO.some_of {v:V} {o:Option Value} (r:RelO (some v) o):∃ u,o=some u∧RelV v u:=by
 cases o with
 | none=>exact (show False from r).elim
 | some u=>exact ⟨u,rfl,r⟩
theorem RelO.none_of {o:Option Value} (r:RelO none o):o=none:=by
 cases o with
 | none=>rfl
 | some u=>exact (show False from r).elim
theorem jcx {v:V} {u:Value} (r:RelV v u):PySem.W.handedIn u=true:=by
 cases v with
 | non=>cases (show u=Value.none from r);rfl
 | bl b=>cases (show u=Value.bool b from r);rfl
 | int i=>obtain ⟨t,e⟩:=(show ∃ t,u=Value.int i t from r);cases e;rfl
 | str x=>obtain ⟨t,e⟩:=(show ∃ t,u=Value.str x t from r);cases e;rfl
 | byt b=>obtain ⟨t,e⟩:=(show ∃ t,u=Value.bytes b t from r);cases e;rfl
 | flt b=>obtain ⟨t,e⟩:=(show ∃ t,u=Value.float b t from r);cases e;rfl
 | ref a=>cases (show u=Value.ref a from r);rfl
 | ty n=>cases (show u=Value.type n from r);rfl
section
variable {P:Program} {w:World} {H H':Hp} {h h':Heap} {a C dx:Addr} {fs fs':List (Str×V)}
theorem Za (hok:HOk P w H h) (e:H a=some (.ins C dx fs)):∃ mA,ObjM h a dx C mA∧(∀ f,RelO (fs.lookup f) (mA f))∧PySem.Within mA (fs.map (·.1))∧fs.length≤1000∧H dx=some (.own a):=by
 obtain ⟨d,z,ne,ob,mA,n,r,q⟩:=(show ObjOk P w H h a (.ins C dx fs) from hok a _ e)
 exact ⟨mA,⟨ob,n,ne⟩,r,q,z,d⟩
end
structure Cls (K:PySem.W.Frag) (C:Addr):Prop where
 pg:PySem.W.plainGet K C Str.empty=true
 hd:PySem.W.hasDictIn K C=true
 po:PySem.W.plainOver K C=true
 sa:PySem.W.findIn K (.ref C) "__setattr__" = some (some (.builtin "object.__setattr__"))
theorem Cls.get {K:PySem.W.Frag} {C:Addr} (c:Cls K C) (f:Str):PySem.W.plainGet K C f=true:=c.pg
def NoAttr (K:PySem.W.Frag) (C:Addr) (f:Str):Prop:=PySem.W.findIn K (.ref C) f=some none
theorem NoAttr.taker {K:PySem.W.Frag} {C:Addr} {f:Str} (n:NoAttr K C f):PySem.W.takerIn K C f=some none:=by
 unfold PySem.W.takerIn
 rw [show PySem.W.findIn K (.ref C) f=some none from n]
 rfl
section
variable {X:Cx} {pins:List (Addr×Obj)} {σ:St} {H:Hp} {s:Shared} {a C dx:Addr} {fs:List (Str×V)} {f:Str} {v:V} {A:Around} {E:Value→Shared→Prop}
theorem jaL {b:Bool} {Q:Value→Shared→Prop} (I:Inv X pins σ H s) (e:H a=some (.ins C dx fs)) (c:Cls X.K C) (n:NoAttr X.K C f) (l:fs.lookup f=some v)
  (h:∀ u s',Inv X pins σ H s'→RelV v u→Q u s'):wpAny (model X.prog X.w) A (getAttr (.ref a) f b) Q E s:=by
 obtain ⟨mA,O,r,_,_,_⟩:=Za I.hok e
 obtain ⟨u,hu,ru⟩:=RelO.some_of (v:=v) (o:=mA f) (by rw [← l];exact r f)
 exact jfP I.kIn O (c.get f) c.hd n hu (jcx ru) (h u _ (I.tok _) ru)
theorem jaw {y:V} {u:Value} {Q:Unit→Shared→Prop} (I:Inv X pins σ H s) (e:H a=some (.ins C dx fs)) (c:Cls X.K C) (n:NoAttr X.K C f) (hl:fs.length < 1000) (ry:RelV y u)
  (h:∀ s',Inv X pins σ (upd H a (.ins C dx (zu f y fs))) s'→Q () s'):wpAny (model X.prog X.w) A (setAttr (.ref a) f u) Q E s:=by
 obtain ⟨mA,O,r,wi,_,ho⟩:=Za I.hok e
 have hz:(fs.map (·.1)).length≤sizeLine:=by rw [List.length_map,sizeLine_eq];omega
 refine jeS I.kIn O c.sa c.po n.taker c.hd wi hz fun h' O' sb=>h _ ?_
 have hd:∃ o,h'.get? dx=some o:=let ⟨o,_,_,e',_⟩:=O'.ns;⟨o,e'⟩
 refine I.write (x:=a) (e:=dx) (by rw [e];exact True.intro) (.inr ho) (fun b q hb z=>(sb.2 b hb).trans z) hd ?_
 refine ⟨by rw [jB O.ne];exact ho,?_,O.ne,O'.obj,_,O'.ns,fun g=>?_,fun g hg=>?_⟩
 ·have:=JS f y fs;omega
 ·show RelO ((zu f y fs).lookup g) (if g=f then some u else mA g)
  rw [JR]
  by_cases q:g=f
  ·rw [if_pos q,if_pos q];exact ry
  ·rw [if_neg q,if_neg q];exact r g
 ·by_cases q:g=f
  ·rw [q];exact (JH f y fs).1
  ·refine (JH f y fs).2 g (wi g fun z=>hg ?_)
   show (if g=f then some u else mA g)=none
   rw [if_neg q];exact z
theorem Inv.made (I:Inv X pins σ H s):Inv X pins σ (upd (upd H s.heap.objs.size (.own (s.heap.objs.size+1))) (s.heap.objs.size+1) (.ins C s.heap.objs.size []))
  { s with heap:=(s.heap.push PySem.W.emptyDict).push (PySem.W.instObj C s.heap.objs.size) }:=by
 have e1:(s.heap.push PySem.W.emptyDict).get? s.heap.objs.size=some PySem.W.emptyDict:=Heap.get?_push_size s.heap rfl
 have e2:((s.heap.push PySem.W.emptyDict).push (PySem.W.instObj C s.heap.objs.size)).get? (s.heap.objs.size+1)=some (PySem.W.instObj C s.heap.objs.size):=by
  have:=Heap.get?_push_size (s.heap.push PySem.W.emptyDict) (o:=PySem.W.instObj C s.heap.objs.size) rfl
  rwa [Heap.size_push] at this
 have e3:(s.heap.push PySem.W.emptyDict).Ns s.heap.objs.size (fun _=>none):=⟨PySem.W.emptyDict,#[],_,e1,rfl,(fun e he=>absurd he (by simp)),fun _=>rfl⟩
 have I1:=I.laid (a:=s.heap.objs.size) (o:=.own (s.heap.objs.size+1)) (h':=s.heap.push PySem.W.emptyDict) (t':=s.toks) (fun b u q=>Heap.get?_push_of_some _ q) (Nat.le_refl _) ⟨_,e1⟩
 refine I1.laid (a:=s.heap.objs.size+1) (o:=.ins C s.heap.objs.size []) (t':=s.toks) (fun b u q=>Heap.get?_push_of_some _ q) (Nat.le_of_eq (Heap.size_push _ _)) ?_
 have ne:s.heap.objs.size≠s.heap.objs.size+1:=Nat.ne_of_lt (Nat.lt_succ_self _)
 refine ⟨by rw [jB ne,jg],Nat.zero_le _,ne,e2,fun _=>none,(Heap.Ns1.of_empty e3).at fun o q=>Heap.get?_push_of_some _ q,fun _=>True.intro,fun y hy=>absurd rfl hy⟩
theorem jfY {prog:Program} {w:World} {env:Env} {e:Expr} {f:Str} {pos:Pos} {s:Shared} {Q:Value→Shared→Prop} (hb:attributeBase e f env (eval e env)=eval e env)
  (h:wpAny (model prog w) A (eval e env) (fun o s₁=>wpAny (model prog w) A (getAttr o f true) Q E s₁) E s):wpAny (model prog w) A (eval (.Attribute e f pos) env) Q E s:=
 Attribute_any_ h (by rw [arm_eval_Attribute,hb])
end
def jhz (K:PySem.W.Frag) (ta:TE) (f:Str):TE:=fun σ H Q=>ta σ H fun x H1=>∃ a C dx fs v,x=.ref a∧H1 a=some (.ins C dx fs)∧Cls K C∧NoAttr K C f∧fs.lookup f=some v∧Q v H1
def jhD (K:PySem.W.Frag) (ta tv:TE) (f:Str):TS:=fun D σ H=>tv σ H fun y H1=>ta σ H1 fun x H2=>∃ a C dx fs,x=.ref a∧H2 a=some (.ins C dx fs)∧Cls K C∧NoAttr K C f∧fs.length < 1000∧
 D.nx σ (upd H2 a (.ins C dx (zu f y fs)))
section
variable {X:Cx} {o e value:Expr} {f:Str} {pos pos' tpos:Pos} {ta tv:TE}
theorem jgN (he:PE X e ta) (hb:attributeBase e f X.env (eval e X.env)=eval e X.env):PE X (.Attribute e f pos) (jhz X.K ta f):=by
 intro pins s σ H Q I h
 refine jfY hb (thn (he pins s σ H _ I h) fun u s1 ⟨x,H1,I1,rx,a,C,dx,fs,v,ex,ea,c,n,l,q⟩=>?_)
 subst ex
 obtain rfl:u=Value.ref a:=rx
 exact jaL I1 ea c n l fun u' s2 I2 ru=>⟨v,H1,I2,ru,q⟩
theorem jgI (ha:PE X o ta) (hv:PE X value tv) (hs:swapsWith value (some (.Attribute o f pos')) pos.line X.env=pure false):PS X (.Assign [.Attribute o f pos'] value pos) (jhD X.K ta tv f):=by
 intro pins s σ H D I h
 refine plainObj_wpAny_Assign_Attribute (thn (hv pins s σ H _ I h) fun u s1 ⟨y,H1,I1,ry,q⟩=>thn (ha pins s1 σ H1 _ I1 q) fun ov s2 ⟨x,H2,I2,rx,a,C,dx,fs,ex,ea,c,n,l,q2⟩=>?_) hs
 subst ex
 obtain rfl:ov=Value.ref a:=rx
 exact jaw I2 ea c n l ry fun s3 I3=>⟨σ,_,I3,q2⟩
end
section
variable {X:Cx} {pins:List (Addr×Obj)} {σ:St} {H:Hp} {s:Shared} {A:Around} {E:Value→Shared→Prop} {Q:Value→Shared→Prop} {c:Value} {b:Bool}
inductive TyOf (K:PySem.W.Frag) (H:Hp):V→Value→Prop where
 | non:TyOf K H .non (.type "NoneType")
 | bl (x:Bool):TyOf K H (.bl x) (.type "bool")
 | int (i:Int):TyOf K H (.int i) (.type "int")
 | str (x:Str):TyOf K H (.str x) (.type "str")
 | flt (x:UInt64):TyOf K H (.flt x) (.type "float")
 | lst {a:Addr} {xs:List V} (e:H a=some (.lst xs)):TyOf K H (.ref a) (.type "list")
 | frz {a:Addr} {o:Obj} {xs:List V} (e:H a=some (.frz o (.lst xs))):TyOf K H (.ref a) (.type "list")
 | tup {a:Addr} {xs:List V} (e:H a=some (.tup xs)):TyOf K H (.ref a) (.type "tuple")
 | dK {a:Addr} {kvs:List (Key×V)} (e:H a=some (.dK kvs)):TyOf K H (.ref a) (.type "dict")
 | dT {a:Addr} {kvs:List (List Key×V)} (e:H a=some (.dT kvs)):TyOf K H (.ref a) (.type "dict")
 | ins {a C dx:Addr} {fs:List (Str×V)} (e:H a=some (.ins C dx fs)) (cl:Cls K C) (ha:PySem.W.findIn K (.ref C) "__class__" = some (some (.builtin "object.__class__")))
   (hn:PySem.W.specialIn K (.builtin "object.__class__") "__get__" = some (some (.builtin "getset_descriptor.__get__"))) (htk:PySem.W.takesIn K (.builtin "object.__class__")=some true)
   (hm:PySem.W.mroIn K C (.type "object")=some true):TyOf K H (.ref a) (.ref C)
theorem jcs {x:V} {u t:Value} (I:Inv X pins σ H s) (rx:RelV x u) (ty:TyOf X.K H x t) (e:PySem.W.kitOne X.K t c=some b) (h:∀ tk,Q (.bool b) { s with toks:=tk }) :
  wpAny (model X.prog X.w) A (call (.builtin "isinstance") [u,c]) Q E s:=by
 cases ty with
 | non=>cases (show u=Value.none from rx);exact PySem.W.kia_one PySem.W.kitx_none I.kIn True.intro e (fun z=>nomatch z) h
 | bl y=>cases (show u=Value.bool y from rx);exact PySem.W.kia_one PySem.W.kitx_bool I.kIn True.intro e (fun z=>nomatch z) h
 | int i=>obtain ⟨t,q⟩:=(show ∃ t,u=Value.int i t from rx);cases q;exact PySem.W.kia_one PySem.W.kitx_int I.kIn True.intro e (fun z=>nomatch z) h
 | str y=>obtain ⟨t,q⟩:=(show ∃ t,u=Value.str y t from rx);cases q;exact PySem.W.kia_one PySem.W.kitx_str I.kIn True.intro e (fun z=>nomatch z) h
 | flt y=>obtain ⟨t,q⟩:=(show ∃ t,u=Value.float y t from rx);cases q;exact PySem.W.kia_one PySem.W.kitx_float I.kIn True.intro e (fun z=>nomatch z) h
 | @lst a xs ea=>
  cases (show u=Value.ref a from rx)
  obtain ⟨_,_,n,_,h1⟩:=(show ObjOk X.prog X.w H s.heap a (.lst xs) from I.hok a _ ea)
  exact PySem.W.kia_one PySem.W.kitx_list I.kIn ⟨_,h1,rfl⟩ e (fun z=>nomatch z) h
 | @frz a ob xs ea=>
  cases (show u=Value.ref a from rx)
  obtain ⟨_,_,_,n,_,h1⟩:=(show ObjOk X.prog X.w H s.heap a (.frz ob (.lst xs)) from I.hok a _ ea)
  exact PySem.W.kia_one PySem.W.kitx_list I.kIn ⟨_,h1,rfl⟩ e (fun z=>nomatch z) h
 | @tup a xs ea=>
  cases (show u=Value.ref a from rx)
  obtain ⟨_,_,_,p⟩:=(show ObjOk X.prog X.w H s.heap a (.tup xs) from I.hok a _ ea)
  obtain ⟨o,h1,h2,_⟩:=p
  exact PySem.W.kia_one PySem.W.kitx_tuple I.kIn ⟨o,h1,h2⟩ e (fun z=>nomatch z) h
 | @dK a kvs ea=>
  cases (show u=Value.ref a from rx)
  obtain ⟨_,_,vs,_,p⟩:=(show ObjOk X.prog X.w H s.heap a (.dK kvs) from I.hok a _ ea)
  obtain ⟨o,es,ep,h1,h2,_⟩:=p
  exact PySem.W.kia_one PySem.W.kitx_dict I.kIn ⟨o,h1,h2.1⟩ e (fun z=>nomatch z) h
 | @dT a kvs ea=>
  cases (show u=Value.ref a from rx)
  obtain ⟨_,_,xs,_,o,es,ep,h1,h2,_⟩:=(show ObjOk X.prog X.w H s.heap a (.dT kvs) from I.hok a _ ea)
  exact PySem.W.kia_one PySem.W.kitx_dict I.kIn ⟨o,h1,h2.1⟩ e (fun z=>nomatch z) h
 | @ins a C dx fs ea cl ha hn htk hm=>
  cases (show u=Value.ref a from rx)
  obtain ⟨mA,O,_⟩:=Za I.hok ea
  obtain ⟨od,J,_⟩:=O.look
  exact PySem.W.kia_one (PySem.W.kitx_own (cl.get _) cl.hd ha hn htk hm) I.kIn J e (fun z=>nomatch z) h
end
structure Room (k:Nat) (A:Around):Prop where
 hd:A.handled=none
 dp:A.depth+3 * k+5 < recursionLimit
 un:A.units+16 * k+200 < cLine
 gd:A.guards=some []
theorem Room.mono {j k:Nat} {A:Around} (r:Room k A) (h:j≤k):Room j A:=⟨r.hd,by have:=r.dp;omega,by have:=r.un;omega,r.gd⟩
theorem Room.deeper {k:Nat} {A:Around} (r:Room (k+1) A) (env:Env):Room k (A.deeper env):=
 ⟨r.hd,by have:=r.dp;show A.depth+1+3 * k+5 < _;omega,by have:=r.un;show A.units+3+16 * k+200 < _;omega,r.gd⟩
theorem Room.in1 {k:Nat} {A:Around} (r:Room (k+1) A):Room k A.in1:=
 ⟨r.hd,by have:=r.dp;show A.depth+3 * k+5 < _;omega,by have:=r.un;show A.units+1+16 * k+200 < _;omega,r.gd⟩
theorem jaE {A:Around} {C:Addr} {us:List Value} {kw:List (Str×Value)}:(A.under (.builtin "type.__call__" ⟨.ref C :: us,kw⟩)).depth=A.depth+1:=by
 first | rfl | simp [Around.under,Code.weight,Code.isCreation,Code.isGuard,Code.isCaller,Code.frames,Code.isFrame,guardIds]
theorem jaD {A:Around} {C:Addr} {us:List Value} {kw:List (Str×Value)}:(A.under (.builtin "type.__call__" ⟨.ref C :: us,kw⟩)).units=A.units+1:=by
 first | rfl | simp [Around.under,Code.cUnits,Code.frames,Code.isFrame]
theorem Z0 {A:Around} {C:Addr} {us:List Value} {kw:List (Str×Value)}:(A.under (.builtin "type.__call__" ⟨.ref C :: us,kw⟩)).guards=A.guards:=by
 first | rfl | (cases A with | mk a b c d e=>cases d <;> rfl)
theorem Room.make {k:Nat} {A:Around} (r:Room (k+1) A) (C:Addr) (us:List Value) (kw:List (Str×Value)):Room k (A.under (.builtin "type.__call__" ⟨.ref C :: us,kw⟩)):=
 ⟨r.hd,by have:=r.dp;rw [jaE];omega,by have:=r.un;rw [jaD];omega,by rw [Z0];exact r.gd⟩
theorem Room.depth {k:Nat} {A:Around} (r:Room k A):A.depth < recursionLimit:=by have:=r.dp;omega
theorem Room.units {k:Nat} {A:Around} (r:Room k A):A.units+64 < cLine:=by have:=r.un;omega
def jc6:TA:=fun _ H Q=>Q [] H
def ja7 (ta:TE) (tr:TA):TA:=fun σ H Q=>ta σ H fun x H1=>tr σ H1 fun xs H2=>Q (x :: xs) H2
section
variable {X:Cx} {e:Expr} {es:List Expr} {te:TE} {t:TA} {pos:Pos}
theorem jdP:PA X [] jc6:=fun _ _ _ _ H Q I h=>Calls.spliced_nil ⟨[],H,I,.nil,h⟩
theorem jfl (ha:PE X e te) (hr:PA X es t) (hs:starEach (e :: es) X.env=(false,eval e X.env) :: starEach es X.env:=by rfl):PA X (e :: es) (ja7 te t):=by
 intro pos pins s σ H Q I h
 rw [hs]
 show wpAny _ _ (spliced ((false,eval e X.env) :: backTo pos (starEach es X.env))) _ _ s
 refine Calls.spliced_cons (thn (ha pins s σ H _ I h) fun u s1 ⟨x,H1,I1,r1,q1⟩=>?_)
 exact thn (hr pos pins s1 σ H1 _ I1 q1) fun us s2 ⟨xs,H2,I2,r2,q2⟩=>⟨x :: xs,H2,I2,.cons r1 r2,q2⟩
def jhs (t:TA):TE:=fun σ H Q=>t σ H fun xs H1=>xs.length≤sizeLine∧∀ p,H1 p=none→Q (.ref p) (upd H1 p (.tup xs))
def jhw (t:TA):TE:=fun σ H Q=>t σ H fun xs H1=>xs.length≤sizeLine∧∀ p,H1 p=none→Q (.ref p) (upd H1 p (.lst xs))
theorem jdF {x1} (h:PA X es t):PE X (.Tuple es x1 pos) (jhs t):=by
 intro pins s σ H Q I hq
 refine wpAny_Tuple_spliced (thn (h pos pins s σ H _ I hq) fun us s1 ⟨xs,H1,I1,r,z,q⟩=>⟨by rw [← r.length];exact z,?_⟩)
 have hf:H1 s1.heap.objs.size=none:=I1.hok.fresh (Nat.le_refl _)
 refine ⟨.ref s1.heap.objs.size,upd H1 s1.heap.objs.size (.tup xs),I1.laid (t':=s1.toks) (fun b u e=>Heap.get?_push_of_some _ e) (Nat.le_refl _) ?_,rfl,q _ hf⟩
 exact ⟨z,us,r,⟨_,Heap.get?_push_size _ rfl,rfl,_,rfl⟩⟩
theorem jgM (h:PA X es t):PE X (.List es pos) (jhw t):=by
 intro pins s σ H Q I hq
 refine wpAny_List_spliced (thn (h pos pins s σ H _ I hq) fun us s1 ⟨xs,H1,I1,r,z,q⟩=>⟨by rw [← r.length];exact z,?_⟩)
 have hf:H1 s1.heap.objs.size=none:=I1.hok.fresh (Nat.le_refl _)
 refine ⟨.ref s1.heap.objs.size,upd H1 s1.heap.objs.size (.lst xs),I1.laid (t':=s1.toks) (fun b u e=>Heap.get?_push_of_some _ e) (Nat.le_refl _) ?_,rfl,q _ hf⟩
 exact ⟨z,us,0,r,Heap.get?_push_size _ rfl⟩
end
abbrev Sp:=List V→Hp→VK→XK→Prop
abbrev CXT:=List Env→Hp→Shared→XK→Value→Shared→Prop
structure Env0 (P:Program) (w:World) (K:PySem.W.Frag) (mg:Str→Option Value) (base:Heap) (A:Around) (outer:List Env) (s:Shared) (H:Hp):Prop where
 frames:A.frames=some outer
 mod:Mod K mg base
 bs:∀ b o,base.get? b=some o→s.heap.get? b=some o∧H b=none
 bsz:base.objs.size≤s.heap.objs.size
 funs:s.heap.FunFrames base outer
 frf:∀ b∈frs outer,H b=none
 hok:HOk P w H s.heap
 bare:AllBare s.gens
def CE (outer:List Env) (P:Program) (w:World) (H:Hp) (s:Shared) (Q:VK) (u:Value) (s':Shared):Prop:=
 ∃ v H',s'.os=s.os∧AllBare s'.gens∧Un (frs outer) [] H H' s.heap s'.heap∧HOk P w H' s'.heap∧RelV v u∧Q v H'
def CR (CX:CXT) (outer:List Env) (P:Program) (w:World) (H:Hp) (s:Shared) (Q:VK) (E:XK) (r:Result) (s':Shared):Prop:=
 match r with
 | .ok (.ret u)=>CE outer P w H s Q u s'
 | .ok _=>False
 | .error e=>CX outer H s E e s'
structure FnOk (P:Program) (w:World) (K:PySem.W.Frag) (mg:Str→Option Value) (base:Heap) (CX:CXT) (k:Nat) (f:Addr) (fd:FuncData) (ps:List Str) (sp:Sp):Prop where
 len:∀ vs H Q E,sp vs H Q E→vs.length=ps.length
 run:∀ (A:Around) (outer:List Env) (s:Shared) (H:Hp) (args:Args) (us:List Value) (vs:List V) (Q:VK) (E:XK),Room k A→Env0 P w K mg base A outer s H→BindsTo s fd args (ps.zip us)→Vals vs us→sp vs H Q E→
  codeAny (model P w) A (.call (.ref f) args) (CR CX outer P w H s Q E) s
theorem FnOk.imp {P:Program} {w:World} {K:PySem.W.Frag} {mg:Str→Option Value} {base:Heap} {CX:CXT} {k:Nat} {f:Addr} {fd:FuncData} {ps:List Str} {sp sp':Sp} (F:FnOk P w K mg base CX k f fd ps sp)
  (h:∀ vs H Q E,sp' vs H Q E→sp vs H Q E):FnOk P w K mg base CX k f fd ps sp':=
 ⟨fun vs H Q E q=>F.len vs H Q E (h _ _ _ _ q),fun A outer s H args us vs Q E hr he hb hv hs=>F.run A outer s H args us vs Q E hr he hb hv (h _ _ _ _ hs)⟩
theorem Env0.make {P:Program} {w:World} {K:PySem.W.Frag} {mg:Str→Option Value} {base:Heap} {A:Around} {outer:List Env} {s:Shared} {H:Hp} (e:Env0 P w K mg base A outer s H) (C:Addr) (us:List Value) (kw:List (Str×Value)) :
  Env0 P w K mg base (A.under (.builtin "type.__call__" ⟨.ref C :: us,kw⟩)) outer s H:=⟨by first | exact e.frames | (simpa [Around.under,Code.envs,Code.isFrame,pushEnvs] using e.frames),e.mod,e.bs,e.bsz,e.funs,e.frf,e.hok,e.bare⟩
theorem Env0.in1 {P:Program} {w:World} {K:PySem.W.Frag} {mg:Str→Option Value} {base:Heap} {A:Around} {outer:List Env} {s:Shared} {H:Hp} (e:Env0 P w K mg base A outer s H) :
  Env0 P w K mg base A.in1 outer s H:=⟨e.frames,e.mod,e.bs,e.bsz,e.funs,e.frf,e.hok,e.bare⟩
section
variable {X:Cx} {pins:List (Addr×Obj)} {σ:St} {H:Hp} {s s':Shared}
theorem Inv.env0 (I:Inv X pins σ H s):Env0 X.prog X.w X.K X.mg X.base X.A X.stack s H:=
 ⟨I.ok.frames,I.ok.mod,I.bs,Nat.le_trans I.ok.bsz I.sz,I.stack,I.stkFree,I.hok,I.bare⟩
theorem Inv.after {Q:VK} {u:Value} (I:Inv X pins σ H s) (h:CE X.stack X.prog X.w H s Q u s'):EP X pins σ Q u s':=by
 obtain ⟨v,H',os,bare,un,hok,r,q⟩:=h
 obtain ⟨hh,g,d,t,os'⟩:=s'
 obtain rfl:os'=s.os:=os
 exact ⟨v,H',I.call (h':=hh) (g':=g) (d':=d) (t':=t) (ch:=[]) un hok bare (fun b z=>absurd z (by simp)),r,q⟩
end
def jdb (sp:Sp) (dvs:List V) (E:XK) (t:TA):TE:=fun σ H Q=>t σ H fun vs H1=>sp (vs++dvs) H1 Q E
def jf9 (C:Addr) (sp:Sp) (dvs:List V) (E:XK) (t:TA):TE:=fun σ H Q=>t σ H fun vs H1=>∀ x dx,H1 x=none→H1 dx=none→dx≠x→
 sp (.ref x :: (vs++dvs)) (upd (upd H1 dx (.own x)) x (.ins C dx [])) (fun v H2=>v=.non∧Q (.ref x) H2) E
def Binds (K:PySem.W.Frag) (fd:FuncData) (ps:List Str) (ds:List Value):Prop:=
 ∀ (s:Shared) (us:List Value),K.In s.heap→(us++ds).length=ps.length→BindsTo s fd ⟨us,[]⟩ (ps.zip (us++ds))
theorem Binds.all {K:PySem.W.Frag} {fd:FuncData} {ps:List Str} (h:∀ us:List Value,us.length=ps.length→bindArgs fd ⟨us,[]⟩=pure (ps.zip us)):Binds K fd ps []:=fun s us _ hl=>by
 rw [List.append_nil] at hl ⊢
 exact .of_eq (h us hl)
def K0 (CX:CXT) (X:Cx) (E:XK):Prop:=∀ (pins:List (Addr×Obj)) (σ:St) (H:Hp) (s:Shared) (e:Value) (s':Shared),Inv X pins σ H s→CX X.stack H s E e s'→X.xe e s'
section
variable {X:Cx} {CX:CXT} {k:Nat} {f C:Addr} {fd:FuncData} {ps:List Str} {sp:Sp} {dvs:List V} {ds:List Value} {E:XK} {x m:Str} {p pos apos:Pos} {e o:Expr} {es:List Expr} {ta:TE} {t:TA}
theorem jgv {pins:List (Addr×Obj)} {σ:St} {H:Hp} {s:Shared} {Q:VK} {us:List Value} {vs:List V} (F:FnOk X.prog X.w X.K X.mg X.base CX k f fd ps sp) (hr:Room k X.A) (hb:Binds X.K fd ps ds) (hd:Vals dvs ds) (hx:K0 CX X E)
  (I:Inv X pins σ H s) (r:Vals vs us) (h:sp (vs++dvs) H Q E):wpAny (model X.prog X.w) X.A (call (.ref f) us) (EP X pins σ Q) X.xe s:=by
 have r2:Vals (vs++dvs) (us++ds):=r.append hd
 have hl:(us++ds).length=ps.length:=by rw [← r2.length];exact F.len _ _ _ _ h
 refine wpAny_call (codeAny_mono (F.run X.A X.stack s H ⟨us,[]⟩ (us++ds) (vs++dvs) Q E hr I.env0 (hb s us I.kIn hl) r2 h) fun r s' hq=>?_)
 cases r with
 | error e=>exact hx pins σ H s e s' I hq
 | ok fl=>
  cases fl with
  | ret u=>exact I.after hq
  | next=>exact False.elim hq
  | brk=>exact False.elim hq
  | cont=>exact False.elim hq
theorem jfj (F:FnOk X.prog X.w X.K X.mg X.base CX k f fd ps sp) (hr:Room k X.A) (hg:Gl X x) (hm:X.mg x=some (.ref f)) (hk:PySem.W.keepIn X.K (.ref f)=true) (hb:Binds X.K fd ps ds) (hd:Vals dvs ds) (hx:K0 CX X E)
  (ha:PA X (e :: es) t) (hdb:(x == ("__debug__" : Str))=false:=by decide) (he:starEach (e :: es) X.env=(false,eval e X.env) :: starEach es X.env:=by rfl) (hpl:(backTo pos (starEach es X.env)).any (·.1)=false:=by rfl) :
  PE X (.Call (.Name x p) (e :: es) [] pos) (jdb sp dvs E t):=by
 intro pins s σ H Q I h
 refine wpAny_Call_Name_kw (Y9 I hg hm ?_ hdb)
 refine PySem.W.callWith_K (h₀:=X.base) I.ok.mod.kin hk (thn (ha pos pins s σ H _ I h) fun us s1 ⟨vs,H1,I1,r,q⟩=>⟨I1.kIn,?_⟩) he hpl
 exact jgv F hr hb hd hx I1 r q
structure Mk (K:PySem.W.Frag) (C f:Addr):Prop where
 makes:PySem.W.makesIn K C=true
 init:PySem.W.findIn K (.ref C) "__init__" = some (some (.ref f))
 fn:PySem.W.isFn K (.ref f)=true
 kp:PySem.W.keepIn K (.ref C)=true
theorem jdt {pins:List (Addr×Obj)} {σ:St} {H:Hp} {s:Shared} {Q:VK} {us:List Value} {vs:List V} (M:Mk X.K C f) (F:FnOk X.prog X.w X.K X.mg X.base CX k f fd ps sp) (hr:Room (k+1) X.A) (hb:Binds X.K fd ps ds) (hd:Vals dvs ds)
  (hx:K0 CX X E) (I:Inv X pins σ H s) (r:Vals vs us)
  (h:∀ x dx,H x=none→H dx=none→dx≠x→sp (.ref x :: (vs++dvs)) (upd (upd H dx (.own x)) x (.ins C dx [])) (fun v H2=>v=.non∧Q (.ref x) H2) E) :
  wpAny (model X.prog X.w) X.A (call (.ref C) us) (EP X pins σ Q) X.xe s:=by
 have hq:=h (s.heap.objs.size+1) s.heap.objs.size (I.hok.fresh (Nat.le_succ _)) (I.hok.fresh (Nat.le_refl _)) (Nat.ne_of_lt (Nat.lt_succ_self _))
 have I2:=Inv.made (C:=C) I
 have r2:Vals (V.ref (s.heap.objs.size+1) :: (vs++dvs)) (Value.ref (s.heap.objs.size+1) :: (us++ds)):=.cons rfl (r.append hd)
 have hl:(Value.ref (s.heap.objs.size+1) :: us++ds).length=ps.length:=by
  have e:=r2.length
  rw [F.len _ _ _ _ hq] at e
  exact e.symm
 refine wpAny_call (jea (f:=f) I.kIn M.makes M.init (beq_iff_eq.mp M.fn) (codeAny_mono (F.run _ X.stack _ _ ⟨Value.ref (s.heap.objs.size+1) :: us,[]⟩ (Value.ref (s.heap.objs.size+1) :: (us++ds)) _ _ E (hr.make C us [])
  (I2.env0.make C us []) (hb _ (Value.ref (s.heap.objs.size+1) :: us) I2.kIn hl) r2 hq) fun r s' hq'=>?_))
 cases r with
 | error e=>exact hx pins σ _ _ e s' I2 hq'
 | ok fl=>
  cases fl with
  | ret u=>
   obtain ⟨v,H',I3,rv,ev,q3⟩:=I2.after hq'
   subst ev
   exact ⟨rv,⟨V.ref (s.heap.objs.size+1),H',I3,rfl,q3⟩⟩
  | next=>exact False.elim hq'
  | brk=>exact False.elim hq'
  | cont=>exact False.elim hq'
theorem jdI (M:Mk X.K C f) (F:FnOk X.prog X.w X.K X.mg X.base CX k f fd ps sp) (hr:Room (k+1) X.A) (hg:Gl X x) (hm:X.mg x=some (.ref C)) (hb:Binds X.K fd ps ds) (hd:Vals dvs ds) (hx:K0 CX X E)
  (hdb:(x == ("__debug__" : Str))=false:=by decide):PE X (.Call (.Name x p) [] [] pos) (jf9 C sp dvs E jc6):=by
 intro pins s σ H Q I h
 refine wpAny_Call_Name_kw (Y9 I hg hm ?_ hdb)
 exact PySem.W.callWith_K0 I.kIn M.kp (jdt (us:=[]) M F hr hb hd hx I .nil h)
end
structure FnScope (N P:List Str) (sc:Scope):Prop where
 kind:sc.kind=.function
 co:sc.isCoroutine=false
 gen:sc.isGenerator=false
 nd:N.Nodup
 pre:N.take P.length=P
 par:∀ x∈P,sc.names.lookup x=some .local∨sc.names.lookup x=some .cell
 nofree:∀ y∈sc.names,y.2≠.free
theorem YF {kindOf:Str→Option NameKind} {x:Str}:∀ {binds:List (Str×Value)} {m:Str→Option Value},(∀ v,(x,v) ∉ binds)→bindL kindOf binds m x=m x
 | [],_,_=>rfl
 | (n,v) :: r,m,h=>by
  unfold bindL
  rw [YF fun w hw=>h w (List.mem_cons_of_mem _ hw)]
  split
  ·have:x≠n:=by rintro rfl;exact h v List.mem_cons_self
   simp [this]
  ·rfl
theorem YH {kindOf:Str→Option NameKind} {x:Str}:∀ {binds:List (Str×Value)} {m:Str→Option Value},(∀ v,(x,v) ∉ binds)→bindC kindOf binds m x=m x
 | [],_,_=>rfl
 | (n,v) :: r,m,h=>by
  unfold bindC
  rw [YH fun w hw=>h w (List.mem_cons_of_mem _ hw)]
  split
  ·rfl
  ·have:x≠n:=by rintro rfl;exact h v List.mem_cons_self
   simp [this]
theorem YG {kindOf:Str→Option NameKind} {x:Str} {v:Value}:∀ {P:List Str} {vs:List Value} {i:Nat} {m:Str→Option Value},P.Nodup→P[i]?=some x→vs[i]?=some v→kindOf x=some .local→
  bindL kindOf (P.zip vs) m x=some v
 | [],_,_,_,_,h,_,_=>by simp at h
 | _ :: _,[],_,_,_,_,h,_=>by simp at h
 | p :: P,w :: vs,0,m,nd,h1,h2,hk=>by
  simp at h1 h2;subst h1;subst h2
  show bindL kindOf ((p,w) :: P.zip vs) m p=_
  unfold bindL
  rw [YF fun v hv=>(List.nodup_cons.mp nd).1 (List.of_mem_zip hv).1,if_pos hk]
  simp
 | p :: P,w :: vs,i+1,m,nd,h1,h2,hk=>by
  show bindL kindOf ((p,w) :: P.zip vs) m x=_
  unfold bindL
  exact YG (i:=i) (List.nodup_cons.mp nd).2 (by simpa using h1) (by simpa using h2) hk
theorem YI {kindOf:Str→Option NameKind} {x:Str} {v:Value}:∀ {P:List Str} {vs:List Value} {i:Nat} {m:Str→Option Value},P.Nodup→P[i]?=some x→vs[i]?=some v→kindOf x≠some .local→
  bindC kindOf (P.zip vs) m x=some v
 | [],_,_,_,_,h,_,_=>by simp at h
 | _ :: _,[],_,_,_,_,h,_=>by simp at h
 | p :: P,w :: vs,0,m,nd,h1,h2,hk=>by
  simp at h1 h2;subst h1;subst h2
  show bindC kindOf ((p,w) :: P.zip vs) m p=_
  unfold bindC
  rw [YH fun v hv=>(List.nodup_cons.mp nd).1 (List.of_mem_zip hv).1,if_neg hk]
  simp
 | p :: P,w :: vs,i+1,m,nd,h1,h2,hk=>by
  show bindC kindOf ((p,w) :: P.zip vs) m x=_
  unfold bindC
  exact YI (i:=i) (List.nodup_cons.mp nd).2 (by simpa using h1) (by simpa using h2) hk
def start (N:List Str) (vs:List V):St:=vs.map some++List.replicate (N.length - vs.length) none
def yp (CX:CXT) (P:Program) (w:World) (K:PySem.W.Frag) (mg:Str→Option Value) (base:Heap) (N:List Str) (qual:Str) (scope:Scope) (f:Addr) (cd:Value) (A:Around) (outer:List Env) (s:Shared) (H:Hp) (E:XK):Cx where
 prog:=P
 w:=w
 K:=K
 mg:=mg
 base:=base
 A:=A.deeper (envOfC qual scope s.heap.objs.size f cd)
 N:=N
 s₀:=s
 H₀:=H
 env:=envOfC qual scope s.heap.objs.size f cd
 outer:=outer
 stack:=envOfC qual scope s.heap.objs.size f cd :: outer
 ex:=[]
 calm:=true
 fn:=fun _=>true
 pn:=[]
 xe:=fun e s'=>wpAny (model P w) (A.deeper (envOfC qual scope s.heap.objs.size f cd)) (leaving (envOfC qual scope s.heap.objs.size f cd) e) (fun _ s''=>CX outer H s E e s'') (fun e' s''=>CX outer H s E e' s'') s'
theorem jaf {sc:Scope} {n:Nat} {x:Str} (h:sc.names.lookup x=some .cell):∃ c,(cellsFrom n sc.names []).lookup x=some c:=by
 have q:=PySem.W.cellsFrom_some sc.names n [] (.inl h)
 exact Option.isSome_iff_exists.mp q
theorem jcu {CX:CXT} {P:Program} {w:World} {K:PySem.W.Frag} {mg:Str→Option Value} {base:Heap} {N ps:List Str} {qual:Str} {scope:Scope} {f:Addr} {cd:Value} {A:Around} {outer:List Env} {s s1:Shared} {H:Hp} {E:XK} {us:List Value} {vs:List V}
  (S:FnScope N ps scope) (hd:A.handled=none) (e0:Env0 P w K mg base A outer s H) (hl:vs.length=ps.length) (r:Vals vs us)
  (x:InCallC s s.heap.objs.size (bindL (envOfC qual scope s.heap.objs.size f cd).kindOf (ps.zip us) fun _=>none) (cellsFrom (s.heap.objs.size+1) scope.names []) (bindC (envOfC qual scope s.heap.objs.size f cd).kindOf (ps.zip us) fun _=>none) s1) :
  Inv (yp CX P w K mg base N qual scope f cd A outer s H E) [] (start N vs) H s1:=by
 have hpl:ps.length≤N.length:=by have:=congrArg List.length S.pre;rw [List.length_take] at this;omega
 obtain ⟨h1,tk,rfl,hk⟩:=x.done
 have noA:∀ b:Addr,b ∉ (yp CX P w K mg base N qual scope f cd A outer s H E).ex:=fun b z=>absurd (show b∈([]:List Addr) from z) (by simp)
 refine ⟨⟨e0.mod,S.kind,rfl,rfl,Nat.le_refl _,fun y z c h1 h2=>?_,fun y hy=>?_,fun y c _ h=>?_,fun _=>hd,Around.frames_deeper e0.frames,.inr ⟨rfl,rfl⟩,fun b z=>absurd z (noA b),e0.bs,e0.bsz,fun b _ _=>noA b,fun b z=>absurd z (noA b),e0.funs,e0.frf⟩,
  rfl,e0.bare,Un.kept hk,⟨_,x.toInCall.ns,fun i y v h1 h2 h3=>?_⟩,fun y c h=>⟨_,x.cell y c h⟩,e0.hok.fresh (Nat.le_refl _),fun y c h=>?_,fun p hp=>absurd (show p∈([]:List (Addr×Obj)) from hp) (by simp),e0.hok.kept hk,?_⟩
 ·exact name_of_addr x.apart (PySem.mem_of_lookup h1) (PySem.mem_of_lookup h2)
 ·have hy:scope.names.lookup y=some .cell∨scope.names.lookup y=some .free:=hy
  rcases hy with hy | hy
  ·exact jaf hy
  ·exact absurd rfl (S.nofree _ (PySem.mem_of_lookup hy))
 ·exact Nat.le_of_lt (x.above y c (PySem.mem_of_lookup h))
 ·have hi:i < vs.length:=by
   unfold start at h2
   by_cases hi:i < vs.length
   ·exact hi
   ·rw [List.getElem?_append_right (by simpa using hi)] at h2
    rw [List.getElem?_replicate] at h2
    split at h2 <;> cases h2
  have ha:vs[i]?=some v:=by
   unfold start at h2
   rw [List.getElem?_append_left (by simpa using hi),List.getElem?_map] at h2
   cases e:vs[i]? with
   | none=>rw [e] at h2;cases h2
   | some a=>rw [e] at h2;cases h2;rfl
  obtain ⟨u,hu,rv⟩:=r.get ha
  have hp:ps[i]?=some y:=by
   rw [← S.pre,List.getElem?_take_of_lt (by omega)];exact h1
  have ndP:ps.Nodup:=by rw [← S.pre];exact S.nd.sublist (List.take_sublist _ _)
  refine ⟨u,rv,?_⟩
  rcases S.par y (List.mem_of_getElem? hp) with k | k
  ·exact .inl ⟨k,YG ndP hp hu k⟩
  ·obtain ⟨c,e⟩:=jaf (n:=s.heap.objs.size+1) k
   refine .inr ⟨.inl k,c,e,?_⟩
   have q:=x.cell y c e
   rw [YI ndP hp hu (by show scope.names.lookup y≠_;rw [k];decide)] at q
   exact q
 ·exact e0.hok.fresh (Nat.le_of_lt (x.above y c (PySem.mem_of_lookup h)))
 ·unfold start
  show _=N.length
  rw [List.length_append,List.length_map,List.length_replicate]
  omega
theorem jia {CX:CXT} {P:Program} {w:World} {K:PySem.W.Frag} {mg:Str→Option Value} {base:Heap} {k:Nat} {f:Addr} {name qual:Str} {params:Arguments} {body:List Stmt} {scope:Scope} {dV kV doc pm cdv ct oc:Value} {an od:Option Addr}
  {osl:Array (Option Value)} {N ps:List Str} {sp:Sp} (lk:K.lookup f=some ⟨oc,od,.func (PySem.W.fnOf name qual params body scope dV kV doc pm an cdv ct),osl⟩) (hcd:PySem.W.codeIn K cdv qual=true) (S:FnScope N ps scope)
  (len:∀ vs H Q E,sp vs H Q E→vs.length=ps.length)
  (hbody:∀ (A:Around) (outer:List Env) (s:Shared) (H:Hp) (vs:List V) (Q:VK) (E:XK),Room k (A.deeper (envOfC qual scope s.heap.objs.size f cdv))→sp vs H Q E→
   ∃ t,PSs (yp CX P w K mg base N qual scope f cdv A outer s H E) body t∧t { nx:=fun _ H'=>Q .non H',rt:=Q } (start N vs) H) :
  FnOk P w K mg base CX (k+1) f (PySem.W.fnOf name qual params body scope dV kV doc pm an cdv ct) ps sp:=by
 refine ⟨len,fun A outer s H args us vs Q E hr e0 hb r hsp=>?_⟩
 have hl:=len _ _ _ _ hsp
 have KX:K.In s.heap:=e0.mod.kin.keeps fun b o e=>(e0.bs b o e).1
 have lim:s.heap.NoLimit:=e0.mod.nolimit.keeps fun b o e=>(e0.bs b o e).1
 have hkind:∀ y∈ps.zip us,scope.names.lookup y.1=some .local∨(scope.names.lookup y.1=some .cell∧((cellsFrom (s.heap.objs.size+1) scope.names []).lookup y.1).isSome=true):=fun ⟨n,v⟩ hy=>by
  rcases S.par n (List.of_mem_zip hy).1 with q | q
  ·exact .inl q
  ·exact .inr ⟨q,PySem.W.cellsFrom_some _ _ _ (.inl q)⟩
 refine codeAny_call_function hr.depth (KX _ _ lk) rfl S.co S.gen rfl (PySem.W.codeRec_of KX hcd) (hb _ _ _ _ ?_)
 refine wpAny_newFunctionEnv_cells S.kind hkind fun env he s1 x=>?_
 subst he
 refine ⟨lim.keeps x.toInCall.keep,codeAny_func ?_⟩
 obtain ⟨t,ht,hq⟩:=hbody A outer s H vs Q E (hr.deeper _) hsp
 have I:Inv (yp CX P w K mg base N qual scope f cdv A outer s H E) [] (start N vs) H s1:=jcu S hr.hd e0 hl r x
 refine wpAny_mono (ht [] s1 (start N vs) H _ I hq) (fun fl s' hs=>?_) fun e s' hs=>hs
 have fin:∀ {σ':St} {H':Hp} {v:V} {u:Value},Inv (yp CX P w K mg base N qual scope f cdv A outer s H E) [] σ' H' s'→RelV v u→Q v H'→CE outer P w H s Q u s':=
  fun {σ' H' v u} J rv q=>⟨v,H',J.os,J.bare,J.base,J.hok,rv,q⟩
 cases fl with
 | ret u=>
  obtain ⟨v,σ',H',J,rv,q⟩:=hs
  exact fin J rv q
 | next=>
  obtain ⟨σ',H',J,q⟩:=hs
  exact fin (v:=V.non) (u:=Value.none) J rfl q
 | brk=>
  obtain ⟨_,_,_,q⟩:=hs
  exact False.elim q
 | cont=>
  obtain ⟨_,_,_,q⟩:=hs
  exact False.elim q
section
variable {X:Cx} {x:Str} {p pos:Pos} {e:Expr} {es:List Expr} {t:TA} {id T:String} {r:List V→Hp→VK→Prop}
def tCB (r:List V→Hp→VK→Prop) (t:TA):TE:=fun σ H Q=>t σ H fun vs H1=>r vs H1 Q
theorem jdO (hc:qt X (.builtin id) r) (hg:Gl X x) (hm:X.mg x=none) (hv:bootBuiltins x=some (.builtin id)) (ha:PA X (e :: es) t) (hn:x≠"__name__":=by decide) (hdb:(x == ("__debug__" : Str))=false:=by decide)
  (he:starEach (e :: es) X.env=(false,eval e X.env) :: starEach es X.env:=by rfl) (hpl:(backTo pos (starEach es X.env)).any (·.1)=false:=by rfl):PE X (.Call (.Name x p) (e :: es) [] pos) (tCB r t):=by
 intro pins s σ H Q I h
 refine wpAny_Call_Name_kw (KH I hg hm hv ?_ hn hdb)
 exact PyProof.Rows.callWith_builtin1 (thn (ha pos pins s σ H _ I h) fun us s1 ⟨vs,H1,I1,r1,q1⟩=>hc pins s1 σ H1 vs us Q I1 r1 q1) he hpl
theorem jcb (hc:qt X (.type T) r) (hg:Gl X x) (hm:X.mg x=none) (hv:bootBuiltins x=some (.type T)) (ha:PA X (e :: es) t) (hn:x≠"__name__":=by decide) (hdb:(x == ("__debug__" : Str))=false:=by decide)
  (he:starEach (e :: es) X.env=(false,eval e X.env) :: starEach es X.env:=by rfl) (hpl:(backTo pos (starEach es X.env)).any (·.1)=false:=by rfl):PE X (.Call (.Name x p) (e :: es) [] pos) (tCB r t):=by
 intro pins s σ H Q I h
 refine wpAny_Call_Name_kw (KH I hg hm hv ?_ hn hdb)
 exact PyProof.Rows.callWith_type1 (thn (ha pos pins s σ H _ I h) fun us s1 ⟨vs,H1,I1,r1,q1⟩=>hc pins s1 σ H1 vs us Q I1 r1 q1) he hpl
end
end L2
namespace HT
open PySem PyProof.Rows
section
variable {prog:Program} {w:World} {A:Around} {E:Value→Shared→Prop} {s:Shared}
def sIx (n d:Nat):Option Int→Nat
 | none=>d
 | some v=>if v < 0 then (v+(n:Int)).toNat else min v.toNat n
theorem jgu (n d:Nat) (hd:d≤n) (o:Option Int):sIx n d o≤n:=by
 cases o with
 | none=>exact hd
 | some v=>
  show (if v < 0 then (v+(n:Int)).toNat else min v.toNat n)≤n
  by_cases hv:v < 0
  ·rw [if_pos hv];omega
  ·rw [if_neg hv];exact Nat.min_le_right _ _
theorem jbT (v:Int) (n d:Nat):(if v < 0 then max (v+(n:Int)) 0 else min v (n:Int))=((sIx n d (some v):Nat):Int):=by
 show (if v < 0 then max (v+(n:Int)) 0 else min v (n:Int))=(((if v < 0 then (v+(n:Int)).toNat else min v.toNat n):Nat):Int)
 by_cases hv:v < 0
 ·simp only [if_pos hv];omega
 ·simp only [if_neg hv];omega
theorem jaV (lo hi:Option Int) (n:Nat):Builtin.Slice.sliceAdjust lo hi 1 (n:Int)=(((sIx n 0 lo:Nat):Int),((sIx n n hi:Nat):Int)):=by
 have h1:¬ ((1:Int) < 0):=by omega
 unfold Builtin.Slice.sliceAdjust
 simp only [h1,if_false]
 refine Prod.ext ?_ ?_
 ·cases lo with
  | none=>rfl
  | some v=>exact jbT v n 0
 ·cases hi with
  | none=>rfl
  | some v=>exact jbT v n n
theorem jay (i j:Nat):Builtin.Slice.slicePlaces (i:Int) (j:Int) 1=j - i:=by
 unfold Builtin.Slice.slicePlaces
 have h1:(1:Int) > 0:=by omega
 simp only [h1,if_true,Int.ediv_one]
 split <;> omega
theorem Kt {v:Value} {o:Option Int} {Q:Option Int→Shared→Prop} (p:IsPart v o) (h:Q o s):wpAny (model prog w) A (Builtin.Slice.slicePartIndex v) Q E s:=by
 cases p with
 | none=>exact slicePart_none h
 | int i t=>exact slicePart_int h
theorem JA {sl:Addr} {vl vu:Value} {lo hi:Option Int} {n:Nat} {Q:Int×Int×Nat→Shared→Prop} (hs:s.heap.IsSliceOf sl vl vu .none) (pl:IsPart vl lo) (pu:IsPart vu hi)
  (h:Q (((sIx n 0 lo:Nat):Int),1,sIx n n hi - sIx n 0 lo) s):wpAny (model prog w) A (Builtin.Slice.sliceApplied (.ref sl) (pure (n:Int))) Q E s:=by
 obtain ⟨os,hos,hcs,hds⟩:=id hs
 unfold Builtin.Slice.sliceApplied Builtin.Slice.sliceFields
 refine wpAny_bind (wpAny_bind (wpAny_field hos hds (x:=vl) rfl (wpAny_bind (wpAny_field hos hds (x:=vu) rfl (wpAny_bind (wpAny_field hos hds (x:=.none) rfl (wpAny_pure ?_)))))))
 refine wpAny_bind (slicePart_none ?_)
 show wpAny _ _ (if ((1:Int) == 0)=true then _ else _) _ _ s
 rw [if_neg (by decide)]
 refine wpAny_bind (Kt pl (wpAny_bind (Kt pu (wpAny_bind (wpAny_pure ?_)))))
 show wpAny _ _ (match Builtin.Slice.sliceAdjust lo hi 1 (n:Int) with | (lo,hi)=>pure (lo,(1:Int),Builtin.Slice.slicePlaces lo hi 1)) _ _ s
 rw [jaV lo hi n]
 show wpAny _ _ (pure (((sIx n 0 lo:Nat):Int),(1:Int),Builtin.Slice.slicePlaces ((sIx n 0 lo:Nat):Int) ((sIx n n hi:Nat):Int) 1)) _ _ s
 rw [jay]
 exact wpAny_pure h
theorem jdC (xs:Array Value) (i k:Nat):((List.range k).filterMap fun (m:Nat)=>xs[((i:Int)+(m:Int) * 1).toNat]?).toArray=((xs.toList.drop i).take k).toArray:=by
 have e:(fun (m:Nat)=>xs[((i:Int)+(m:Int) * 1).toNat]?)=fun m=>xs[i+m]?:=by
  funext m
  have:((i:Int)+(m:Int) * 1).toNat=i+m:=by omega
  rw [this]
 rw [e]
 have:=pick_run xs i k
 rw [List.filterMap_map] at this
 have e2:((fun x=>xs[x]?) ∘ fun x=>i+x)=fun m=>xs[i+m]?:=rfl
 rw [e2] at this
 rw [this]
theorem getItem_tuple_cut {t sl:Addr} {items:Array Value} {vl vu:Value} {lo hi:Option Int} {Q:Value→Shared→Prop} (ht:IsTup s.heap t items) (hs:s.heap.IsSliceOf sl vl vu .none) (pl:IsPart vl lo) (pu:IsPart vu hi)
  (hw:¬ (sIx items.size 0 lo=0∧sIx items.size items.size hi=items.size))
  (h:Q (.ref s.heap.objs.size) { s with heap:=s.heap.push { cls:=.type "tuple",data:=.seq ((items.toList.drop (sIx items.size 0 lo)).take (sIx items.size items.size hi - sIx items.size 0 lo)).toArray } })
  (hsz:items.size≤sizeLine):wpAny (model prog w) A (getItem (.ref t) (.ref sl)) Q E s:=by
 have htake:sizeOk (.seq ((items.toList.drop (sIx items.size 0 lo)).take (sIx items.size items.size hi - sIx items.size 0 lo)).toArray):=by
  show ((items.toList.drop (sIx items.size 0 lo)).take (sIx items.size items.size hi - sIx items.size 0 lo)).toArray.size≤sizeLine
  rw [List.size_toArray,List.length_take,List.length_drop,Array.length_toList]
  omega
 have hj:sIx items.size items.size hi≤items.size:=jgu _ _ (Nat.le_refl _) hi
 obtain ⟨os,hos,hcs,hds⟩:=id hs
 have hTs:s.TypeIs (.ref sl) "slice":=⟨os,hos,hcs⟩
 unfold getItem
 try with_reducible refine wpAny_holding ?_
 first | refine wpAny_bind (wpAny_pure ?_) | skip
 refine wpAny_bind (wpAny_sequenceKey ht.typeIs (by decide) ?_)
 refine wpAny_bind (wpAny_callSpecial?_slot (name:=Str.ofString "__getitem__") ht.typeIs PyProof.Rows.slot_tuple_getitem
  (wpAny_call_entry PyProof.Rows.slot_tuple_getitem ht.typeIs entry_tuple_getitem ?_ (args_tuple_getitem _ _)))
 show wpAny _ _ (Builtin.Tuple.tupleItemsOf (.ref t) >>= _) _ _ s
 refine wpAny_bind (tupleItemsOf_ ht ?_)
 refine wpAny_bind (wpAny_typeOf hTs ?_)
 rw [if_pos (by decide)]
 refine wpAny_bind (JA hs pl pu ?_)
 have hno:¬ ((((sIx items.size 0 lo:Nat):Int) == 0 && (1:Int) == 1 && (sIx items.size items.size hi - sIx items.size 0 lo) == items.size)=true):=by
  intro q
  rw [Bool.and_eq_true,Bool.and_eq_true] at q
  have q1:((sIx items.size 0 lo:Nat):Int)=0:=eq_of_beq q.1.1
  have q2:sIx items.size items.size hi - sIx items.size 0 lo=items.size:=eq_of_beq q.2
  exact hw ⟨by omega,by omega⟩
 show wpAny _ _ (if (((sIx items.size 0 lo:Nat):Int) == 0 && (1:Int) == 1 && (sIx items.size items.size hi - sIx items.size 0 lo) == items.size)=true then _ else _) _ _ s
 rw [if_neg hno,jdC]
 first
  | exact wpAny_bind (m:=Builtin.Tuple.tupleExact _) (wpAny_newObj_type (wpAny_pure ⟨_,rfl,wpAny_pure h⟩) htake)
  | exact wpAny_bind (m:=Builtin.Tuple.tupleExact _) (wpAny_newObj_type (wpAny_bind (wpAny_pure (wpAny_pure ⟨_,rfl,wpAny_pure h⟩))) htake)
  | exact wpAny_bind (wpAny_bind (m:=Builtin.Tuple.tupleExact _) (wpAny_newObj_type (wpAny_pure (wpAny_pure ⟨_,rfl,wpAny_pure h⟩)) htake))
  | exact wpAny_bind (wpAny_bind (m:=Builtin.Tuple.tupleExact _) (wpAny_newObj_type (wpAny_pure ⟨_,rfl,wpAny_pure h⟩) htake))
end
end HT
namespace L2
open PySem PySem.Spec PyProof.Rows
abbrev TO:=St→Hp→(Option Int→Hp→Prop)→Prop
def PO (X:Cx) (e:Option Expr) (t:TO):Prop:=
 ∀ (pins:List (Addr×Obj)) (s:Shared) (σ:St) (H:Hp) (Q:Option Int→Hp→Prop),Inv X pins σ H s→t σ H Q→
  wpAny (model X.prog X.w) X.A (evalPart e X.env) (fun u s'=>∃ o H',Inv X pins σ H' s'∧IsPart u o∧Q o H') X.xe s
def ja5:TO:=fun _ H Q=>Q none H
def jf7 (t:TE):TO:=fun σ H Q=>t σ H fun x H1=>∃ i,x=.int i∧Q (some i) H1
section
variable {X:Cx} {e:Expr} {te:TE} {lo hi:Option Expr} {tl th:TO} {pos p2:Pos}
theorem je9:PO X none ja5:=by
 intro pins s σ H Q I h
 rw [evalPart_none]
 exact wpAny_pure ⟨none,H,I,.none,h⟩
theorem je8 (h:PE X e te):PO X (some e) (jf7 te):=by
 intro pins s σ H Q I hw
 rw [evalPart_some]
 refine thn (h pins s σ H _ I hw) fun u s1 ⟨x,H1,I1,r1,q1⟩=>?_
 obtain ⟨i,rfl,q⟩:=q1
 obtain ⟨t,rfl⟩:=r1
 exact ⟨some i,H1,I1,.int i t,q⟩
def SlR (X:Cx) (r:V→Option Int→Option Int→Hp→VK→Prop):Prop:=
 ∀ (pins:List (Addr×Obj)) (s:Shared) (σ:St) (H:Hp) (x:V) (v vl vu:Value) (lo hi:Option Int) (sl:Addr) (Q:VK),Inv X pins σ H s→RelV x v→s.heap.IsSliceOf sl vl vu .none→IsPart vl lo→IsPart vu hi→r x lo hi H Q→
  ∃ T id,typeLookup (.type T) "__getitem__" = pure (some (.builtin id))∧s.TypeIs v T∧wpAny (model X.prog X.w) X.A (getItem v (.ref sl)) (EP X pins σ Q) X.xe s
def tSl (r:V→Option Int→Option Int→Hp→VK→Prop) (te:TE) (tl th:TO):TE:=fun σ H Q=>te σ H fun x H1=>tl σ H1 fun l H2=>th σ H2 fun u H3=>r x l u H3 Q
theorem jdH {r:V→Option Int→Option Int→Hp→VK→Prop} (hr:SlR X r) (he:PE X e te) (hl:PO X lo tl) (hu:PO X hi th):PE X (.Subscript e (.Slice lo hi none p2) pos) (tSl r te tl th):=by
 intro pins s σ H Q I h
 refine Subscript_ (thn (he pins s σ H _ I h) fun v s1 ⟨x,H1,I1,r1,q1⟩=>?_)
 refine wpAny_Slice (thn (hl pins s1 σ H1 _ I1 q1) fun vl s2 ⟨l,H2,I2,pl,q2⟩=>thn (hu pins s2 σ H2 _ I2 q2) fun vu s3 ⟨u,H3,I3,pu,q3⟩=>?_)
 rw [evalPart_none]
 refine wpAny_pure ?_
 have I4:Inv X pins σ H3 { s3 with heap:=s3.heap.push { cls:=.type "slice",data:=.fields #[vl,vu,.none] } }:=I3.kept (t':=s3.toks) fun b ob q=>Heap.get?_push_of_some _ q
 obtain ⟨T,id,hT,ht,hg⟩:=hr pins { s3 with heap:=s3.heap.push { cls:=.type "slice",data:=.fields #[vl,vu,.none] } } σ H3 x v vl vu l u s3.heap.objs.size Q I4 r1 (Heap.IsSliceOf.new ..) pl pu q3
 show wpAny (model X.prog X.w) X.A (subscriptTail e (.Slice lo hi none p2) v (.ref s3.heap.objs.size)) (EP X pins σ Q) X.xe { s3 with heap:=s3.heap.push { cls:=.type "slice",data:=.fields #[vl,vu,.none] } }
 exact tail_any (ops:=[.ref s3.heap.objs.size,v]) ht hT hg (by with_unfolding_all rfl)
def qZ (xs:List V) (lo hi:Option Int):List V:=(xs.drop (HT.sIx xs.length 0 lo)).take (HT.sIx xs.length xs.length hi - HT.sIx xs.length 0 lo)
theorem JU (xs:List V) (lo hi:Option Int):(qZ xs lo hi).length≤xs.length:=by
 unfold qZ
 rw [List.length_take,List.length_drop]
 omega
def jik (K:PySem.W.Frag):V→Option Int→Option Int→Hp→VK→Prop:=fun x lo hi H Q=>∃ a xs,x=.ref a∧SqT K H a xs∧
 ¬ (HT.sIx xs.length 0 lo=0∧HT.sIx xs.length xs.length hi=xs.length)∧∀ p,H p=none→Q (.ref p) (upd H p (.tup (qZ xs lo hi)))
theorem YV:SlR X (jik X.K):=by
 intro pins s σ H x v vl vu lo hi sl Q I rx hs pl pu h
 obtain ⟨a,xs,rfl,hx,hw,q⟩:=h
 cases rx
 obtain ⟨its,r,ht,hz⟩:=I.tuple hx
 have hlen:its.toArray.size=xs.length:=by rw [List.size_toArray];exact r.length.symm
 refine ⟨"tuple",_,PyProof.Rows.slot_tuple_getitem.lookup,ht.typeIs,?_⟩
 refine HT.getItem_tuple_cut ht hs pl pu (by rw [hlen];exact hw) ?_ (by rw [hlen];exact hz)
 rw [hlen]
 refine ⟨.ref s.heap.objs.size,_,I.laid (t':=s.toks) (o:=.tup (qZ xs lo hi)) (fun b ob q=>Heap.get?_push_of_some _ q) (Nat.le_refl _) ?_,rfl,q _ (I.hok.fresh (Nat.le_refl _))⟩
 exact ⟨Nat.le_trans (JU xs lo hi) hz,_,(r.drop (HT.sIx xs.length 0 lo)).take (HT.sIx xs.length xs.length hi - HT.sIx xs.length 0 lo),IsTup.new _ _⟩
end
def ixN (n:Nat) (i:Int):Option Nat:=if 0≤i then (if i < n then some i.toNat else none) else if -(n:Int)≤i then some (i+n).toNat else none
def atI {α:Type} (xs:List α) (i:Int):Option α:=(ixN xs.length i).bind fun j=>xs[j]?
theorem jbG {n:Nat} {i:Int} {j:Nat} (h:ixN n i=some j):seqIndex? i n=some j∧j < n∧-(n:Int)≤i∧i < n:=by
 unfold ixN at h
 by_cases h0:0≤i
 ·rw [if_pos h0] at h
  by_cases h1:i < n
  ·rw [if_pos h1] at h
   have e:i.toNat=j:=Option.some.inj h
   exact ⟨by rw [seqIndex_of h0 h1,e],by omega,by omega,h1⟩
  ·rw [if_neg h1] at h;cases h
 ·rw [if_neg h0] at h
  by_cases h1:-(n:Int)≤i
  ·rw [if_pos h1] at h
   have e:(i+n).toNat=j:=Option.some.inj h
   exact ⟨by rw [seqIndex_neg (by omega) h1,e],by omega,h1,by omega⟩
  ·rw [if_neg h1] at h;cases h
theorem Zo {α:Type} {xs:List α} {i:Int} {v:α} (h:atI xs i=some v):∃ j,seqIndex? i xs.length=some j∧xs[j]?=some v∧j < xs.length∧-(xs.length:Int)≤i∧i < xs.length:=by
 unfold atI at h
 cases e:ixN xs.length i with
 | none=>rw [e] at h;cases h
 | some j=>
  rw [e] at h
  obtain ⟨h1,h2,h3,h4⟩:=jbG e
  exact ⟨j,h1,h,h2,h3,h4⟩
theorem jf {α:Type} {xs:List α} {j:Nat} {v:α} (h:xs[j]?=some v):atI xs (j:Int)=some v:=by
 have hj:j < xs.length:=(List.getElem?_eq_some_iff.mp h).1
 have e:ixN xs.length (j:Int)=some j:=by
  unfold ixN
  rw [if_pos (by omega),if_pos (by omega)];simp
 unfold atI;rw [e];exact h
theorem jeC {α:Type} (xs:List α) (v:α):atI (xs++[v]) (-1)=some v:=by
 have hl:(xs++[v]).length=xs.length+1:=by simp
 have e:ixN (xs++[v]).length (-1)=some xs.length:=by
  unfold ixN
  rw [hl,if_neg (by decide),if_pos (by omega)]
  congr 1
  omega
 unfold atI
 rw [e]
 show (xs++[v])[xs.length]?=some v
 simp
def jbW (b:Expr):Prop:=∀ o i,subscripted b false o i=operate [o,i] (getItem o i)
def IxR (X:Cx) (r:R2):Prop:=
 ∀ (value slice:Expr) (pins:List (Addr×Obj)) (s:Shared) (σ:St) (H:Hp) (x y:V) (v u:Value) (Q:VK),Inv X pins σ H s→RelV x v→RelV y u→r x y H Q→
  subscripted slice false v u=operate [v,u] (getItem v u)→wpAny (model X.prog X.w) X.A (subscriptTail value slice v u) (EP X pins σ Q) X.xe s
def MtR (X:Cx) (id:String) (r:V→List V→Hp→VK→Prop):Prop:=
 ∀ (pins:List (Addr×Obj)) (s:Shared) (σ:St) (H:Hp) (x:V) (xs:List V) (v:Value) (us:List Value) (Q:VK),Inv X pins σ H s→RelV x v→Vals xs us→r x xs H Q→
  wpAny (model X.prog X.w) X.A (call (.builtin id) (v :: us)) (EP X pins σ Q) X.xe s
section
variable {X:Cx} {a b:Expr} {ta tb:TE} {pos:Pos}
theorem jhL {r:R2} (hr:IxR X r) (ha:PE X a ta) (hb:PE X b tb) (hs:jbW b):PE X (.Subscript a b pos) (tOp r ta tb):=by
 intro pins s σ H Q I h
 exact Subscript_ (jhf ha hb I h fun v u s2 x y H2 I2 rx ry q=>hr a b pins s2 σ H2 x y v u Q I2 rx ry q (hs _ _))
def jhF (K:PySem.W.Frag):R2:=fun x y H Q=>∃ p xs i v,x=.ref p∧y=.int i∧SqL K H p xs∧atI xs i=some v∧Q v H
def jgx (K:PySem.W.Frag):R2:=fun x y H Q=>∃ p xs i v,x=.ref p∧y=.int i∧SqT K H p xs∧atI xs i=some v∧Q v H
def jin:R2:=fun x y H Q=>∃ z i c,x=.str z∧y=.int i∧z.length≤sizeLine∧atI z.cps.toList i=some c∧Q (.str ⟨#[c]⟩) H
theorem jV:IxR X (jhF X.K):=by
 intro value slice pins s σ H x y v u Q I rx ry h hs
 obtain ⟨p,xs,i,z,rfl,rfl,hq,he,q⟩:=h
 cases rx
 obtain ⟨t,rfl⟩:=ry
 obtain ⟨its,r,pl,hz⟩:=I.list hq
 obtain ⟨j,h1,h2,h3,h4,h5⟩:=Zo he
 obtain ⟨w,ew,rw'⟩:=r.get h2
 have hl:=r.length
 have hn:=JF
 have fin:EP X pins σ Q w s:=⟨z,H,I,rw',q⟩
 by_cases h0:0≤i
 ·have hj:i.toNat=j:=by
   rw [seqIndex_of h0 h5] at h1
   exact Option.some.inj h1
  exact item_listR pl.isList h0 (by omega) (by rw [hj];simpa using ew) fin hs
 ·have hj:(i+(its.toArray.size:Int)).toNat=j:=by
   rw [seqIndex_neg (by omega) h4] at h1
   rw [List.size_toArray,← hl]
   exact Option.some.inj h1
  exact subscriptTail_builtinR (x:=w) pl.isList.typeIs slot_list_getitem.lookup
   (wpAny_getItem_list_neg (Q:=fun r s'=>r=w∧EP X pins σ Q r s') pl.isList (by omega) (by rw [List.size_toArray] <;> omega) (by omega) (by rw [hj];simpa using ew) ⟨rfl,fin⟩) hs
theorem ju:IxR X (jgx X.K):=by
 intro value slice pins s σ H x y v u Q I rx ry h hs
 obtain ⟨p,xs,i,z,rfl,rfl,hq,he,q⟩:=h
 cases rx
 obtain ⟨t,rfl⟩:=ry
 obtain ⟨its,r,pl,hz⟩:=I.tuple hq
 obtain ⟨j,h1,h2,h3,h4,h5⟩:=Zo he
 obtain ⟨w,ew,rw'⟩:=r.get h2
 have hl:=r.length
 have hn:=JF
 have fin:EP X pins σ Q w s:=⟨z,H,I,rw',q⟩
 exact subscriptTail_builtinR (x:=w) pl.typeIs slot_tuple_getitem.lookup
  (getItem_tuple (j:=j) (Q:=fun r s'=>r=w∧EP X pins σ Q r s') pl (by omega) (by omega) (by rw [List.size_toArray,← hl];exact h1) (by simpa using ew) ⟨rfl,fin⟩) hs
theorem jaH:IxR X jin:=by
 intro value slice pins s σ H x y v u Q I rx ry h hs
 obtain ⟨z,i,c,rfl,rfl,hz,he,q⟩:=h
 obtain ⟨t,rfl⟩:=rx
 obtain ⟨t',rfl⟩:=ry
 obtain ⟨j,h1,h2,h3,h4,h5⟩:=Zo he
 have hl:z.cps.toList.length=z.length:=by simp [Str.length]
 rw [hl] at h1 h4 h5
 have hn:=JF
 exact tail_any (typeIs_str s z t) slot_str_getitem.lookup (getItem_str (c:=c) (by
  have e1:decide (i < -(2 ^ 63:Int))=false:=decide_eq_false (by omega)
  have e2:decide (i ≥ 2 ^ 63)=false:=decide_eq_false (by omega)
  rw [e1,e2,Bool.or_false]) (by rw [h1];simpa using h2) ⟨.str ⟨#[c]⟩,H,I.tok _,⟨_,rfl⟩,q⟩) hs
theorem jaC (its:List Value) (n j:Nat) (u:Value):Obj.mapSeq (·.setIfInBounds j u) { cls:=.type "list",data:=.seq its.toArray n }={ cls:=.type "list",data:=.seq (its.set j u).toArray n }:=by
 simp [Obj.mapSeq]
theorem Inv.lst {pins:List (Addr×Obj)} {σ:St} {H:Hp} {s:Shared} {p:Addr} {xs:List V} (I:Inv X pins σ H s) (h:H p=some (.lst xs)) :
  ∃ (its:List Value) (n:Nat),Vals xs its∧s.heap.get? p=some { cls:=.type "list",data:=.seq its.toArray n }∧xs.length≤sizeLine:=by
 obtain ⟨z,its,n,r,e⟩:=I.hok p _ h
 exact ⟨its,n,r,e,z⟩
theorem Inv.lstUpd {pins:List (Addr×Obj)} {σ:St} {H:Hp} {s:Shared} {p:Addr} {xs ys:List V} {its its':List Value} {n n':Nat} {f:Obj→Obj} (I:Inv X pins σ H s) (h:H p=some (.lst xs))
  (ho:s.heap.get? p=some { cls:=.type "list",data:=.seq its.toArray n }) (hf:f { cls:=.type "list",data:=.seq its.toArray n }={ cls:=.type "list",data:=.seq its'.toArray n' }) (r:Vals ys its') (hz:ys.length≤sizeLine) (t:Nat) :
  Inv X pins σ (upd H p (.lst ys)) { s with heap:=s.heap.update p f,toks:=t }:=by
 have e:(s.heap.update p f).get? p=some { cls:=.type "list",data:=.seq its'.toArray n' }:=by
  rw [Heap.get?_update_self f ho (by rw [hf] <;> rfl),hf]
 refine I.write (x:=p) (e:=p) (by rw [h];trivial) (.inl rfl) (fun b u hb q=>(Heap.get?_update_other _ _ (Ne.symm hb)).trans q) ⟨_,e⟩ ?_
 exact ⟨hz,its',n',r,e⟩
def jhE:V→V→V→Hp→(Hp→Prop)→Prop:=fun o i v H Q=>∃ p xs k j,o=.ref p∧i=.int k∧H p=some (.lst xs)∧ixN xs.length k=some j∧Q (upd H p (.lst (xs.set j v)))
theorem jdo:jhk X jhE:=by
 intro pins s σ H o i v ov iv u Q I ro ri rv h
 obtain ⟨p,xs,k,j,rfl,rfl,hp,hj,q⟩:=h
 cases ro
 obtain ⟨t,rfl⟩:=ri
 obtain ⟨its,n,r,ho,hz⟩:=I.lst hp
 obtain ⟨h1,h2,h3,h4⟩:=jbG hj
 have hl:=r.length
 have hn:=JF
 have I':Inv X pins σ (upd H p (.lst (xs.set j v))) { s with heap:=s.heap.update p (Obj.mapSeq (·.setIfInBounds j u)) }:=
  I.lstUpd hp ho (jaC its n j u) (r.set rv j) (by rw [List.length_set];exact hz) s.toks
 by_cases h0:0≤k
 ·have hk:k.toNat=j:=by
   rw [seqIndex_of h0 h4] at h1
   exact Option.some.inj h1
  exact PySem.W.ki_setAt ho h0 (by omega) (by rw [List.size_toArray,← hl];exact h4) (by rw [hk];exact ⟨_,I',q⟩)
 ·have hk:(k+(its.toArray.size:Int)).toNat=j:=by
   rw [seqIndex_neg (by omega) h3] at h1
   rw [List.size_toArray,← hl]
   exact Option.some.inj h1
  exact PySem.W.ki_setBack ho (by omega) (by rw [List.size_toArray,← hl];exact h3) (by omega) (by rw [hk];exact ⟨_,I',q⟩)
theorem YU (lo hi:Option Int) (n:Nat):(sliceBounds lo hi none n).1=((HT.sIx n 0 lo:Nat):Int)∧(sliceBounds lo hi none n).2.1=((HT.sIx n n hi:Nat):Int)∧(sliceBounds lo hi none n).2.2=1:=by
 refine ⟨?_,?_,rfl⟩
 ·cases lo with
  | none=>simp [sliceBounds,HT.sIx]
  | some i=>
   simp only [sliceBounds,HT.sIx,Option.getD_none,show (1:Int) > 0 by decide,if_true]
   by_cases h:i < 0
   ·simp only [h,if_true] <;> omega
   ·simp only [h,if_false] <;> omega
 ·cases hi with
  | none=>simp [sliceBounds,HT.sIx]
  | some i=>
   simp only [sliceBounds,HT.sIx,Option.getD_none,show (1:Int) > 0 by decide,if_true]
   by_cases h:i < 0
   ·simp only [h,if_true] <;> omega
   ·simp only [h,if_false] <;> omega
theorem K3 (its:List Value) (lo hi:Option Int):slicePick its.toArray lo hi none=((its.drop (HT.sIx its.length 0 lo)).take (HT.sIx its.length its.length hi - HT.sIx its.length 0 lo)).toArray:=by
 obtain ⟨h1,h2,h3⟩:=YU lo hi its.toArray.size
 unfold slicePick
 rw [h1,h2,h3]
 simp only [sliceRange_one,pick_run,List.size_toArray] <;> rfl
def jil (K:PySem.W.Frag):V→Option Int→Option Int→Hp→VK→Prop:=fun x lo hi H Q=>∃ a xs,x=.ref a∧SqL K H a xs∧∀ p,H p=none→Q (.ref p) (upd H p (.lst (qZ xs lo hi)))
theorem YW:SlR X (jil X.K):=by
 intro pins s σ H x v vl vu lo hi sl Q I rx hs pl pu h
 obtain ⟨a,xs,rfl,hx,q⟩:=h
 cases rx
 obtain ⟨its,r,ht,hz⟩:=I.list hx
 have hlen:=r.length
 refine ⟨"list",_,slot_list_getitem.lookup,ht.isList.typeIs,?_⟩
 refine wpAny_getItem_list_slice ht.isList hs pl pu .none (by simp) ?_ (by rw [List.size_toArray] <;> omega)
 rw [K3,← hlen]
 refine ⟨.ref s.heap.objs.size,_,I.laid (t':=s.toks) (o:=.lst (qZ xs lo hi)) (fun b ob q=>Heap.get?_push_of_some _ q) (Nat.le_refl _) ?_,rfl,q _ (I.hok.fresh (Nat.le_refl _))⟩
 exact ⟨Nat.le_trans (JU xs lo hi) hz,_,0,(r.drop (HT.sIx xs.length 0 lo)).take (HT.sIx xs.length xs.length hi - HT.sIx xs.length 0 lo),Heap.get?_push_size _ rfl⟩
theorem kM:qt X (.builtin "len") (fun xs H Q=>∃ p ys,xs=[.ref p]∧(SqL X.K H p ys∨SqT X.K H p ys)∧Q (.int ys.length) H):=by
 intro pins s σ H xs us Q I r h
 obtain ⟨p,ys,rfl,hq,q⟩:=h
 obtain ⟨u,rfl,rx⟩:=zz r
 cases rx
 have hn:=JF
 rcases hq with hq | hq
 ·obtain ⟨its,r',pl,hz⟩:=I.list hq
  have hlen:=r'.length
  exact Calls.call_len_list pl.isList (by simp only [List.size_toArray] <;> omega) ⟨.int ys.length,H,I.tok _,⟨s.toks+1,by rw [List.size_toArray,hlen]⟩,q⟩
 ·obtain ⟨its,r',pl,hz⟩:=I.tuple hq
  have hlen:=r'.length
  exact len_tuple pl (by simp only [List.size_toArray] <;> omega) ⟨.int ys.length,H,I.tok _,⟨s.toks+1,by rw [List.size_toArray,hlen]⟩,q⟩
theorem Zk:qt X (.type "list") (fun xs H Q=>∃ p ys,xs=[.ref p]∧(SqL X.K H p ys∨SqT X.K H p ys)∧∀ l,H l=none→Q (.ref l) (upd H l (.lst ys))):=by
 intro pins s σ H xs us Q I r h
 obtain ⟨p,ys,rfl,hq,q⟩:=h
 obtain ⟨u,rfl,rx⟩:=zz r
 cases rx
 have fin:∀ (its:List Value),Vals ys its→ys.length≤sizeLine→∀ (h':Heap) (c':Nat),(∀ b o',s.heap.get? b=some o'→h'.get? b=some o')→
   h'.get? s.heap.objs.size=some { cls:=.type "list",dict:=none,data:=.seq its.toArray c',slots:=#[] }→EP X pins σ Q (.ref s.heap.objs.size) { s with heap:=h' }:=fun its r' hz h' c' kp e=>
  ⟨.ref s.heap.objs.size,_,I.laid (t':=s.toks) kp (Nat.le_refl _) (show ObjOk X.prog X.w _ h' _ (.lst ys) from ⟨hz,its,c',r',e⟩),rfl,q _ (I.hok.fresh (Nat.le_refl _))⟩
 rcases hq with hq | hq
 ·obtain ⟨its,r',pl,hz⟩:=I.list hq
  have hlen:=r'.length
  obtain ⟨o,ho,hc,n,hd⟩:=pl.isList
  exact call_list_seq p (.inl rfl) ho hc hd (fun h' c' kp e=>fin its r' hz h' c' kp e) (by simp only [List.size_toArray] <;> omega)
 ·obtain ⟨its,r',pl,hz⟩:=I.tuple hq
  have hlen:=r'.length
  obtain ⟨o,ho,hc,n,hd⟩:=pl
  exact call_list_seq p (.inr rfl) ho hc hd (fun h' c' kp e=>fin its r' hz h' c' kp e) (by simp only [List.size_toArray] <;> omega)
def tyV (K:PySem.W.Frag) (T:String) (x:V) (H:Hp):Prop:=match x with
 | .str _=>T = "str"
 | .int _=>T = "int"
 | .ref p=>(T = "list"∧∃ xs,SqL K H p xs)∨(T = "tuple"∧∃ o,K.lookup p=some o∧o.cls=.type "tuple"∧o.dict=none)∨
   (T = "dict"∧((∃ kvs,H p=some (.dK kvs))∨∃ kvs,H p=some (.dT kvs)))∨(T = "set"∧∃ S n,H p=some (.set S n))
 | _=>False
theorem jcX {pins:List (Addr×Obj)} {σ:St} {H:Hp} {s:Shared} {T:String} {x:V} {v:Value} (I:Inv X pins σ H s) (r:RelV x v) (ty:tyV X.K T x H) :
  s.TypeIs v T∧∀ a,v=.ref a→∃ ob,s.heap.get? a=some ob∧ob.dict=none:=by
 cases x with
 | str z=>
  obtain ⟨t,rfl⟩:=r
  cases (show T = "str" from ty)
  exact ⟨typeIs_str s z t,fun _ e=>nomatch e⟩
 | int i=>
  obtain ⟨t,rfl⟩:=r
  cases (show T = "int" from ty)
  exact ⟨typeIs_int s i t,fun _ e=>nomatch e⟩
 | ref p=>
  cases r
  rcases ty with ⟨rfl,xs,hq⟩ | ⟨rfl,o,hk,hc,hd⟩ | ⟨rfl,hk⟩ | ⟨rfl,S,n,hk⟩
  ·obtain ⟨its,_,pl,_⟩:=I.list hq
   refine ⟨pl.isList.typeIs,fun a e=>?_⟩
   cases e
   obtain ⟨o,n,e,c,hd,_⟩:=pl
   exact ⟨o,e,hd⟩
  ·refine ⟨⟨o,I.kIn p o hk,hc⟩,fun a e=>?_⟩
   cases e
   exact ⟨o,I.kIn _ o hk,hd⟩
  ·have z:∃ o,s.heap.get? p=some o∧o.ExactDict:=by
    rcases hk with ⟨kvs,hk⟩ | ⟨kvs,hk⟩
    ·obtain ⟨_,_,_,_,o,_,_,e,ex,_⟩:=I.hok p _ hk
     exact ⟨o,e,ex⟩
    ·obtain ⟨_,_,_,_,o,_,_,e,ex,_⟩:=I.hok p _ hk
     exact ⟨o,e,ex⟩
   obtain ⟨o,e,ex⟩:=z
   refine ⟨⟨o,e,ex.1⟩,fun a e2=>?_⟩
   cases e2
   exact ⟨o,e,ex.2.1⟩
  ·obtain ⟨o,_,_,_,e,ex,_⟩:=I.hok p _ hk
   refine ⟨⟨o,e,ex.1⟩,fun a e2=>?_⟩
   cases e2
   exact ⟨o,e,ex.2.1⟩
 | _=>exact False.elim ty
def jhA (K:PySem.W.Frag) (T:String) (r:V→List V→Hp→VK→Prop) (to:TE):TE:=fun σ H Q=>to σ H fun x H1=>tyV K T x H1∧r x [] H1 Q
def tBM (K:PySem.W.Frag) (T:String) (r:V→List V→Hp→VK→Prop) (to:TE) (t:TA):TE:=fun σ H Q=>to σ H fun x H1=>tyV K T x H1∧t σ H1 fun xs H2=>r x xs H2 Q
variable {o e:Expr} {es:List Expr} {to:TE} {t:TA} {name:Str} {apos cpos:Pos} {T id:String} {r:V→List V→Hp→VK→Prop}
theorem jgO (pa:PlainAttrs T) (slot:Slot T name id) (hty:typeOf (.builtin id)=pure (.type "method_descriptor")) (hm:MtR X id r) (ho:PE X o to)
  (hbase:attributeBase o name X.env (eval o X.env)=eval o X.env:=by rfl) (hline:(apos.endLine == cpos.line)=true:=by rfl):PE X (.Call (.Attribute o name apos) [] [] cpos) (jhA X.K T r to):=by
 intro pins s σ H Q I h
 refine wpAny_Call_method0_late hbase hline (thn (ho pins s σ H _ I h) fun v s1 ⟨x,H1,I1,r1,ty,q1⟩=>?_)
 obtain ⟨h1,h2⟩:=jcX I1 r1 ty
 exact ⟨T,id,pa,slot,hty,h1,h2,Calls.callWith_builtin rfl (PySem.evalArgs_none (hm pins s1 σ H1 x [] v [] Q I1 r1 .nil q1))⟩
theorem jhP (pa:PlainAttrs T) (slot:Slot T name id) (hty:typeOf (.builtin id)=pure (.type "method_descriptor")) (hm:MtR X id r) (ho:PE X o to) (ha:PA X (e :: es) t)
  (hbase:attributeBase o name X.env (eval o X.env)=eval o X.env:=by rfl)
  (hfew:((backTo cpos (starEach (e :: es) X.env)).all (fun x=>!x.1) && (backToKw cpos (keywordEach [] X.env)).all (fun x=>x.1.isSome)
   && decide ((e :: es).length+([]:List Keyword).length+(if ([]:List Keyword).isEmpty then 0 else 1) < 30))=true:=by rfl)
  (hline:(apos.endLine == cpos.line)=true:=by rfl) (hs:starEach (e :: es) X.env=(false,eval e X.env) :: starEach es X.env:=by rfl) (hplain:(backTo cpos (starEach es X.env)).any (·.1)=false:=by rfl) :
  PE X (.Call (.Attribute o name apos) (e :: es) [] cpos) (tBM X.K T r to t):=by
 intro pins s σ H Q I h
 refine wpAny_Call_method_late hbase hfew hline rfl (thn (ho pins s σ H _ I h) fun v s1 ⟨x,H1,I1,r1,ty,q1⟩=>?_)
 obtain ⟨h1,h2⟩:=jcX I1 r1 ty
 refine ⟨T,id,pa,slot,hty,h1,h2,?_⟩
 have hA:=ha cpos pins s1 σ H1 _ I1 q1
 rw [hs] at hA ⊢
 refine Calls.callWith_builtin (by show (false || (backTo cpos (starEach es X.env)).any (·.1))=false;rw [hplain] <;> rfl) (Calls.evalArgs_plain ?_)
 exact thn hA fun us s2 ⟨vs,H2,I2,r2,q2⟩=>hm pins s2 σ H2 x vs v us Q I2 r1 r2 q2
end
def MtM (X:Cx) (id:String) (r:V→List V→Hp→VK→Prop):Prop:=
 ∀ (pins:List (Addr×Obj)) (s:Shared) (σ:St) (H:Hp) (x:V) (xs:List V) (v:Value) (us:List Value) (Q:VK),Inv X pins σ H s→RelV x v→Vals xs us→r x xs H Q→
  wpAny (model X.prog X.w) X.A (call (.builtin id) (v :: us)) (EP X pins σ Q) X.xe s
theorem Vals.one:∀ {x:V} {us:List Value},Vals [x] us→∃ u,us=[u]∧RelV x u
 | _,_,.cons r .nil=>⟨_,rfl,r⟩
theorem Vals.two:∀ {x y:V} {us:List Value},Vals [x,y] us→∃ u v,us=[u,v]∧RelV x u∧RelV y v
 | _,_,_,.cons r (.cons q .nil)=>⟨_,_,rfl,r,q⟩
theorem Vals.zero:∀ {us:List Value},Vals [] us→us=[]
 | _,.nil=>rfl
theorem Vals.dropLast {xs:List V} {us:List Value} (h:Vals xs us):Vals xs.dropLast us.dropLast:=by
 induction h with
 | nil=>exact .nil
 | cons r t ih=>
  cases t with
  | nil=>exact .nil
  | cons q t'=>exact .cons r ih
theorem Vals.eraseIdx:∀ {xs:List V} {us:List Value} (i:Nat),Vals xs us→Vals (xs.eraseIdx i) (us.eraseIdx i)
 | _,_,_,.nil=>.nil
 | _,_,0,.cons _ t=>t
 | _,_,i+1,.cons r t=>.cons r (Vals.eraseIdx i t)
theorem Vals.reverse {xs:List V} {us:List Value} (h:Vals xs us):Vals xs.reverse us.reverse:=by
 induction h with
 | nil=>exact .nil
 | cons r t ih=>rw [List.reverse_cons,List.reverse_cons];exact Vals.append ih (.cons r .nil)
theorem jaO {α:Type} (l:List α):l.eraseIdx (l.length - 1)=l.dropLast:=by
 induction l with
 | nil=>rfl
 | cons a r ih=>
  cases r with
  | nil=>rfl
  | cons b r=>
   have e:(a :: b :: r).length - 1=((b :: r).length - 1)+1:=by
    have h1:(a :: b :: r).length=r.length+2:=rfl
    have h2:(b :: r).length=r.length+1:=rfl
    omega
   rw [e,List.eraseIdx_cons_succ,ih]
   all_goals rfl
section
variable {X:Cx} {pins:List (Addr×Obj)} {σ:St} {H:Hp} {s:Shared} {l b:Addr} {xs ys zs:List V}
theorem Inv.lset {its its':List Value} {n:Nat} {f:Array Value→Array Value} {t':Nat} (I:Inv X pins σ H s) (hH:H l=some (.lst xs))
  (e:s.heap.get? l=some { cls:=.type "list",data:=.seq its.toArray n }) (hf:f its.toArray=its'.toArray) (hv:Vals ys its') (hz:ys.length≤sizeLine) :
  Inv X pins σ (upd H l (.lst ys)) { s with heap:=s.heap.update l (Obj.mapSeq f),toks:=t' }:=by
 have q:=PySem.IsL.update e f
 rw [hf] at q
 refine I.write (x:=l) (e:=l) (by rw [hH];exact trivial) (.inl rfl) (fun b' u hb hu=>(Heap.get?_update_other s.heap (Obj.mapSeq f) (Ne.symm hb)).trans hu) ⟨_,q⟩ ?_
 exact ⟨hz,its',_,hv,q⟩
theorem Inv.lnew {its:List Value} {t':Nat} (I:Inv X pins σ H s) (hv:Vals ys its) (hz:ys.length≤sizeLine) :
  Inv X pins σ (upd H s.heap.objs.size (.lst ys)) { s with heap:=s.heap.push { cls:=.type "list",data:=.seq its.toArray },toks:=t' }:=
 I.laid (fun _ _ q=>Heap.get?_push_of_some _ q) (Nat.le_refl _) ⟨hz,its,0,hv,Heap.get?_push_size _ rfl⟩
theorem Inv.fresh (I:Inv X pins σ H s):H s.heap.objs.size=none:=I.hok.fresh (Nat.le_refl _)
theorem Inv.lstM (I:Inv X pins σ H s) (hH:H l=some (.lst xs)):xs.length≤sizeLine∧∃ (its:List Value) (n:Nat),Vals xs its∧xs.length=its.length∧s.heap.get? l=some { cls:=.type "list",data:=.seq its.toArray n }:=by
 obtain ⟨z,its,n,r,e⟩:=I.hok l _ hH
 exact ⟨z,its,n,r,r.length,e⟩
theorem jd6 {n:Nat} (h:n≤sizeLine):Builtin.List.listTooLong n=false:=by
 unfold Builtin.List.listTooLong
 exact decide_eq_false (by omega)
end
section
variable {X:Cx}
def jbs:V→List V→Hp→VK→Prop:=fun x vs H Q=>∃ l xs y,x=.ref l∧vs=[y]∧H l=some (.lst xs)∧xs.length < sizeLine∧Q .non (upd H l (.lst (xs++[y])))
theorem j0:MtM X "list.append" jbs:=by
 intro pins s σ H x vs v us Q I rx rv h
 obtain ⟨l,xs,y,rfl,rfl,hH,hz,q⟩:=h
 cases rx
 obtain ⟨u,rfl,ru⟩:=rv.one
 obtain ⟨z,its,n,r,hl,e⟩:=I.lstM hH
 refine call_meets F.slot_list_append ⟨_,e,rfl⟩ F.entry_list_append (F.args_list_append_2 _ _) (PySem.list_append l its.toArray n u (by rw [List.size_toArray];omega)) ⟨e,?_⟩
 refine ⟨.non,_,I.lset (its':=its++[u]) hH e (by simp) (r.append (.cons ru .nil)) ?_,rfl,q⟩
 rw [List.length_append,List.length_singleton]
 omega
def jeX:V→List V→Hp→VK→Prop:=fun x vs H Q=>∃ l b xs zs,x=.ref l∧vs=[.ref b]∧H l=some (.lst xs)∧H b=some (.lst zs)∧xs.length+zs.length≤sizeLine∧Q .non (upd H l (.lst (xs++zs)))
theorem yi:MtM X "list.extend" jeX:=by
 intro pins s σ H x vs v us Q I rx rv h
 obtain ⟨l,b,xs,zs,rfl,rfl,hH,hB,hz,q⟩:=h
 cases rx
 obtain ⟨u,rfl,ru⟩:=rv.one
 cases ru
 obtain ⟨z,its,n,r,hl,e⟩:=I.lstM hH
 obtain ⟨z2,its2,n2,r2,hl2,e2⟩:=I.lstM hB
 have hsz:its.toArray.size+its2.toArray.size≤sizeLine:=by rw [List.size_toArray,List.size_toArray];omega
 have hlong:¬ (!its.toArray.isEmpty && Builtin.List.listTooLong (its.toArray.size+its2.toArray.size))=true:=by
  rw [jd6 hsz,Bool.and_false]
  exact Bool.false_ne_true
 refine call_meets F.slot_list_extend ⟨_,e,rfl⟩ F.entry_list_extend (F.args_list_extend_2 _ _)
  (AutoSeq1.list_extend_list_list_0 l its.toArray n b its2.toArray n2 hlong (by rw [List.size_toArray];omega) (by omega)) ⟨e,e2,?_⟩
 refine ⟨.non,_,I.lset (its':=its++its2) hH e (by simp) (r.append r2) ?_,rfl,q⟩
 rw [List.length_append]
 omega
def jim:V→List V→Hp→VK→Prop:=fun x vs H Q=>∃ l xs y,x=.ref l∧vs=[]∧H l=some (.lst xs)∧xs[xs.length - 1]?=some y∧Q y (upd H l (.lst xs.dropLast))
theorem jiq:MtM X "list.pop" jim:=by
 intro pins s σ H x vs v us Q I rx rv h
 obtain ⟨l,xs,y,rfl,rfl,hH,hy,q⟩:=h
 cases rx
 have hus:=rv.zero
 subst hus
 obtain ⟨z,its,n,r,hl,e⟩:=I.lstM hH
 obtain ⟨u,hu,ru⟩:=r.get hy
 have hy':its.toArray[its.toArray.size - 1]?=some u:=by
  show its.toArray[its.length - 1]?=some u
  rw [← Array.getElem?_toList,← hl]
  exact hu
 refine call_meets F.slot_list_pop ⟨_,e,rfl⟩ F.entry_list_pop (F.args_list_pop_1 _) (MeetsSeq.list_pop_last l its.toArray n u hy' (by rw [List.size_toArray];omega)) ⟨e,?_⟩
 refine ⟨y,_,I.lset (its':=its.dropLast) hH e ?_ r.dropLast ?_,ru,q⟩
 ·show its.toArray.eraseIdxIfInBounds (its.toArray.size - 1)=its.dropLast.toArray
  rw [List.size_toArray,List.eraseIdxIfInBounds_toArray,jaO]
 ·rw [List.length_dropLast]
  omega
def jgy:V→List V→Hp→VK→Prop:=fun x vs H Q=>∃ l xs,x=.ref l∧vs=[]∧H l=some (.lst xs)∧Q .non (upd H l (.lst []))
theorem jd8:MtM X "list.clear" jgy:=by
 intro pins s σ H x vs v us Q I rx rv h
 obtain ⟨l,xs,rfl,rfl,hH,q⟩:=h
 cases rx
 have hus:=rv.zero
 subst hus
 obtain ⟨z,its,n,r,hl,e⟩:=I.lstM hH
 refine call_meets F.slot_list_clear ⟨_,e,rfl⟩ F.entry_list_clear (F.args_list_clear_1 _) (AutoSeq1.list_clear_list_0 l its.toArray n (by rw [List.size_toArray];omega)) ⟨e,?_⟩
 exact ⟨.non,_,I.lset (its':=[]) (ys:=[]) hH e rfl .nil (Nat.zero_le _),rfl,q⟩
def jio:R2:=fun x y H Q=>∃ l b xs zs,x=.ref l∧y=.ref b∧H l=some (.lst xs)∧H b=some (.lst zs)∧xs.length+zs.length≤sizeLine∧∀ p,H p=none→Q (.ref p) (upd H p (.lst (xs++zs)))
theorem jdQ:OpR X (binaryOp .Add) jio:=by
 intro pins s σ H x y v u Q I rx ry h
 obtain ⟨l,b,xs,zs,rfl,rfl,hH,hB,hz,q⟩:=h
 cases rx
 cases ry
 obtain ⟨z,its,n,r,hl,e⟩:=I.lstM hH
 obtain ⟨z2,its2,n2,r2,hl2,e2⟩:=I.lstM hB
 refine PySem.P.add_list e e2 ?_ (by rw [List.size_toArray,List.size_toArray];omega)
 have ea:its.toArray++its2.toArray=(its++its2).toArray:=by simp
 rw [ea]
 exact ⟨.ref _,_,I.lnew (t':=s.toks) (r.append r2) (by rw [List.length_append];omega),rfl,q _ I.fresh⟩
end
section
variable {κ:Type} [DecidableEq κ]
def k0 (kvs:List (κ×V)) (k:κ):Option V:=(kvs.find? fun kv=>decide (kv.1=k)).map (·.2)
def kc (kvs:List (κ×V)) (k:κ) (v:V):List (κ×V):=
 if (kvs.any fun kv=>decide (kv.1=k))=true then kvs.map (fun kv=>if kv.1=k then (kv.1,v) else kv) else kvs++[(k,v)]
def YD (kvs:List (κ×V)) (k:κ):List (κ×V):=kvs.filter fun kv=>decide (kv.1≠k)
theorem kE {p:κ×V} {r:List (κ×V)} {k:κ} (e:p.1=k):k0 (p :: r) k=some p.2:=by simp [k0,List.find?_cons,e]
theorem kF {p:κ×V} {r:List (κ×V)} {k:κ} (e:¬ p.1=k):k0 (p :: r) k=k0 r k:=by simp [k0,List.find?_cons,e]
theorem yM (k:κ):∀ kvs:List (κ×V),(kvs.any fun kv=>decide (kv.1=k))=(k0 kvs k).isSome
 | []=>rfl
 | p :: r=>by
  rw [List.any_cons]
  by_cases e:p.1=k
  ·simp only [kE e,decide_eq_true e,Bool.true_or,Option.isSome_some]
  ·rw [kF e,decide_eq_false e,Bool.false_or];exact yM k r
theorem Zy (k j:κ) (y:V):∀ kvs:List (κ×V),k0 (kvs.map fun kv=>if kv.1=k then (kv.1,y) else kv) j=(k0 kvs j).map fun x=>if j=k then y else x
 | []=>rfl
 | p :: r=>by
  have ih:=Zy k j y r
  rw [List.map_cons]
  by_cases h:p.1=k
  ·rw [if_pos h]
   by_cases e:p.1=j
   ·rw [kE (p:=(p.1,y)) e,kE e,Option.map_some,if_pos (e.symm.trans h)]
   ·rw [kF (p:=(p.1,y)) e,kF e,ih]
  ·rw [if_neg h]
   by_cases e:p.1=j
   ·rw [kE (p:=p) e,kE e,Option.map_some,if_neg (fun z=>h (e.trans z))]
   ·rw [kF (p:=p) e,kF e,ih]
theorem Yf (k j:κ) (y:V):∀ kvs:List (κ×V),k0 kvs k=none→k0 (kvs++[(k,y)]) j=if j=k then some y else k0 kvs j
 | [],_=>by
  by_cases e:k=j
  ·rw [if_pos e.symm];exact kE (p:=(k,y)) e
  ·rw [if_neg (fun z=>e z.symm)];exact kF (p:=(k,y)) e
 | p :: r,hn=>by
  rw [List.cons_append]
  have hk:¬ p.1=k:=fun z=>by rw [kE z] at hn;cases hn
  rw [kF hk] at hn
  have ih:=Yf k j y r hn
  by_cases e:p.1=j
  ·rw [kE e,kE e,if_neg (fun z=>hk (e.trans z))]
  ·rw [kF e,kF e,ih]
theorem jcT (kvs:List (κ×V)) (k j:κ) (y:V):k0 (kc kvs k y) j=if j=k then some y else k0 kvs j:=by
 unfold kc
 by_cases a:(kvs.any fun kv=>decide (kv.1=k))=true
 ·rw [if_pos a,Zy]
  rw [yM] at a
  by_cases e:j=k
  ·obtain ⟨x,hx⟩:=Option.isSome_iff_exists.mp a
   rw [if_pos e,e,hx,Option.map_some,if_pos rfl]
  ·rw [if_neg e]
   cases k0 kvs j with
   | none=>rfl
   | some x=>rw [Option.map_some,if_neg e]
 ·rw [if_neg a]
  refine Yf k j y kvs ?_
  rw [yM] at a
  cases q:k0 kvs k with
  | none=>rfl
  | some x=>rw [q] at a;exact (a rfl).elim
theorem ky (kvs:List (κ×V)) (k:κ) (v:V):(kc kvs k v).length≤kvs.length+1:=by
 unfold kc
 split
 ·rw [List.length_map];omega
 ·rw [List.length_append,List.length_cons,List.length_nil];omega
theorem RelO.isSome_eq {o:Option V} {u:Option Value} (r:RelO o u):o.isSome=u.isSome:=by
 cases o with
 | none=>cases u with
  | none=>rfl
  | some _=>exact (show False from r).elim
 | some _=>cases u with
  | none=>exact (show False from r).elim
  | some _=>rfl
theorem RelO.getD {o:Option V} {u:Option Value} {d:V} {d':Value} (r:RelO o u) (rd:RelV d d'):RelV (o.getD d) (u.getD d'):=by
 cases o with
 | none=>cases u with
  | none=>exact rd
  | some _=>exact (show False from r).elim
 | some _=>cases u with
  | none=>exact (show False from r).elim
  | some _=>exact r
theorem KV.val {kvs:List (κ×V)} {vs:List (κ×Value)} (r:KV kvs vs) (k:κ):RelO (k0 kvs k) (valueAt vs k):=by
 unfold KV at r
 induction r with
 | nil=>exact True.intro
 | @cons p q ps qs h t ih=>
  obtain ⟨h1,h2⟩:=h
  by_cases e:p.1=k
  ·have e':q.1=k:=h1.symm.trans e
   have b:valueAt (q :: qs) k=some q.2:=by simp [valueAt,List.find?_cons,e']
   rw [kE e,b];exact h2
  ·have e':¬ q.1=k:=fun z=>e (h1.trans z)
   have b:valueAt (q :: qs) k=valueAt qs k:=by simp [valueAt,List.find?_cons,e']
   rw [kF e,b];exact ih
theorem KV.any {kvs:List (κ×V)} {vs:List (κ×Value)} (r:KV kvs vs) (k:κ):(kvs.any fun kv=>decide (kv.1=k))=vs.any fun kv=>decide (kv.1=k):=by
 unfold KV at r
 induction r with
 | nil=>rfl
 | cons h t ih=>rw [List.any_cons,List.any_cons,ih,h.1]
theorem KV.repl {kvs:List (κ×V)} {vs:List (κ×Value)} (r:KV kvs vs) (k:κ) {y:V} {u:Value} (ry:RelV y u) :
  KV (kvs.map fun kv=>if kv.1=k then (kv.1,y) else kv) (vs.map fun kv=>if kv.1=k then (kv.1,u) else kv):=by
 unfold KV at r ⊢
 induction r with
 | nil=>exact .nil
 | @cons p q ps qs h t ih=>
  rw [List.map_cons,List.map_cons]
  refine .cons ?_ ih
  obtain ⟨h1,h2⟩:=h
  by_cases e:p.1=k
  ·rw [if_pos e,if_pos (h1.symm.trans e)];exact ⟨h1,ry⟩
  ·rw [if_neg e,if_neg (fun z=>e (h1.trans z))];exact ⟨h1,h2⟩
theorem KV.put {kvs:List (κ×V)} {vs:List (κ×Value)} (r:KV kvs vs) (k:κ) {y:V} {u:Value} (ry:RelV y u):KV (kc kvs k y) (stored vs k u):=by
 unfold kc stored
 rw [r.any k]
 by_cases e:(vs.any fun kv=>decide (kv.1=k))=true
 ·rw [if_pos e,if_pos e];exact r.repl k ry
 ·rw [if_neg e,if_neg e];exact Paired.snoc r ⟨rfl,ry⟩
theorem KV.drop {kvs:List (κ×V)} {vs:List (κ×Value)} (r:KV kvs vs) (k:κ):KV (YD kvs k) (without vs k):=by
 unfold KV at r ⊢
 unfold YD without
 induction r with
 | nil=>exact .nil
 | @cons p q ps qs h t ih=>
  obtain ⟨h1,h2⟩:=h
  rw [List.filter_cons,List.filter_cons]
  by_cases e:p.1=k
  ·have a:¬ decide (p.1≠k)=true:=by simp [e]
   have b:¬ decide (q.1≠k)=true:=by simp [h1.symm.trans e]
   rw [if_neg a,if_neg b];exact ih
  ·have e':¬ q.1=k:=fun z=>e (h1.trans z)
   have a:decide (p.1≠k)=true:=by simp [e]
   have b:decide (q.1≠k)=true:=by simp [e']
   rw [if_pos a,if_pos b];exact .cons ⟨h1,h2⟩ ih
theorem KV.keys {kvs:List (κ×V)} {vs:List (κ×Value)} (r:KV kvs vs):kvs.map (·.1)=vs.map (·.1):=by
 unfold KV at r
 induction r with
 | nil=>rfl
 | cons h t ih=>rw [List.map_cons,List.map_cons,ih,h.1]
theorem KV.length {kvs:List (κ×V)} {vs:List (κ×Value)} (r:KV kvs vs):kvs.length=vs.length:=Paired.length r
theorem Z7 (kvs:List (κ×V)) (k:κ):(YD kvs k).length≤kvs.length:=List.length_filter_le _ _
end
theorem Je {P:Program} {w:World} {k:Key} {u:Value} (r:RelV (kV k) u):(j3 P w).is k u=true:=by
 cases k with
 | inl i=>obtain ⟨t,e⟩:=(show ∃ t,u=Value.int i t from r);subst e;exact ZW P w i t
 | inr x=>obtain ⟨t,e⟩:=(show ∃ t,u=Value.str x t from r);subst e;exact ZV P w x t
theorem Yy {P:Program} {w:World}:∀ {ks:List Key} {us:List Value},Vals (ks.map kV) us→ItemsAre (j3 P w) ks us
 | [],_,r=>by rw [List.map_nil] at r;cases r;exact .nil
 | k :: ks,_,r=>by
  rw [List.map_cons] at r
  cases r with
  | cons h t=>exact .cons (Je h) (Yy t)
abbrev KT (H:Hp):List (List Key×V)→List (List Key×Addr×Value)→Prop:=Paired fun p q=>p.1=q.1∧H q.2.1=some (.tup (p.1.map kV))∧RelV p.2 q.2.2
theorem KT.val {H:Hp} {kvs:List (List Key×V)} {xs:List (List Key×Addr×Value)} (r:KT H kvs xs) (k:List Key):RelO (k0 kvs k) ((atKey xs k).map (·.2)):=by
 induction r with
 | nil=>exact True.intro
 | @cons p q ps qs h t ih=>
  obtain ⟨h1,_,h2⟩:=h
  by_cases e:p.1=k
  ·have e':q.1=k:=h1.symm.trans e
   have b:atKey (q :: qs) k=some q.2:=by simp [atKey,List.find?_cons,e']
   rw [kE e,b];exact h2
  ·have e':¬ q.1=k:=fun z=>e (h1.trans z)
   have b:atKey (q :: qs) k=atKey qs k:=by simp [atKey,List.find?_cons,e']
   rw [kF e,b];exact ih
theorem KT.repl {H:Hp} {kvs:List (List Key×V)} {xs:List (List Key×Addr×Value)} (r:KT H kvs xs) (k:List Key) {y:V} {u:Value} (ry:RelV y u) :
  KT H (kvs.map fun kv=>if kv.1=k then (kv.1,y) else kv) (xs.map (putAt k u)):=by
 induction r with
 | nil=>exact .nil
 | @cons p q ps qs h t ih=>
  rw [List.map_cons,List.map_cons]
  refine .cons ?_ ih
  obtain ⟨h1,h2,h3⟩:=h
  unfold putAt
  by_cases e:p.1=k
  ·rw [if_pos e,if_pos (h1.symm.trans e)];exact ⟨h1,h2,ry⟩
  ·rw [if_neg e,if_neg (fun z=>e (h1.trans z))];exact ⟨h1,h2,h3⟩
theorem KT.put {H:Hp} {kvs:List (List Key×V)} {xs:List (List Key×Addr×Value)} (r:KT H kvs xs) (k:List Key) {b:Addr} {y:V} {u:Value} (hb:H b=some (.tup (k.map kV))) (ry:RelV y u) :
  KT H (kc kvs k y) (storedH xs k b u):=by
 have e:(kvs.any fun kv=>decide (kv.1=k))=(atKey xs k).isSome:=by
  rw [yM,(r.val k).isSome_eq,Option.isSome_map]
 unfold kc storedH
 rw [e]
 by_cases q:(atKey xs k).isSome=true
 ·rw [if_pos q,if_pos q];exact r.repl k ry
 ·rw [if_neg q,if_neg q];exact Paired.snoc r ⟨rfl,hb,ry⟩
theorem KT.keeps {H H':Hp} {kvs:List (List Key×V)} {xs:List (List Key×Addr×Value)} (r:KT H kvs xs) (ht:∀ b ys,H b=some (.tup ys)→H' b=some (.tup ys)):KT H' kvs xs:=
 Paired.mapP r fun _ _ z=>⟨z.1,ht _ _ z.2.1,z.2.2⟩
section
variable {P:Program} {w:World} {H:Hp} {h:Heap} {a:Addr}
theorem jgg {u:HO} (ok:HOk P w H h) (e:Rd H a u):ObjOk P w H h a u:=e.ok ok
theorem YE {kvs:List (Key×V)} (ok:HOk P w H h) (e:Rd H a (.dK kvs)):kvs.length≤sizeLine∧(a == sysModules)=false∧∃ vs,KV kvs vs∧h.DictOf (j3 P w) a vs:=
 show ObjOk P w H h a (.dK kvs) from jgg ok e
theorem jaa {kvs:List (Key×V)} (ok:HOk P w H h) (e:H a=some (.dK kvs)):kvs.length≤sizeLine∧(a == sysModules)=false∧∃ vs,KV kvs vs∧h.DictOf (j3 P w) a vs:=YE ok (.inl e)
theorem KI {ks:List Key} (ok:HOk P w H h) (e:H a=some (.tup (ks.map kV))):(tupleKind (j3 P w)).is h ks a:=by
 obtain ⟨_,its,r,o,h1,h2,n,h3⟩:=(show ObjOk P w H h a (.tup (ks.map kV)) from ok a _ e)
 exact ⟨o,its.toArray,n,h1,h2,h3,by simpa using Yy r⟩
theorem YC {kvs:List (List Key×V)} (ok:HOk P w H h) (e:Rd H a (.dT kvs)):kvs.length≤sizeLine∧(a == sysModules)=false∧
  ∃ xs,KT H kvs xs∧h.DictOfH (tupleKind (j3 P w)) a xs:=by
 obtain ⟨z,y,xs,r,o,es,ep,h1,h2,h3,h4,h5⟩:=(show ObjOk P w H h a (.dT kvs) from jgg ok e)
 refine ⟨z,y,xs,r,o,es,ep,h1,h2,h3,h4,fun x hx=>?_,h5⟩
 have all:∀ {l:List (List Key×V)} {m:List (List Key×Addr×Value)},KT H l m→∀ x∈m,(tupleKind (j3 P w)).is h x.1 x.2.1:=by
  intro l m q
  induction q with
  | nil=>intro x hx;exact nomatch hx
  | @cons p q ps qs hq t ih=>
   intro x hx
   rcases List.mem_cons.mp hx with e | hx
   ·subst e
    exact KI ok (by rw [← hq.1];exact hq.2.1)
   ·exact ih x hx
 exact all r x hx
theorem jib {kvs:List (List Key×V)} (ok:HOk P w H h) (e:H a=some (.dT kvs)):kvs.length≤sizeLine∧(a == sysModules)=false∧
  ∃ xs,KT H kvs xs∧h.DictOfH (tupleKind (j3 P w)) a xs:=YC ok (.inl e)
end
def DGet (H:Hp) (a:Addr) (y:V) (r:Option V):Prop:=
 (∃ kvs k,Rd H a (.dK kvs)∧y=kV k∧r=k0 kvs k)∨∃ kvs k b,Rd H a (.dT kvs)∧y=.ref b∧H b=some (.tup (k.map kV))∧r=k0 kvs k
def DPut (H:Hp) (a:Addr) (y v:V) (H':Hp):Prop:=
 (∃ kvs k,H a=some (.dK kvs)∧y=kV k∧kvs.length < sizeLine∧H'=upd H a (.dK (kc kvs k v)))∨
 ∃ kvs k b,H a=some (.dT kvs)∧y=.ref b∧H b=some (.tup (k.map kV))∧kvs.length < sizeLine∧H'=upd H a (.dT (kc kvs k v))
theorem DGet.k {H:Hp} {a:Addr} {kvs:List (Key×V)} {k:Key} (e:H a=some (.dK kvs)):DGet H a (kV k) (k0 kvs k):=.inl ⟨kvs,k,.inl e,rfl,rfl⟩
theorem DPut.k {H:Hp} {a:Addr} {kvs:List (Key×V)} {k:Key} {v:V} (e:H a=some (.dK kvs)) (hl:kvs.length < sizeLine):DPut H a (kV k) v (upd H a (.dK (kc kvs k v))):=.inl ⟨kvs,k,e,rfl,hl,rfl⟩
theorem DPut.t {H:Hp} {a b:Addr} {kvs:List (List Key×V)} {k:List Key} {v:V} (e:H a=some (.dT kvs)) (eb:H b=some (.tup (k.map kV))) (hl:kvs.length < sizeLine) :
  DPut H a (.ref b) v (upd H a (.dT (kc kvs k v))):=.inr ⟨kvs,k,b,e,rfl,eb,hl,rfl⟩
section
variable {X:Cx} {pins:List (Addr×Obj)} {σ:St} {H:Hp} {s:Shared} {a:Addr} {y v:V} {u r:Value} {o:Option V} {A:Around} {E:Value→Shared→Prop}
theorem Inv.big (I:Inv X pins σ H s):sysModules < s.heap.objs.size:=by
 have h:mainGlobals < s.heap.objs.size:=(I.mod.glob.keeps I.bk).lt
 exact Nat.lt_trans (by decide) h
theorem jcB {Q:Value→Shared→Prop} (hu:A.units+1 < cLine) (I:Inv X pins σ H s) (g:DGet H a y (some v)) (ry:RelV y u) (h:∀ w' s',Inv X pins σ H s'→RelV v w'→Q w' s') :
  wpAny (model X.prog X.w) A (getItem (.ref a) u) Q E s:=by
 rcases g with ⟨kvs,k,e,ey,l⟩ | ⟨kvs,k,b,e,ey,eb,l⟩
 ·subst ey
  obtain ⟨z,hd,vs,rel,dd⟩:=YE I.hok e
  obtain ⟨w',hw,rw'⟩:=RelO.some_of (v:=v) (o:=valueAt vs k) (by rw [l];exact rel.val k)
  exact wpAny_getItem_of (Je ry) dd.mapOf hw (h w' _ (I.tok _) rw')
 ·subst ey
  cases (show u=Value.ref b from ry)
  obtain ⟨z,hd,xs,rel,dd⟩:=YC I.hok e
  obtain ⟨w',hw,rw'⟩:=RelO.some_of (v:=v) (o:=(atKey xs k).map (·.2)) (by rw [l];exact rel.val k)
  obtain ⟨p,hp,hp2⟩:=Option.map_eq_some_iff.mp hw
  refine wpAny_getItem_heap (tupleKind_room_in1 hu) (KI I.hok eb) dd hp ?_
  rw [hp2]
  exact h w' _ (I.tok _) rw'
theorem jfT {Q:Value→Shared→Prop} (hu:A.units+1 < cLine) (I:Inv X pins σ H s) (g:DGet H a y o) (ry:RelV y u) (h:∀ s',Inv X pins σ H s'→Q (.bool (!o.isSome)) s') :
  wpAny (model X.prog X.w) A (compareOp .NotIn u (.ref a)) Q E s:=by
 rcases g with ⟨kvs,k,e,ey,l⟩ | ⟨kvs,k,b,e,ey,eb,l⟩
 ·subst ey
  obtain ⟨z,hd,vs,rel,dd⟩:=YE I.hok e
  refine wpAny_notIn_of (Je ry) hd dd.mapOf ?_
  rw [← (rel.val k).isSome_eq,← l]
  exact h _ (I.tok _)
 ·subst ey
  cases (show u=Value.ref b from ry)
  obtain ⟨z,hd,xs,rel,dd⟩:=YC I.hok e
  refine wpAny_notIn_heap (tupleKind_room_in1 hu) (KI I.hok eb) hd dd ?_
  have q:=(rel.val k).isSome_eq
  rw [Option.isSome_map] at q
  rw [← q,← l]
  exact h _ (I.tok _)
theorem Jk {h':Heap} {t':Nat} {ob:HO} (I:Inv X pins σ H s) (mu:Mut (H a)) (hs:Heap.SameBut a s.heap h') (he:∃ q,h'.get? a=some q) (new:ObjOk X.prog X.w (upd H a ob) h' a ob) :
  Inv X pins σ (upd H a ob) { s with heap:=h',toks:=t' }:=
 I.write (x:=a) (e:=a) mu (.inl rfl) (fun b q hb z=>(hs.2 b hb).trans z) he new
theorem Zh {P:Program} {w:World} {H':Hp} {h':Heap} {kvs:List (Key×V)} {vs:List (Key×Value)} (z:kvs.length≤sizeLine) (hd:(a == sysModules)=false) (rel:KV kvs vs) (dd:h'.DictOf (j3 P w) a vs) :
  ObjOk P w H' h' a (.dK kvs):=⟨z,hd,vs,rel,dd⟩
theorem jcA {H':Hp} {Q:Unit→Shared→Prop} (hu:A.units+1 < cLine) (I:Inv X pins σ H s) (g:DPut H a y v H') (ry:RelV y u) (rv:RelV v r) (h:∀ s',Inv X pins σ H' s'→Q () s') :
  wpAny (model X.prog X.w) A (setItem (.ref a) u r) Q E s:=by
 rcases g with ⟨kvs,k,e,ey,l,eH⟩ | ⟨kvs,k,b,e,ey,eb,l,eH⟩
 ·subst ey eH
  obtain ⟨z,hd,vs,rel,dd⟩:=jaa I.hok e
  have hz:vs.length≤sizeLine:=by rw [← rel.length];exact z
  have hl:(kc kvs k v).length≤sizeLine:=by have:=ky kvs k v;omega
  refine wpAny_setItem_pairs (hsz:=hz) (Je ry) dd fun h' dd' hs=>h _ ?_
  have he:∃ q,h'.get? a=some q:=let ⟨q,_,_,hq,_⟩:=dd';⟨q,hq⟩
  exact Jk I (by rw [e];exact True.intro) hs he (Zh hl hd (rel.put k rv) dd')
 ·subst ey eH
  cases (show u=Value.ref b from ry)
  obtain ⟨z,hd,xs,rel,dd⟩:=jib I.hok e
  have hz:xs.length≤sizeLine:=by rw [← Paired.length rel];exact z
  have hl:(kc kvs k v).length≤sizeLine:=by have:=ky kvs k v;omega
  refine wpAny_setItem_heap (hsz:=hz) (tupleKind_room_in1 hu) (KI I.hok eb) dd fun h' dd' hs=>h _ ?_
  obtain ⟨q,es,ep,hq,h2,h3,h4,_,h5⟩:=dd'
  refine Jk I (by rw [e];exact True.intro) hs ⟨q,hq⟩ ⟨hl,hd,_,(rel.put k eb rv).keeps fun c ys ec=>?_,q,es,ep,hq,h2,h3,h4,h5⟩
  rw [jB (jhX ec e (fun z=>nomatch z))]
  exact ec
end
section
variable {X:Cx} {pins:List (Addr×Obj)} {σ:St} {H:Hp} {s:Shared} {a:Addr} {kvs:List (Key×V)} {k:Key} {u:Value} {A:Around} {E:Value→Shared→Prop}
theorem jho {Q:Unit→Shared→Prop} (I:Inv X pins σ H s) (e:H a=some (.dK kvs)) (ry:RelV (kV k) u) (l:(k0 kvs k).isSome=true) (h:∀ s',Inv X pins σ (upd H a (.dK (YD kvs k))) s'→Q () s') :
  wpAny (model X.prog X.w) A (delItem (.ref a) u) Q E s:=by
 obtain ⟨z,hd,vs,rel,dd⟩:=jaa I.hok e
 refine wpAny_delItem_slot dd.typeIs (by decide) PySem.F.slot_dict_delitem
  (call_meetsIn PySem.F.slot_dict_delitem dd.typeIs PySem.F.entry_dict_delitem (PySem.F.args_dict_delitem_2 _ _) (meets_dict_delitem_pairs (j3 X.prog X.w) a (Je ry)) ⟨vs,dd,by rw [← rel.length];exact z,by rw [← (rel.val k).isSome_eq];exact l,fun h' dd' hs=>h _ ?_⟩)
 have he:∃ q,h'.get? a=some q:=let ⟨q,_,_,hq,_⟩:=dd';⟨q,hq⟩
 exact Jk I (by rw [e];exact True.intro) hs he (Zh (Nat.le_trans (Z7 kvs k) z) hd (rel.drop k) dd')
theorem jic {v:V} {more:List Value} {Q:Value→Shared→Prop} (I:Inv X pins σ H s) (e:H a=some (.dK kvs)) (ry:RelV (kV k) u) (l:k0 kvs k=some v) (hm:more=[]∨∃ x,more=[x])
  (h:∀ w' s',Inv X pins σ (upd H a (.dK (YD kvs k))) s'→RelV v w'→Q w' s'):wpAny (model X.prog X.w) A (call (.builtin "dict.pop") (.ref a :: u :: more)) Q E s:=by
 obtain ⟨z,hd,vs,rel,dd⟩:=jaa I.hok e
 obtain ⟨w',hw,rw'⟩:=RelO.some_of (v:=v) (o:=valueAt vs k) (by rw [← l];exact rel.val k)
 have hp:(keyPart u).isSome=true:=by
  cases k with
  | inl i=>obtain ⟨t,q⟩:=(show ∃ t,u=Value.int i t from ry);subst q;rfl
  | inr x=>obtain ⟨t,q⟩:=(show ∃ t,u=Value.str x t from ry);subst q;rfl
 have ha:argsOk "dict.pop" ⟨.ref a :: u :: more,[]⟩:=by
  rcases hm with q | ⟨x,q⟩
  ·subst q;exact PySem.F.args_dict_pop_2 _ _
  ·subst q;exact PySem.F.args_dict_pop_3 _ _ _
 refine call_meetsIn PySem.F.slot_dict_pop dd.typeIs PySem.F.entry_dict_pop ha (meets_dict_pop_there (j3 X.prog X.w) a (Je ry) more hm hp)
  ⟨vs,w',dd,by rw [← rel.length];exact z,hw,fun h' dd' hs=>h w' _ ?_ rw'⟩
 have he:∃ q,h'.get? a=some q:=let ⟨q,_,_,hq,_⟩:=dd';⟨q,hq⟩
 exact Jk I (by rw [e];exact True.intro) hs he (Zh (Nat.le_trans (Z7 kvs k) z) hd (rel.drop k) dd')
theorem jhc {r:Value} {Q:Value→Shared→Prop} (I:Inv X pins σ H s) (e:H a=some (.dK kvs)) (ry:RelV (kV k) u) (l:k0 kvs k=none) (h:∀ s',Inv X pins σ H s'→Q r s') :
  wpAny (model X.prog X.w) A (call (.builtin "dict.pop") [.ref a,u,r]) Q E s:=by
 obtain ⟨z,hd,vs,rel,dd⟩:=jaa I.hok e
 have hn:valueAt vs k=none:=RelO.none_of (by rw [← l];exact rel.val k)
 have hp:(keyPart u).isSome=true:=by
  cases k with
  | inl i=>obtain ⟨t,q⟩:=(show ∃ t,u=Value.int i t from ry);subst q;rfl
  | inr x=>obtain ⟨t,q⟩:=(show ∃ t,u=Value.str x t from ry);subst q;rfl
 exact call_meetsIn PySem.F.slot_dict_pop dd.typeIs PySem.F.entry_dict_pop (PySem.F.args_dict_pop_3 _ _ _) (meets_dict_pop_default (j3 X.prog X.w) a (Je ry) hd hp r) ⟨vs,dd,hn,h _ (I.tok _)⟩
end
def jhl (i:Expr):Prop:=∀ ov iv,subscripted i false ov iv=operate [ov,iv] (getItem ov iv)
theorem jeO {prog:Program} {w:World} {A:Around} {E:Value→Shared→Prop} {s:Shared} {env:Env} {value slice:Expr} {pos:Pos} {T id:String} {Q:Value→Shared→Prop}
  (hl:typeLookup (.type T) "__getitem__" = pure (some (.builtin id))) (hs:jhl slice)
  (h:wpAny (model prog w) A (eval value env) (fun o s₁=>wpAny (model prog w) A (eval slice env) (fun i s₂=>s₂.TypeIs o T∧wpAny (model prog w) A (getItem o i) Q E s₂) E s₁) E s) :
  wpAny (model prog w) A (eval (.Subscript value slice pos) env) Q E s:=by
 refine Subscript_ (wpAny_mono h (fun o s₁ h₁=>wpAny_mono h₁ (fun i s₂ h₂=>?_) fun _ _ x=>x) fun _ _ x=>x)
 obtain ⟨hT,h₂⟩:=h₂
 unfold subscriptTail
 refine wpAny_bind ?_
 rw [getitemInPython_of_ne hT.not_modules]
 refine wpAny_bind (wpAny_specialOf hT hl ?_)
 have fin:wpAny (model prog w) A (subscripted slice false o i) (fun r s₃=>wpAny (model prog w) A (letTemporaryGo value o r >>= fun _=>pure r) Q E s₃) E s₂:=by
  rw [hs o i]
  exact wpAny_operating (wpAny_mono h₂ (fun r s₃ h₃=>wpAny_bind (wpAny_letTemporaryGo (wpAny_pure h₃))) fun _ _ x=>x)
 first
  | exact wpAny_pure (wpAny_bind fin)
  | exact wpAny_bind (wpAny_pure (wpAny_bind fin))
  | exact wpAny_bind fin
theorem jac {X:Cx} {pins:List (Addr×Obj)} {σ:St} {H:Hp} {s:Shared} {a:Addr} {y:V} {o:Option V} (I:Inv X pins σ H s) (g:DGet H a y o):s.TypeIs (.ref a) "dict":=by
 rcases g with ⟨kvs,k,e,_,_⟩ | ⟨kvs,k,b,e,_,_,_⟩
 ·obtain ⟨_,_,vs,_,dd⟩:=YE I.hok e
  exact dd.typeIs
 ·obtain ⟨_,_,xs,_,dd⟩:=YC I.hok e
  exact dd.typeIs
def jgc (td ty:TE):TE:=fun σ H Q=>td σ H fun x H1=>ty σ H1 fun y H2=>∃ a v,x=.ref a∧DGet H2 a y (some v)∧Q v H2
def ja6 (ty td:TE):TE:=fun σ H Q=>ty σ H fun y H1=>td σ H1 fun x H2=>∃ a o,x=.ref a∧DGet H2 a y o∧Q (.bl (!o.isSome)) H2
def jgf (td ty tv:TE):TS:=fun D σ H=>tv σ H fun v H1=>td σ H1 fun x H2=>ty σ H2 fun y H3=>∃ a H4,x=.ref a∧DPut H3 a y v H4∧D.nx σ H4
section
variable {X:Cx} {o i e value:Expr} {pos pos' tpos:Pos} {td ty tv:TE}
theorem jfg (hu:X.A.units+1 < cLine) (ho:PE X o td) (hi:PE X i ty) (hs:jhl i):PE X (.Subscript o i pos) (jgc td ty):=by
 intro pins s σ H Q I h
 refine jeO PySem.F.slot_dict_getitem.lookup hs (thn (ho pins s σ H _ I h) fun u s1 ⟨x,H1,I1,rx,q1⟩=>thn (hi pins s1 σ H1 _ I1 q1) fun iv s2 ⟨y,H2,I2,ry,a,v,ex,g,q2⟩=>?_)
 subst ex
 obtain rfl:u=Value.ref a:=rx
 exact ⟨jac I2 g,jcB hu I2 g ry fun w' s3 I3 rw'=>⟨v,H2,I3,rw',q2⟩⟩
theorem jcc (hu:X.A.units+1 < cLine) (hi:PE X i ty) (ho:PE X o td):PC X .NotIn i o (ja6 ty td):=by
 intro pins s σ H Q I h
 refine thn (hi pins s σ H _ I h) fun iv s1 ⟨y,H1,I1,ry,q1⟩=>thn (ho pins s1 σ H1 _ I1 q1) fun u s2 ⟨x,H2,I2,rx,a,ov,ex,g,q2⟩=>?_
 subst ex
 obtain rfl:u=Value.ref a:=rx
 exact jfT hu I2 g ry fun s3 I3=>⟨.bl (!ov.isSome),H2,I3,rfl,q2⟩
theorem je6 (hu:X.A.units+1 < cLine) (ho:PE X o td) (hi:PE X i ty) (hv:PE X value tv) (hs:swapsWith value (some (.Subscript o i pos')) pos.line X.env=pure false) :
  PS X (.Assign [.Subscript o i pos'] value pos) (jgf td ty tv):=by
 intro pins s σ H D I h
 refine wpAny_Assign_Subscript (thn (hv pins s σ H _ I h) fun r s1 ⟨v,H1,I1,rv,q1⟩=>thn (ho pins s1 σ H1 _ I1 q1) fun u s2 ⟨x,H2,I2,rx,q2⟩=>thn (hi pins s2 σ H2 _ I2 q2) fun iv s3 ⟨y,H3,I3,ry,a,H4,ex,g,q3⟩=>?_) hs
 subst ex
 obtain rfl:u=Value.ref a:=rx
 exact jcA hu I3 g ry rv fun s4 I4=>⟨σ,H4,I4,q3⟩
end
theorem jab {P:Program} {w:World} {H:Hp} (h:Heap) (hb:sysModules < h.objs.size):ObjOk P w H (h.push { cls:=.type "dict",data:=.dict #[] }) h.objs.size (.dK []):=
 ⟨Nat.zero_le _,beq_eq_false_iff_ne.mpr (Ne.symm (Nat.ne_of_lt hb)),[],.nil,Heap.DictOf.new h⟩
theorem jep {P:Program} {w:World} {H:Hp} (h:Heap) (hb:sysModules < h.objs.size):ObjOk P w H (h.push { cls:=.type "dict",data:=.dict #[] }) h.objs.size (.dT []):=
 ⟨Nat.zero_le _,beq_eq_false_iff_ne.mpr (Ne.symm (Nat.ne_of_lt hb)),[],.nil,_,#[],0,Heap.get?_push_size _ rfl,⟨rfl,rfl,rfl⟩,rfl,rfl,List.nodup_nil⟩
def jc9:TE:=fun _ H Q=>∀ p,H p=none→Q (.ref p) (upd H p (.dK []))
def jc8:TE:=fun _ H Q=>∀ p,H p=none→Q (.ref p) (upd H p (.dT []))
section
variable {X:Cx} {pos:Pos}
theorem jdM:PE X (.Dict [] [] pos) jc9:=fun pins s σ H Q I h=>
 wpAny_Dict_empty ⟨.ref s.heap.objs.size,_,I.laid (a:=s.heap.objs.size) (o:=.dK []) (t':=s.toks) (fun _ _ q=>Heap.get?_push_of_some _ q) (Nat.le_refl _) (jab s.heap I.big),rfl,h _ (I.hok.fresh (Nat.le_refl _))⟩
theorem jdL:PE X (.Dict [] [] pos) jc8:=fun pins s σ H Q I h=>
 wpAny_Dict_empty ⟨.ref s.heap.objs.size,_,I.laid (a:=s.heap.objs.size) (o:=.dT []) (t':=s.toks) (fun _ _ q=>Heap.get?_push_of_some _ q) (Nat.le_refl _) (jep s.heap I.big),rfl,h _ (I.hok.fresh (Nat.le_refl _))⟩
end
def jaq:List (TE×TE)→St→Hp→(List (V×V)→Hp→Prop)→Prop
 | [],_,H,Q=>Q [] H
 | (tk,tv) :: r,σ,H,Q=>tk σ H fun x H1=>tv σ H1 fun y H2=>jaq r σ H2 fun ps H3=>Q ((x,y) :: ps) H3
abbrev VV:List (V×V)→List (Value×Value)→Prop:=Paired fun p q=>RelV p.1 q.1∧RelV p.2 q.2
def PPs (X:Cx) (pos:Pos) (keys:List (Option Expr)) (values:List Expr) (trs:List (TE×TE)):Prop:=
 ∀ (pins:List (Addr×Obj)) (s:Shared) (σ:St) (H:Hp) (Q:List (V×V)→Hp→Prop),Inv X pins σ H s→jaq trs σ H Q→
  wpAny (model X.prog X.w) X.A (evalPairs (pairTrees keys values X.env pos)) (fun vs s'=>∃ ps H',Inv X pins σ H' s'∧VV ps vs∧Q ps H') X.xe s
theorem je7 {X:Cx} {pos:Pos}:PPs X pos [] [] []:=fun pins s σ H Q I h=>pairTrees_nil_walk ⟨[],H,I,.nil,h⟩
theorem jdB {X:Cx} {pos:Pos} {k v:Expr} {ks:List (Option Expr)} {vs:List Expr} {tk tv:TE} {trs:List (TE×TE)} (hk:PE X k tk) (hv:PE X v tv) (hr:PPs X pos ks vs trs) :
  PPs X pos (some k :: ks) (v :: vs) ((tk,tv) :: trs):=fun pins s σ H Q I h=>
 pairTrees_cons_walk (thn (hk pins s σ H _ I h) fun u s1 ⟨x,H1,I1,rx,q1⟩=>thn (hv pins s1 σ H1 _ I1 q1) fun w2 s2 ⟨y,H2,I2,ry,q2⟩=>
  thn (hr pins s2 σ H2 _ I2 q2) fun ws s3 ⟨ps,H3,I3,rel,q3⟩=>⟨(x,y) :: ps,H3,I3,.cons ⟨rx,ry⟩ rel,q3⟩)
def JE (kvs more:List (Key×V)):List (Key×V):=more.foldl (fun acc kv=>kc acc kv.1 kv.2) kvs
theorem KV.merge:∀ {more:List (Key×V)} {rs:List (Key×Value)} {kvs:List (Key×V)} {vs:List (Key×Value)},KV more rs→KV kvs vs→KV (JE kvs more) (merged vs rs):=by
 intro more rs kvs vs r
 unfold KV at r
 induction r generalizing kvs vs with
 | nil=>intro q;exact q
 | @cons p q ps qs h t ih=>
  intro r0
  have e:KV (kc kvs p.1 p.2) (stored vs q.1 q.2):=by
   have:=r0.put p.1 h.2
   rw [← h.1];exact this
  exact ih e
theorem yt:∀ (more kvs:List (Key×V)),(JE kvs more).length≤kvs.length+more.length
 | [],kvs=>by show kvs.length≤kvs.length+0;omega
 | p :: r,kvs=>by
  have h1:=yt r (kc kvs p.1 p.2)
  have h2:=ky kvs p.1 p.2
  show (JE (kc kvs p.1 p.2) r).length≤_
  rw [List.length_cons];omega
theorem KU {P:Program} {w:World}:∀ {kvs:List (Key×V)} {ws:List (Value×Value)},VV (kvs.map fun kv=>(kV kv.1,kv.2)) ws→∃ rs,Carries (j3 P w) ws rs∧KV kvs rs
 | [],_,r=>by rw [List.map_nil] at r;cases r;exact ⟨[],True.intro,.nil⟩
 | p :: kvs,_,r=>by
  rw [List.map_cons] at r
  cases r with
  | @cons a b as bs h t=>
   obtain ⟨rs,c,q⟩:=KU (P:=P) (w:=w) t
   obtain ⟨b1,b2⟩:=b
   exact ⟨(p.1,b2) :: rs,⟨Je h.1,rfl,c⟩,.cons ⟨rfl,h.2⟩ q⟩
def jgb (trs:List (TE×TE)):TE:=fun σ H Q=>∀ p,H p=none→jaq trs σ (upd H p (.dK [])) fun ps H2=>H2 p=some (.dK [])∧∃ kvs:List (Key×V),ps=kvs.map (fun kv=>(kV kv.1,kv.2))∧kvs.length≤15∧Q (.ref p) (upd H2 p (.dK (JE [] kvs)))
theorem jff {X:Cx} {pos:Pos} {keys:List (Option Expr)} {values:List Expr} {trs:List (TE×TE)} (h:PPs X pos keys values trs) (hall:keys.all (·.isSome)=true) (hl:keys.length=values.length) (h0:keys≠[])
  (h15:keys.length≤15):PE X (.Dict keys values pos) (jgb trs):=by
 intro pins s σ H Q I q
 have hn:=I.hok.fresh (Nat.le_refl s.heap.objs.size)
 have I1:=I.laid (a:=s.heap.objs.size) (o:=.dK []) (h':=s.heap.push { cls:=.type "dict",data:=.dict #[] }) (t':=s.toks) (fun _ _ q=>Heap.get?_push_of_some _ q) (Nat.le_refl _) (jab s.heap I.big)
 refine wpAny_Dict_walk (knd:=j3 X.prog X.w) hall hl h0 h15 (thn (h pins _ σ _ _ I1 (q _ hn)) fun ws s2 ⟨ps,H2,I2,rel,e,kvs,ep,lk,q2⟩=>?_)
 subst ep
 obtain ⟨rs,c,rk⟩:=KU (P:=X.prog) (w:=X.w) rel
 obtain ⟨z,hd,vs0,r0,dd⟩:=jaa I2.hok e
 cases r0
 refine ⟨rs,c,dd,fun h' dd' hs=>⟨.ref s.heap.objs.size,_,?_,rfl,q2⟩⟩
 have hz:(JE [] kvs).length≤sizeLine:=by
  have h1:=yt kvs []
  rw [List.length_nil] at h1
  rw [sizeLine_eq];omega
 have he:∃ q,h'.get? s.heap.objs.size=some q:=let ⟨q,_,_,hq,_⟩:=dd';⟨q,hq⟩
 exact Jk I2 (by rw [e];exact True.intro) hs he (Zh hz hd (rk.merge .nil) dd')
structure M2 (X:Cx) (o:Expr) (m:Str) (apos:Pos) (e f:Expr) (cpos:Pos):Prop where
 base:attributeBase o m X.env (eval o X.env)=eval o X.env
 few:((backTo cpos (starEach [e,f] X.env)).all (fun x=>!x.1) && (backToKw cpos (keywordEach [] X.env)).all (fun x=>x.1.isSome)
  && decide (([e,f]:List Expr).length+([]:List Keyword).length+(if ([]:List Keyword).isEmpty then 0 else 1) < 30))=true
 line:(apos.endLine == cpos.line)=true
 trees:backTo cpos (starEach [e,f] X.env)=[(false,eval e X.env),(false,eval f X.env)]
def IsD (H:Hp) (a:Addr):Prop:=(∃ kvs,Rd H a (.dK kvs))∨∃ kvs,Rd H a (.dT kvs)
theorem jeg {X:Cx} {pins:List (Addr×Obj)} {σ:St} {H:Hp} {s:Shared} {a:Addr} (I:Inv X pins σ H s) (d:IsD H a) :
  s.TypeIs (.ref a) "dict"∧(∀ b,Value.ref a=.ref b→∃ ob,s.heap.get? b=some ob∧ob.dict=none)∧(a == sysModules)=false:=by
 rcases d with ⟨kvs,e⟩ | ⟨kvs,e⟩
 ·obtain ⟨_,hd,vs,_,dd⟩:=YE I.hok e
  refine ⟨dd.typeIs,fun b q=>?_,hd⟩
  cases q
  obtain ⟨ob,_,_,h1,h2,_⟩:=dd
  exact ⟨ob,h1,h2.2.1⟩
 ·obtain ⟨_,hd,xs,_,dd⟩:=YC I.hok e
  refine ⟨dd.typeIs,fun b q=>?_,hd⟩
  cases q
  obtain ⟨ob,_,_,h1,h2,_⟩:=dd
  exact ⟨ob,h1,h2.2.1⟩
section
variable {X:Cx} {pins:List (Addr×Obj)} {σ:St} {H:Hp} {s:Shared} {a:Addr} {y d:V} {u r:Value} {o:Option V} {A:Around} {E:Value→Shared→Prop}
theorem jhd {Q:Value→Shared→Prop} (hu:A.units+1 < cLine) (I:Inv X pins σ H s) (g:DGet H a y o) (ry:RelV y u) (rd:RelV d r) (h:∀ w' s',Inv X pins σ H s'→RelV (o.getD d) w'→Q w' s') :
  wpAny (model X.prog X.w) A (call (.builtin "dict.get") [.ref a,u,r]) Q E s:=by
 rcases g with ⟨kvs,k,e,ey,l⟩ | ⟨kvs,k,b,e,ey,eb,l⟩
 ·subst ey
  obtain ⟨z,hd,vs,rel,dd⟩:=YE I.hok e
  refine call_meetsIn PySem.F.slot_dict_get dd.typeIs PySem.F.entry_dict_get (PySem.F.args_dict_get_3 _ _ _) (meets_dict_get_default (j3 X.prog X.w) a (Je ry) hd r) ⟨_,dd.mapOf,h _ _ (I.tok _) ?_⟩
  rw [l]
  exact (rel.val k).getD rd
 ·subst ey
  cases (show u=Value.ref b from ry)
  obtain ⟨z,hd,xs,rel,dd⟩:=YC I.hok e
  refine call_meetsIn PySem.F.slot_dict_get dd.typeIs PySem.F.entry_dict_get (PySem.F.args_dict_get_3 _ _ _) (meetsH_dict_get_default (tupleKind (j3 X.prog X.w)) a b hd r) ⟨tupleKind_room_in1 hu,k,xs,KI I.hok eb,dd,h _ _ (I.tok _) ?_⟩
  rw [l]
  exact (rel.val k).getD rd
end
def jda (td ty tx:TE):TE:=fun σ H Q=>td σ H fun x H1=>∃ a,x=.ref a∧IsD H1 a∧ty σ H1 fun y H2=>tx σ H2 fun z H3=>∃ o,DGet H3 a y o∧Q (o.getD z) H3
def jgs (td ty tx:TE):TE:=fun σ H Q=>td σ H fun x H1=>∃ a,x=.ref a∧IsD H1 a∧ty σ H1 fun y H2=>tx σ H2 fun z H3=>∃ kvs k,H3 a=some (.dK kvs)∧y=kV k∧
 (∀ v,k0 kvs k=some v→Q v (upd H3 a (.dK (YD kvs k))))∧(k0 kvs k=none→Q z H3)
section
variable {X:Cx} {o e f:Expr} {apos cpos:Pos} {td ty tx:TE}
theorem jdN (hu:X.A.units+1 < cLine) (ho:PE X o td) (he:PE X e ty) (hf:PE X f tx) (m:M2 X o "get" apos e f cpos):PE X (.Call (.Attribute o "get" apos) [e,f] [] cpos) (jda td ty tx):=by
 intro pins s σ H Q I h
 refine wpAny_Call_method m.base m.few m.line PySem.F.plainAttrs_dict PySem.F.slot_dict_get PySem.F.type_dict_get (thn (ho pins s σ H _ I h) fun u s1 ⟨x,H1,I1,rx,a,ex,d,q1⟩=>?_)
 subst ex
 obtain rfl:u=Value.ref a:=rx
 obtain ⟨t1,t2,_⟩:=jeg I1 d
 refine ⟨t1,t2,?_⟩
 rw [m.trees]
 refine Calls.callWith_builtin rfl (Calls.evalArgs_plain (Calls.spliced_cons (thn (he pins s1 σ H1 _ I1 q1) fun iv s2 ⟨y,H2,I2,ry,q2⟩=>
  Calls.spliced_cons (thn (hf pins s2 σ H2 _ I2 q2) fun fv s3 ⟨z,H3,I3,rz,ov,g,q3⟩=>Calls.spliced_nil ?_))))
 exact jhd hu I3 g ry rz fun w' s4 I4 rw'=>⟨_,H3,I4,rw',q3⟩
theorem jdK (ho:PE X o td) (he:PE X e ty) (hf:PE X f tx) (m:M2 X o "pop" apos e f cpos):PE X (.Call (.Attribute o "pop" apos) [e,f] [] cpos) (jgs td ty tx):=by
 intro pins s σ H Q I h
 refine wpAny_Call_method m.base m.few m.line PySem.F.plainAttrs_dict PySem.F.slot_dict_pop PySem.F.type_dict_pop (thn (ho pins s σ H _ I h) fun u s1 ⟨x,H1,I1,rx,a,ex,d,q1⟩=>?_)
 subst ex
 obtain rfl:u=Value.ref a:=rx
 obtain ⟨t1,t2,_⟩:=jeg I1 d
 refine ⟨t1,t2,?_⟩
 rw [m.trees]
 refine Calls.callWith_builtin rfl (Calls.evalArgs_plain (Calls.spliced_cons (thn (he pins s1 σ H1 _ I1 q1) fun iv s2 ⟨y,H2,I2,ry,q2⟩=>
  Calls.spliced_cons (thn (hf pins s2 σ H2 _ I2 q2) fun fv s3 ⟨z,H3,I3,rz,kvs,k,ea,ey,q3,q4⟩=>Calls.spliced_nil ?_))))
 subst ey
 cases l:k0 kvs k with
 | some v=>exact jic I3 ea ry l (.inr ⟨fv,rfl⟩) fun w' s4 I4 rw'=>⟨v,_,I4,rw',q3 v l⟩
 | none=>exact jhc I3 ea ry l fun s4 I4=>⟨z,H3,I4,rz,q4 l⟩
end
end L2
namespace Att
open PySem PySem.W PySem.Calls PyProof.Rows
theorem JX {P:Params} {h:Heap}:∀ (ns:List Int) (vs:List Value),WellAll P h vs (ns.map WData.int)→IntsAre vs ns:=by
 intro ns
 induction ns with
 | nil=>
  intro vs w
  rw [List.map_nil] at w
  cases w
  exact .nil
 | cons n ns ih=>
  intro vs w
  rw [List.map_cons] at w
  cases w with
  | cons a b=>
   cases a
   exact .cons _ _ (ih _ b)
theorem jb7 {l:OpenLaw} {n:Nat} (hn:l.most=some n) {P:Params} {h:Heap} {args:List WData} {vals:List Value}
  (hpre:l.row.toRowW.claim.pre args=true) (hwl:WellAll P h vals args) :
  ∃ a vs ns,vals=[Value.ref a]∧args=[WData.list (ns.map WData.int)]∧h.get? a=some { cls:=.type "list",data:=.seq vs.toArray }∧IntsAre vs ns∧ns.length≤n:=by
 have hsh:WShape.hasAll [] args [.list .int]=true:=(pre_splitW hpre).1
 have hc:l.pre.holds [] { args:=args }=true:=(pre_splitW hpre).2
 obtain ⟨d,r,rfl,h1,h2⟩:=hasAllW_cons hsh
 obtain rfl:=hasAllW_nil h2
 obtain ⟨xs,rfl,h3⟩:=hasW_list h1
 obtain ⟨ns,rfl⟩:=items_int h3
 have hlen:ns.length≤n:=by
  unfold OpenLaw.pre at hc
  have h4:(WTm.not (.lt (.lit (.int (n:Int))) (.len (.arg 0)))).holds [] { args:=[.list (ns.map .int)] }=true:=by
   have h4:=(holds_andW hc).1
   rw [hn] at h4
   exact h4
  have h5:=condW_of h4 (w_not (w_lt w_lit (w_len_list (w_arg rfl))))
  rw [List.length_map] at h5
  refine Nat.le_of_not_lt fun q=>?_
  have q':(n:Int) < ((ns.length:Nat):Int):=by omega
  first
   | (rw [decide_eq_true q'] at h5;exact absurd h5 (by decide))
   | (simp at h5;omega)
 cases hwl with
 | cons w1 w2=>
  cases w2
  cases w1 with
  | list ho hall=>exact ⟨_,_,ns,rfl,rfl,ho,JX ns _ hall,hlen⟩
theorem jb8 (l:OpenLaw) (args:List WData):l.row.toRowW.claim.post args (.bool true) args=true:=
 postW_of (r:=l.row.toRowW) (X:=(true == true))
  (show WShape.has [] (.bool true) .bool=true by first | rfl | decide | simp [WShape.has,WShape.arms,WShape.armsAll])
  (show (WTm.eq .res (.lit (.bool true))).value [] { args:=args,res:=some (.bool true),after:=args }=some (.bool (true == true)) from w_eq_bool (w_res rfl) w_lit) rfl
theorem attach_call {l:OpenLaw} {n:Nat} {q:Program} {loose:List Str} {XP:(Str→Option Value)→Heap→Prop} {YP:World→Heap→Prop} {d:DefRec}
  (hn:l.most=some n) (hdf:d.params.defaults=[])
  (call:∀ (w:World) (s₀ s₁:Shared) (mg mb:Str→Option Value) (fa:Addr) (o:Obj) (pm cd doc:Value) (a:Addr) (vs:List Value) (ns:List Int),
   Ground q loose [] XP w s₀ mg mb s₁.heap→YP w s₁.heap→
   s₁.heap.get? fa=some o→o.data=.func (docDef d.name d.params d.body d.scope pm cd doc)→s₁.heap.CodeRec cd d.name→mg d.name=some (.ref fa)→
   s₁.heap.get? a=some { cls:=.type "list",data:=.seq vs.toArray }→IntsAre vs ns→ns.length≤n→s₁.gens=#[]→
   codeAny (model l.prog w) callerA (.call (.ref fa) ⟨[.ref a],[]⟩) (fun r s'=>r=.ok (.ret (.bool true))∧OldK s₁.heap s'.heap∧s'.os=s₁.os∧AllBare s'.gens) s₁) :
  WalkO q loose XP YP l.row.toRowW d [] (fun f vs=>PySem.call f vs):=by
 intro w s₀ s₁ mg mb G Y fa o pm cd doc dV kV ho hd hcd hD hmg hg args vals as hpre hlay hrd hwl hlo
 obtain rfl:dV=.none:=Dflts.none hD hdf
 obtain rfl:kV=.none:=Dflts.noKw hD
 obtain ⟨a,vs,ns,rfl,rfl,hobj,hints,hlen⟩:=jb7 hn hpre hwl
 refine enter_call (codeAny_mono (call w s₀ s₁ mg mb fa o pm cd doc a vs ns G Y ho (fd_plain hd) hcd hmg hobj hints hlen hg) fun r s' hq=>?_)
 obtain ⟨rfl,h2,h3,h4⟩:=hq
 exact ⟨.inl ⟨.bool true,.bool true,[],rfl,fun _=>rfl,.bool true,jb8 l _,fun _=>⟨List.Pairwise.nil,fun _ hm=>(nomatch hm)⟩⟩,h2,h3,h4⟩
end Att
namespace L2
open PySem PySem.Spec PyProof.Rows
theorem Ye:∀ {vs:List Value} {ns:List Int},IntsAre vs ns→Vals (ns.map V.int) vs
 | _,_,.nil=>.nil
 | _,_,.cons n t h=>.cons ⟨t,rfl⟩ (Ye h)
def jfO (s:Stmt) (j:Nat):Stmt:=match s with
 | .ClassDef _ _ _ body _ _ _ _ _ _ _=>body.getD j (.Pass ⟨0,0,0,0⟩)
 | _=>.Pass ⟨0,0,0,0⟩
def qT (s:Stmt):Arguments:=match s with
 | .FunctionDef _ a _ _ _ _ _ _ _ _=>a
 | _=>{ posonlyargs:=[],args:=[],vararg:=none,kwonlyargs:=[],kw_defaults:=[],kwarg:=none,defaults:=[] }
def qo (s:Stmt):List Stmt:=match s with
 | .FunctionDef _ _ b _ _ _ _ _ _ _=>b
 | _=>[]
def jp (s:Stmt):Scope:=match s with
 | .FunctionDef _ _ _ _ _ _ sc _ _ _=>sc
 | _=>{ kind:=.function,names:=[],isGenerator:=false,isCoroutine:=false }
abbrev CX0:CXT:=fun _ _ _ _ _ _=>False
abbrev E0:XK:=fun _ _ _=>False
theorem jgh {X:Cx}:K0 CX0 X E0:=fun _ _ _ _ _ _ _ h=>h.elim
structure Fun (K:PySem.W.Frag) (x qual:Str) (st:Stmt) (f:Addr) (fd:FuncData):Prop where
 ex:∃ (oc:Value) (od:Option Addr) (kV doc pm:Value) (an:Option Addr) (cdv ct:Value) (osl:Array (Option Value)),
  fd=PySem.W.fnOf x qual (qT st) (qo st) (jp st) .none kV doc pm an cdv ct∧K.lookup f=some ⟨oc,od,.func fd,osl⟩∧PySem.W.codeIn K cdv qual=true
 kp:PySem.W.keepIn K (.ref f)=true
section
variable {P:Program} {w:World} {K:PySem.W.Frag} {mg:Str→Option Value} {base:Heap}
theorem Fun.ok {x qual:Str} {st:Stmt} {f:Addr} {fd:FuncData} {N ps:List Str} {k:Nat} {sp:Sp} (F:Fun K x qual st f fd) (S:FnScope N ps (jp st)) (len:∀ vs H Q E,sp vs H Q E→vs.length=ps.length)
  (hbody:∀ (cdv:Value) (A:Around) (outer:List Env) (s:Shared) (H:Hp) (vs:List V) (Q:VK) (E:XK),Room k (A.deeper (envOfC qual (jp st) s.heap.objs.size f cdv))→sp vs H Q E→
   ∃ t,PSs (yp CX0 P w K mg base N qual (jp st) f cdv A outer s H E).nox (qo st) t∧t { nx:=fun _ H'=>Q .non H',rt:=Q } (start N vs) H):FnOk P w K mg base CX0 (k+1) f fd ps sp:=by
 obtain ⟨oc,od,kV,doc,pm,an,cdv,ct,osl,rfl,lk,hcd⟩:=F.ex
 refine jia lk hcd S len fun A outer s H vs Q E hr hsp=>?_
 obtain ⟨t,h,q⟩:=hbody cdv A outer s H vs Q E hr hsp
 exact ⟨t,h.nox,q⟩
theorem Fun.binds {x qual:Str} {st:Stmt} {f:Addr} {fd:FuncData} {ps:List Str} (F:Fun K x qual st f fd)
  (h:∀ (kV doc pm:Value) (an:Option Addr) (cdv ct:Value) (us:List Value),us.length=ps.length→bindArgs (PySem.W.fnOf x qual (qT st) (qo st) (jp st) .none kV doc pm an cdv ct) ⟨us,[]⟩=pure (ps.zip us)):Binds K fd ps []:=by
 obtain ⟨oc,od,kV,doc,pm,an,cdv,ct,osl,rfl,lk,hcd⟩:=F.ex
 exact .all (h kV doc pm an cdv ct)
theorem jaN {x qual:Str} {st:Stmt} {f:Addr} {oc:Value} {od an:Option Addr} {osl:Array (Option Value)} {kV doc pm cdv ct:Value} (l:K.lookup f=some ⟨oc,od,.func (PySem.W.fnOf x qual (qT st) (qo st) (jp st) .none kV doc pm an cdv ct),osl⟩)
  (c:PySem.W.codeIn K cdv qual=true) (k:PySem.W.keepIn K (.ref f)=true):Fun K x qual st f (PySem.W.fnOf x qual (qT st) (qo st) (jp st) .none kV doc pm an cdv ct):=⟨⟨oc,od,kV,doc,pm,an,cdv,ct,osl,rfl,l,c⟩,k⟩
end
theorem jJ {n:Nat} (h:n≤1000):n < sizeLine:=Nat.lt_of_le_of_lt h (by decide)
section
variable {X:Cx}
theorem pv (i:Nat) {x:Str} {pos:Pos} (hN:X.N[i]?=some x:=by rfl) (hv:Vis X.env.scope x:=by first | exact Or.inl rfl | exact Or.inr (Or.inl rfl) | exact Or.inr (Or.inr rfl)) (hd:(x == ("__debug__" : Str))=false:=by decide)
  (hcd:(x == ("__classdict__" : Str))=false:=by decide):PE X (.Name x pos) (jap i):=jdE hN hv hd hcd
end
theorem kh {A B:Prop} (h:B):if false=true then A else B:=by
 rw [if_neg Bool.false_ne_true]
 exact h
theorem kO {A B:Prop} (h:A):if true=true then A else B:=by
 rw [if_pos rfl]
 exact h
theorem zD {c A B:Prop} [Decidable c] (h1:c→A) (h2:¬ c→B):if c then A else B:=by
 by_cases h:c
 ·rw [if_pos h]
  exact h1 h
 ·rw [if_neg h]
  exact h2 h
def Same (H H':Hp):Prop:=∀ b o,H b=some o→H' b=some o
theorem Same.refl (H:Hp):Same H H:=fun _ _ h=>h
theorem Same.trans {H H1 H2:Hp} (a:Same H H1) (b:Same H1 H2):Same H H2:=fun c o h=>b c o (a c o h)
theorem Same.free {H H':Hp} (e:Same H H') {l:Addr} (h:H' l=Option.none):H l=Option.none:=by
 cases q:H l with
 | none=>rfl
 | some o=>
  rw [e l o q] at h
  cases h
theorem Jm {prog:Program} {w:World} {A:Around} {s:Shared} {elt target iter:Expr} {ifs:List Expr} {scope:Scope} {pos:Pos} {it acc:Value} {env:Env} {R:Result→Shared→Prop} (I:Nat→Shared→Prop)
  (turn:∀ n s,I n s→wpAny (model prog w) A (pyNext it) (fun r s1=>match r with
   | none=>R (.ok .next) s1
   | some v=>wpAny (model prog w) A (letOwnedTupleGo target it v) (fun _ s1'=>wpAny (model prog w) A (assign target env v) (fun _ s2=>
     wpAny (model prog w) A (forIn ifs true fun c r=>if r=true then do let ok ← isTrue c env (eval c env);pure (ForInStep.yield ok) else pure (ForInStep.yield r)) (fun ok s3=>
      if ok=true then wpAny (model prog w) A (eval elt env) (fun x s4=>
       wpAny (model prog w) A (call (.builtin "list.append") [acc,x]) (fun _ s5=>∃ m,m < n∧I m s5) (fun _ _=>False) s4) (fun _ _=>False) s3
      else ∃ m,m < n∧I m s3) (fun _ _=>False) s2) (fun _ _=>False) s1') (fun _ _=>False) s1) (fun _ _=>False) s)
  (n:Nat) (h:I n s):codeAny (model prog w) A (.compLoop (.ListComp elt [⟨target,iter,ifs,0⟩] scope pos) 0 it acc env) R s:=by
 have no:∀ (x:Value) (s':Shared),False→notedBy (model prog w) A env (fun e s'=>R (.error e) s') x s':=fun _ _ z=>z.elim
 refine codeAny_loop rfl I (fun n s hI=>?_) n h
 show wpAny _ A ((compTurn (.ListComp elt [⟨target,iter,ifs,0⟩] scope pos) 0 it acc env).onRaise (fun x=>do noteFrame x env;theTreesLotGoes x)) _ _ s
 refine wpAny_noted ?_
 rw [compTurn_list]
 refine wpAny_bind (wpAny_standAt (wpAny_bind (wpAny_mono (turn n s hI) (fun r s1 h1=>?_) no)))
 cases r with
 | none=>exact wpAny_pure h1
 | some v=>
  refine wpAny_bind (wpAny_mono h1 (fun _ s1' h1'=>?_) no)
  refine wpAny_bind (wpAny_mono h1' (fun _ s2 h2=>wpAny_bind (wpAny_mono h2 (fun ok s3 h3=>?_) no)) no)
  cases ok with
  | false=>exact wpAny_pure ⟨rfl,h3⟩
  | true=>
   exact wpAny_bind (wpAny_bind (wpAny_mono h3 (fun x s4 h4=>wpAny_bind (wpAny_mono h4 (fun _ s5 h5=>wpAny_pure (wpAny_pure ⟨rfl,h5⟩)) no)) no))
theorem jen:(NameKind.free == NameKind.free)=true:=rfl
def zU (cells:List (Str×Addr)):List (Str×NameKind)→List (Str×Addr)→List (Str×Addr)
 | [],acc=>acc
 | (n,k) :: r,acc=>if k == .free then zU cells r ((n,(cells.lookup n).getD 0) :: acc) else zU cells r acc
theorem Z6 {env:Env}:∀ (names:List (Str×NameKind)) (acc:List (Str×Addr)),(∀ x∈names,x.2=.free→(env.cells.lookup x.1).isSome=true)→
  (forIn names acc fun x (cs:List (Str×Addr))=>(match x with | (name,kind)=>if (kind == NameKind.free)=true then do let c ← cellOf env name;pure (ForInStep.yield ((name,c) :: cs)) else pure (ForInStep.yield cs):Sem (ForInStep (List (Str×Addr)))))=(pure (zU env.cells names acc):Sem (List (Str×Addr)))
 | [],acc,_=>by simp only [List.forIn_nil];rfl
 | (n,k) :: r,acc,h=>by
  have ih:=fun a=>Z6 (env:=env) r a fun x hx=>h x (List.mem_cons_of_mem _ hx)
  rw [List.forIn_cons]
  by_cases hk:k=.free
  ·subst hk
   have q:=h (n,.free) List.mem_cons_self rfl
   obtain ⟨c,hc⟩:=Option.isSome_iff_exists.mp q
   have e:cellOf env n=pure c:=by unfold cellOf;rw [show env.cells.lookup n=some c from hc]
   simp only [beq_self_eq_true,if_true,e,pure_bind]
   rw [ih]
   show _=pure (if (NameKind.free == NameKind.free)=true then zU env.cells r ((n,(env.cells.lookup n).getD 0) :: acc) else _)
   rw [if_pos jen,show env.cells.lookup n=some c from hc]
   rfl
  ·have hb:(k == NameKind.free)=false:=by simpa using hk
   simp only [hb,Bool.false_eq_true,if_false,pure_bind]
   rw [ih]
   show _=pure (if (k == NameKind.free)=true then _ else zU env.cells r acc)
   rw [hb]
   rfl
theorem KS {scope:Scope} {env:Env} (h:∀ x∈scope.names,x.2=.free→(env.cells.lookup x.1).isSome=true):closureFor scope env=pure (zU env.cells scope.names []):=by
 unfold closureFor
 have e:=Z6 (env:=env) scope.names [] h
 simp only [bind_pure] at *
 exact e
theorem jaP {cells:List (Str×Addr)}:∀ (names:List (Str×NameKind)) (acc:List (Str×Addr)),(∀ x∈names,x.2=.free→(cells.lookup x.1).isSome=true)→(∀ x c,acc.lookup x=some c→cells.lookup x=some c)→
  ∀ x c,(zU cells names acc).lookup x=some c→cells.lookup x=some c
 | [],acc,_,ha=>ha
 | (n,k) :: r,acc,h,ha=>by
  unfold zU
  by_cases hk:k=.free
  ·subst hk
   rw [if_pos jen]
   refine jaP r _ (fun x hx=>h x (List.mem_cons_of_mem _ hx)) fun x c e=>?_
   by_cases hx:x=n
   ·subst hx
    rw [List.lookup_cons_self] at e
    obtain ⟨d,hd⟩:=Option.isSome_iff_exists.mp (h (x,.free) List.mem_cons_self rfl)
    have hd':cells.lookup x=some d:=hd
    rw [hd'] at e ⊢
    exact e
   ·rw [List.lookup_cons,beq_eq_false_iff_ne.mpr hx] at e
    exact ha x c e
  ·rw [if_neg (by simpa using hk)]
   exact jaP r _ (fun x hx=>h x (List.mem_cons_of_mem _ hx)) ha
theorem Zj {cells:List (Str×Addr)}:∀ (names:List (Str×NameKind)) (acc:List (Str×Addr)) (x:Str),(acc.lookup x).isSome=true→((zU cells names acc).lookup x).isSome=true
 | [],acc,_,ha=>ha
 | (n,k) :: r,acc,x,ha=>by
  unfold zU
  split
  ·refine Zj r _ x ?_
   rw [List.lookup_cons]
   split
   ·rfl
   ·exact ha
  ·exact Zj r _ x ha
theorem jaQ {cells:List (Str×Addr)}:∀ (names:List (Str×NameKind)) (acc:List (Str×Addr)) (x:Str),(x,NameKind.free)∈names→((zU cells names acc).lookup x).isSome=true
 | [],_,_,h=>by simp at h
 | (n,k) :: r,acc,x,h=>by
  unfold zU
  rcases List.mem_cons.mp h with e | h
  ·obtain ⟨e1,e2⟩:=Prod.mk.inj e
   subst e1 e2
   rw [if_pos jen]
   refine Zj r _ _ ?_
   rw [List.lookup_cons_self]
   rfl
  ·split
   ·exact jaQ r _ x h
   ·exact jaQ r _ x h
theorem qH {env:Env}:∀ {names:List (Str×NameKind)} {x:Str} {k:NameKind},
  (names.map fun (n,k)=>if (k == NameKind.free && env.scope.kind == .function && env.kindOf n == some .cell) then (n,NameKind.cell) else (n,k)).lookup x=some k→
   names.lookup x=some k∨(k=.cell∧names.lookup x=some .free)
 | [],_,_,h=>by simp at h
 | (n,k') :: r,x,k,h=>by
  rw [List.map_cons] at h
  by_cases hx:x=n
  ·subst hx
   rw [List.lookup_cons_self]
   by_cases hc:(k' == NameKind.free && env.scope.kind == .function && env.kindOf x == some .cell)=true
   ·simp only [hc,if_true] at h
    rw [List.lookup_cons_self] at h
    have hk:k'=.free:=by
     simp only [Bool.and_eq_true,beq_iff_eq] at hc
     exact hc.1.1
    exact .inr ⟨(Option.some.inj h).symm,by rw [hk]⟩
   ·simp only [hc] at h
    rw [if_neg (by simp),List.lookup_cons_self] at h
    exact .inl h
  ·have e:(x == n)=false:=beq_eq_false_iff_ne.mpr hx
   have h':(r.map fun (n,k)=>if (k == NameKind.free && env.scope.kind == .function && env.kindOf n == some .cell) then (n,NameKind.cell) else (n,k)).lookup x=some k:=by
    by_cases hc:(k' == NameKind.free && env.scope.kind == .function && env.kindOf n == some .cell)=true
    ·simp only [hc,if_true] at h
     rw [List.lookup_cons,e] at h
     exact h
    ·simp only [hc] at h
     rw [if_neg (by simp),List.lookup_cons,e] at h
     exact h
   have ih:=@qH env r x k h'
   rw [List.lookup_cons,e]
   exact ih
theorem y9 {env:Env}:∀ {names:List (Str×NameKind)} {x:Str},names.lookup x=some .free→
  (names.map fun (n,k)=>if (k == NameKind.free && env.scope.kind == .function && env.kindOf n == some .cell) then (n,NameKind.cell) else (n,k)).lookup x=some .cell∨
  (names.map fun (n,k)=>if (k == NameKind.free && env.scope.kind == .function && env.kindOf n == some .cell) then (n,NameKind.cell) else (n,k)).lookup x=some .free
 | [],_,h=>by simp at h
 | (n,k') :: r,x,h=>by
  rw [List.map_cons]
  by_cases hx:x=n
  ·subst hx
   rw [List.lookup_cons_self] at h
   cases h
   by_cases hc:(NameKind.free == NameKind.free && env.scope.kind == .function && env.kindOf x == some .cell)=true
   ·simp only [hc,if_true]
    exact .inl List.lookup_cons_self
   ·simp only [hc]
    rw [if_neg (by simp)]
    exact .inr List.lookup_cons_self
  ·have e:(x == n)=false:=beq_eq_false_iff_ne.mpr hx
   rw [List.lookup_cons,e] at h
   have ih:=@y9 env r x h
   by_cases hc:(k' == NameKind.free && env.scope.kind == .function && env.kindOf n == some .cell)=true
   ·simp only [hc,if_true]
    rw [List.lookup_cons,e]
    exact ih
   ·simp only [hc]
    rw [if_neg (by simp),List.lookup_cons,e]
    exact ih
def blk (X:Cx) (scope:Scope) (own:List Str) (fr:List Nat) (s:Shared) (H:Hp) (ex:List Addr):Cx where
 prog:=X.prog
 w:=X.w
 K:=X.K
 mg:=X.mg
 base:=X.base
 A:=X.A
 N:=own++fr.map fun j=>X.N.getD j (Str.ofString "")
 s₀:=s
 H₀:=H
 env:=compEnvC scope (zU X.env.cells scope.names []) s.heap.objs.size X.env
 outer:=X.stack
 stack:=X.stack
 ex:=ex
 fn:=fun _=>false
 calm:=X.calm
 pn:=[]
 xe:=fun _ _=>False
def jez (own:List Str) (fr:List Nat) (σ:St):St:=own.map (fun _=>none)++fr.map fun j=>(σ[j]?).join
structure CompOk (X:Cx) (scope:Scope) (fr:List Nat):Prop where
 kind:scope.kind=.function
 nocell:∀ y∈scope.names,y.2≠.cell
 loc:∀ y∈scope.names,y.2=.local→scope.names.lookup y.1=some .local
 frees:∀ y∈scope.names,y.2=.free→X.env.scope.names.lookup y.1=some .cell∨X.env.scope.names.lookup y.1=some .free
 fr:∀ j∈fr,scope.names.lookup (X.N.getD j (Str.ofString ""))=some .free
theorem jbH {X:Cx} {scope:Scope} {own:List Str} {fr:List Nat} {pins:List (Addr×Obj)} {σ:St} {H:Hp} {s:Shared} {ex:List Addr} {h1:Heap} {t1:Nat} (I:Inv X pins σ H s) (O:CompOk X scope fr)
  (hex:∀ b∈ex,JY X pins H b∧b < s.heap.objs.size) (hns:h1.Ns s.heap.objs.size fun _=>none) (hk:∀ b o,s.heap.get? b=some o→h1.get? b=some o) :
  Inv (blk X scope own fr s H ex) [] (jez own fr σ) H { s with heap:=h1,toks:=t1 }:=by
 have hsome:∀ x∈scope.names,x.2=.free→(X.env.cells.lookup x.1).isSome=true:=fun x hx e=>by
  obtain ⟨c,hc⟩:=I.ok.has x.1 (O.frees x hx e)
  rw [hc];rfl
 have sub:∀ x c,(zU X.env.cells scope.names []).lookup x=some c→X.env.cells.lookup x=some c:=jaP scope.names [] hsome fun x c e=>by simp at e
 have hasc:∀ x,scope.names.lookup x=some .free→∃ c,(zU X.env.cells scope.names []).lookup x=some c:=fun x e=>Option.isSome_iff_exists.mp (jaQ scope.names [] x (PySem.mem_of_lookup e))
 have hcne:∀ x c,X.env.cells.lookup x=some c→c < s.heap.objs.size:=fun x c e=>by
  obtain ⟨v,q⟩:=I.cell x c e
  exact q.lt
 have hN:σ.length=X.N.length:=I.len
 refine ⟨⟨I.ok.mod,O.kind,I.ok.glob,I.ok.blt,Nat.le_refl _,fun x y c e1 e2=>I.ok.inj x y c (sub x c e1) (sub y c e2),fun x hx=>?_,fun x c z=>absurd z (by simp [blk]),I.ok.hd,I.ok.frames,.inl rfl,fun b hb=>⟨Nat.ne_of_lt (hex b hb).2,fun x c e=>(hex b hb).1.2.2.2.2.1 x c (sub x c e)⟩,
  fun b o e=>I.bs b o e,Nat.le_trans I.ok.bsz I.sz,fun b o e hb=>?_,fun b hb z=>?_,I.stack,I.stkFree⟩,
  rfl,I.bare,Un.kept hk,⟨_,hns,fun i x v e1 e2 e3=>?_⟩,fun x c e=>?_,I.fresh,fun x c e=>I.freeC x c (sub x c e),fun p hp=>absurd hp (by simp [blk]),I.hok.kept hk,?_⟩
 ·have hx':(relabel scope X.env).names.lookup x=some .cell∨(relabel scope X.env).names.lookup x=some .free:=hx
  rcases hx' with hx | hx
  ·rcases qH hx with q | ⟨_,q⟩
   ·exact absurd rfl (O.nocell _ (PySem.mem_of_lookup q))
   ·exact hasc x q
  ·rcases qH hx with q | ⟨q,_⟩
   ·exact hasc x q
   ·cases q
 ·rcases (hex b hb).1.2.2.2.1 with z | z
  ·exact I.ok.noex b o e z
  ·exact absurd (Nat.lt_of_lt_of_le (Heap.lt_size e) (Nat.le_trans I.ok.bsz z)) (Nat.lt_irrefl _)
 ·obtain ⟨_,f1,f2,_⟩:=(hex b hb).1
  rcases List.mem_cons.mp (I.stkSub b z) with q | q
  ·exact f1 q
  ·exact f2 q
 ·have e1':(own++fr.map fun j=>X.N.getD j (Str.ofString ""))[i]?=some x:=e1
  unfold jez at e2
  have hi:own.length≤i:=by
   by_cases h:own.length≤i
   ·exact h
   ·rw [List.getElem?_append_left (by simpa using Nat.lt_of_not_le h),List.getElem?_map] at e2
    cases q:own[i]? with
    | none=>rw [q] at e2;cases e2
    | some z=>rw [q] at e2;cases e2
  rw [List.getElem?_append_right hi,List.getElem?_map] at e1'
  rw [List.getElem?_append_right (by simpa using hi),List.getElem?_map,List.length_map] at e2
  cases q:fr[i - own.length]? with
  | none=>rw [q] at e2;cases e2
  | some j=>
   rw [q] at e1' e2
   have e1'':X.N.getD j (Str.ofString "")=x:=Option.some.inj e1'
   have e2':(σ[j]?).join=some v:=Option.some.inj e2
   have e2'':σ[j]?=some (some v):=by
    cases z:σ[j]? with
    | none=>rw [z] at e2';cases e2'
    | some y=>rw [z] at e2';rw [← e2'];rfl
   have hj:j < X.N.length:=by rw [← hN];exact (List.getElem?_eq_some_iff.mp e2'').1
   have e3':X.N[j]?=some x:=by
    rw [List.getElem?_eq_getElem hj,← e1'',List.getD_eq_getElem?_getD,List.getElem?_eq_getElem hj]
    rfl
   have hf:=O.fr j (List.mem_of_getElem? q)
   rw [e1''] at hf
   have hv:=O.frees _ (PySem.mem_of_lookup hf) rfl
   obtain ⟨m,_,hl⟩:=I.loc
   obtain ⟨u,ru,lk⟩:=hl j x v e3' e2'' (.inr hv)
   refine ⟨u,ru,.inr ⟨?_,?_⟩⟩
   ·exact y9 hf
   ·obtain ⟨c,hc⟩:=hasc x hf
    refine ⟨c,hc,?_⟩
    rcases lk with ⟨k,_⟩ | ⟨_,c',hc',z⟩
    ·have k':X.env.scope.names.lookup x=some .local:=k
     rcases hv with hv | hv <;> · rw [k'] at hv;cases hv
    ·have:=sub x c hc
     rw [hc'] at this
     cases this
     obtain ⟨o,ho,hd⟩:=z
     exact ⟨o,hk _ _ ho,hd⟩
 ·obtain ⟨v,o,ho,hd⟩:=I.cell x c (sub x c e)
  exact ⟨v,o,hk _ _ ho,hd⟩
 ·show (jez own fr σ).length=(own++fr.map fun j=>X.N.getD j (Str.ofString "")).length
  unfold jez
  rw [List.length_append,List.length_append,List.length_map,List.length_map,List.length_map]
theorem Jp {X:Cx} {scope:Scope} {own:List Str} {fr:List Nat} {pins:List (Addr×Obj)} {σ σ':St} {H H':Hp} {s s':Shared} {ex:List Addr} (I:Inv X pins σ H s) (hex:∀ b∈ex,JY X pins H b∧b < s.heap.objs.size)
  (J:Inv (blk X scope own fr s H ex) [] σ' H' s') {h':Heap} (hs:Heap.SameBut s.heap.objs.size s'.heap h'):Inv X pins σ H' { s' with heap:=h' }:=by
 have hC:H' s.heap.objs.size=none:=J.free
 have u:Un (frs X.stack) ex H H' s.heap s'.heap:=J.base
 have ne:∀ b o,s.heap.get? b=some o→b≠s.heap.objs.size:=fun b o e=>Nat.ne_of_lt (Heap.lt_size e)
 have at':∀ b o,b≠s.heap.objs.size→s'.heap.get? b=some o→h'.get? b=some o:=fun b o hb e=>(hs.2 b hb).trans e
 refine I.call' (ch:=ex) J.os ⟨fun b o e n hb hx=>?_,fun b o e n hb hx=>?_,u.free,fun b o e hx=>?_,u.tups,u.frzs,u.tbls,fun b o xs q e hb hx=>at' b o (ne b o e) (u.stay b o xs q e hb hx)⟩ (fun b o e=>?_) J.bare fun b hb=>?_
 ·exact at' b o (ne b o e) (u.keep b o e n hb hx)
 ·obtain ⟨sl,q⟩:=u.slot b o e n hb hx
  exact ⟨sl,at' b _ (ne b o e) q⟩
 ·obtain ⟨o',q⟩:=u.there b o e hx
  exact ⟨o',at' b _ (ne b o e) q⟩
 ·refine (J.hok b o e).stay (fun c v hc q=>at' c v ?_ q) (fun _ q=>q) fun _ _ q=>q
  rintro z
  rcases hc with y | y
  ·rw [y] at z;rw [z,hC] at e;cases e
  ·rw [z,hC] at y;cases y
 ·obtain ⟨f0,f1,f2,f3,f4,f5⟩:=(hex b hb).1
  exact ⟨f3,f1,f4,f5⟩
def PTs (X:Cx) (ifs:List Expr) (t:TT):Prop:=
 ∀ (pins:List (Addr×Obj)) (s:Shared) (σ:St) (H:Hp) (Q:Bool→Hp→Prop),Inv X pins σ H s→t σ H Q→
  wpAny (model X.prog X.w) X.A (forIn ifs true fun c r=>if r=true then do let ok ← isTrue c X.env (eval c X.env);pure (ForInStep.yield ok) else pure (ForInStep.yield r)) (TP X pins σ Q) X.xe s
def ZB:TT:=fun _ H Q=>Q true H
theorem jeZ {X:Cx}:PTs X [] ZB:=fun _ _ _ H _ I h=>wpAny_tests_nil ⟨H,I,h⟩
theorem jeY {X:Cx} {c:Expr} {t:TT} (h:PT X c t):PTs X [c] t:=fun pins s σ H Q I q=>wpAny_tests_one (h pins s σ H Q I q)
def K1 (J:It) (p:Addr) (g:TG) (tt:TT) (te:TE) (Q:VK) (σ:St) (H:Hp):Prop:=∃ W:Nat→Nat→St→Hp→Prop,(∃ m,W 0 m σ H)∧
 ∀ i m σ' H',W i m σ' H'→(J.stop i H'∧Q (.ref p) H')∨(J.go i H'∧∃ N:St→Hp→Prop,(∀ σ3 H3,N σ3 H3→∃ m',m' < m∧W (i+1) m' σ3 H3)∧∀ x H2,J.yld i H' x H2→g x σ' H2 fun σ3 H3=>tt σ3 H3 fun c H4=>
  if c=true then te σ3 H4 fun y H5=>∃ ys,H5 p=some (.lst ys)∧ys.length < sizeLine∧N σ3 (upd H5 p (.lst (ys++[y]))) else N σ3 H4)
def Yh (own:List Str) (fr:List Nat) (wi:TI) (g:TG) (tt:TT) (te:TE):TE:=fun σ H Q=>wi σ H fun J H1=>∀ p,H1 p=none→K1 J p g tt te Q (jez own fr σ) (upd H1 p (.lst []))
theorem jeu {X:Cx} {scope:Scope} {own:List Str} {fr:List Nat} {elt tg iter:Expr} {ifs:List Expr} {pos:Pos} {wi:TI} {g:TG} {tt:TT} {te:TE} {use:Option (Value→Sem Unit)} (hc:X.calm=true) (O:CompOk X scope fr) (hi:PI X tg iter wi)
  (hb:∀ s H ex,PG (blk X scope own fr s H ex) tg g∧PTs (blk X scope own fr s H ex) ifs tt∧PE (blk X scope own fr s H ex) elt te)
  (hs:∀ x,foldedSetIterable iter X.env x=pure x) {pins:List (Addr×Obj)} {s:Shared} {σ:St} {H:Hp} {Q:VK} {R:Value→Shared→Prop} (I:Inv X pins σ H s) (h:Yh own fr wi g tt te σ H Q) (hx:∀ e s',X.xe e s'↔False)
  (fin:∀ (p C:Addr) (H':Hp) (s':Shared) (m:Str→Option Value),s'.heap.Ns C m→H' C=none→C≠X.env.locals→(∀ x c,X.env.cells.lookup x=some c→c≠C)→Inv X pins σ H' s'→(∀ h',Heap.SameBut C s'.heap h'→Inv X pins σ H' { s' with heap:=h' })→Q (.ref p) H'→
   compPost (model X.prog X.w) X.A X.xe use R (.ref p) C (.ok .next) s') :
  wpAny (model X.prog X.w) X.A (comprehension (.ListComp elt [⟨tg,iter,ifs,0⟩] scope pos) scope X.env (firstIterPos [⟨tg,iter,ifs,0⟩] pos) (newList []) false (eval iter X.env) use) R X.xe s:=by
 have hsome:∀ x∈scope.names,x.2=.free→(X.env.cells.lookup x.1).isSome=true:=fun x hx' e=>by
  obtain ⟨c,hc⟩:=I.ok.has x.1 (O.frees x hx' e)
  rw [hc];rfl
 have no:∀ (E:Value→Shared→Prop) (x:Value) (s':Shared),X.xe x s'→E x s':=fun E x s' z=>((hx x s').mp z).elim
 refine wpAny_comprehension_free (cl:=zU X.env.cells scope.names []) rfl hs (KS hsome) O.kind O.loc ?_
 refine thn (hi pins s σ H _ I h) fun v s1 h1=>thn h1 fun itv s2 h2=>?_
 obtain ⟨it,fp,tn,J,H2,e,I2,T,st2,f2,q2⟩:=h2
 subst e
 refine wpAny_newObj_type ?_
 have nw:H2 s2.heap.objs.size=none:=I2.fresh
 obtain ⟨W,⟨m0,w0⟩,turn⟩:=q2 _ nw
 generalize hp:s2.heap.objs.size=p at *
 have I3:Inv X pins σ (upd H2 p (.lst [])) { s2 with heap:=s2.heap.push { cls:=.type "list",dict:=none,data:=.seq ([]:List Value).toArray } }:=by
  have:=I2.lnew (ys:=[]) (its:=[]) (t':=s2.toks) .nil (Nat.zero_le _)
  rw [hp] at this
  exact this
 have lt2:∀ b∈fp,b < s2.heap.objs.size:=fun b hb=>by
  obtain ⟨o,ho,_⟩:=T.obj _ _ st2 b hb
  exact Heap.lt_size ho
 have fpn:∀ b∈fp,(upd H2 p (.lst [])) b=none:=fun b hb=>by
  rw [jB (by rw [← hp];exact Nat.ne_of_lt (lt2 b hb))]
  exact (f2 b hb).1
 generalize hs3:({ s2 with heap:=s2.heap.push { cls:=.type "list",dict:=none,data:=.seq ([]:List Value).toArray } }:Shared)=s3 at *
 have sz3:s3.heap.objs.size=p+1:=by
  rw [← hs3]
  show (s2.heap.push _).objs.size=_
  rw [Heap.size_push,hp]
 have st3:tn 0 s3.heap:=T.keep 0 _ _ st2 fun b hb o e=>by
  rw [← hs3]
  exact Heap.get?_push_of_some _ e
 refine wpAny_newFunctionEnv O.nocell (by intro y hy;simp at hy) (fun h4 hns4 hsb4=>?_) O.kind
 have k4:∀ b o,s3.heap.get? b=some o→h4.get? b=some o:=fun b o e=>hsb4.extBut b o (Nat.ne_of_lt (Heap.lt_size e)) (Heap.get?_push_of_some _ e)
 have hns4':h4.Ns s3.heap.objs.size fun _=>none:=by
  have z:(fun x:Str=>([]:List (Str×Value)).reverse.lookup x)=fun _=>none:=by funext x;rfl
  rw [z] at hns4
  exact hns4
 have fo:∀ b∈fp,JY X pins (upd H2 p (.lst [])) b∧b < s3.heap.objs.size:=fun b hb=>⟨⟨fpn b hb,(f2 b hb).2⟩,by rw [sz3,← hp];exact Nat.lt_succ_of_lt (lt2 b hb)⟩
 have I4:=jbH (own:=own) (fr:=fr) (t1:=s3.toks+([]:List (Str×Value)).length) I3 O fo hns4' k4
 have st4:tn 0 h4:=T.keep 0 _ _ st3 fun b hb o e=>k4 b o e
 obtain ⟨hg,ht,he⟩:=hb s3 (upd H2 p (.lst [])) fp
 have stat:∀ {H':Hp} {pn:List (Addr×Obj)} {s':Shared} {σ':St},Inv (blk X scope own fr s3 (upd H2 p (.lst [])) fp) [] σ' H' s'→(∀ b∈fp,H' b=none)→∀ b∈fp,JY (blk X scope own fr s3 (upd H2 p (.lst [])) fp) [] H' b:=fun {H' pn s' σ'} J hn b hb'=>
  ⟨hn b hb',(J.ok.exf b hb').1,J.ok.exfs b hb',.inl hb',(J.ok.exf b hb').2,fun p hp=>absurd hp (by simp [blk])⟩
 have nocells:∀ x c,X.env.cells.lookup x=some c→c≠s3.heap.objs.size:=fun x c e=>by
  obtain ⟨v,q⟩:=I3.cell x c e
  exact Nat.ne_of_lt q.lt
 have loop:∀ s5:Shared,s5={ s3 with heap:=h4,toks:=s3.toks+([]:List (Str×Value)).length }→
   codeAny (model X.prog X.w) X.A (.compLoop (.ListComp elt [⟨tg,iter,ifs,0⟩] scope pos) 0 (.ref it) (.ref p) (blk X scope own fr s3 (upd H2 p (.lst [])) fp).env) (compPost (model X.prog X.w) X.A X.xe use R (.ref p) s3.heap.objs.size) s5:=by
  rintro s5 rfl
  refine Jm (fun n s'=>∃ i σ' H',Inv (blk X scope own fr s3 (upd H2 p (.lst [])) fp) [] σ' H' s'∧tn i s'.heap∧(∀ b∈fp,H' b=none)∧W i n σ' H') ?_ m0 ⟨0,_,_,I4,st4,fpn,w0⟩
  rintro n s6 ⟨i,σ6,H6,I6,st6,fr6,w6⟩
  rcases turn i n σ6 H6 w6 with ⟨stop,qn⟩ | ⟨go,N,hN,step⟩
  ·refine thn (T.done (blk X scope own fr s3 (upd H2 p (.lst [])) fp) rfl rfl rfl hc i [] s6 σ6 H6 _ I6 (stat (pn:=[]) I6 fr6) st6 stop) fun r s7 ⟨hr,I7⟩=>?_
   subst hr
   obtain ⟨m,hm,_⟩:=I7.loc
   exact fin p _ H6 s7 m hm I7.free (Nat.ne_of_gt I3.lt) nocells (Jp I3 fo I7 (Heap.SameBut.refl ..)) (fun h' hs'=>Jp I3 fo I7 hs') qn
  ·refine thn (T.item (blk X scope own fr s3 (upd H2 p (.lst [])) fp) rfl rfl rfl hc i [] s6 σ6 H6 _ I6 (stat (pn:=[]) I6 fr6) st6 go) fun r s7 ⟨u,hr,h7⟩=>?_
   subst hr
   refine thn h7 fun _ s8 ⟨x,H8,I8,r8,y8,st8,fr8⟩=>?_
   have I8':=I8.pinned (stat (pn:=[]) I8 fr8) (T.obj _ _ st8)
   refine thn (hg _ s8 σ6 H8 x u _ I8' r8 (step x H8 y8)) fun _ s9 ⟨σ9,H9,I9,q9⟩=>?_
   refine thn (ht _ s9 σ9 H9 _ I9 q9) fun ok s10 ⟨H10,I10,q10⟩=>?_
   have again:∀ {H11:Hp} {s11:Shared},Inv (blk X scope own fr s3 (upd H2 p (.lst [])) fp) ([]++zP fp s8.heap) σ9 H11 s11→(∃ m',m' < n∧W (i+1) m' σ9 H11)→
     ∃ m,m < n∧∃ i σ' H',Inv (blk X scope own fr s3 (upd H2 p (.lst [])) fp) [] σ' H' s11∧tn i s11.heap∧(∀ b∈fp,H' b=none)∧W i m σ' H':=fun {H11 s11} I11 ⟨m',hm,w11⟩=>by
    refine ⟨m',hm,i+1,σ9,H11,I11.unpinned,T.keep _ _ _ st8 fun b hb' o e=>(I11.pin (b,o) (List.mem_append_right _ (List.mem_append_right _ (qi hb' e)))).1,fun b hb'=>?_,w11⟩
    obtain ⟨o,e,d⟩:=T.obj _ _ st8 b hb'
    exact (I11.pin (b,o) (List.mem_append_right _ (List.mem_append_right _ (qi hb' e)))).2.1
   cases ok with
   | false=>
    rw [if_neg Bool.false_ne_true] at q10 ⊢
    exact again I10 (hN _ _ q10)
   | true=>
    rw [if_pos rfl] at q10 ⊢
    refine thn (he _ s10 σ9 H10 _ I10 q10) fun yv s11 ⟨y,H11,I11,r11,ys,hys,hlen,q11⟩=>?_
    have ap:=j0 (X:=blk X scope own fr s3 (upd H2 p (.lst [])) fp) ([]++zP fp s8.heap) s11 σ9 H11 (.ref p) [y] (.ref p) [yv] (fun _ H12=>∃ m',m' < n∧W (i+1) m' σ9 H12) I11 rfl (.cons r11 .nil) ⟨p,ys,y,rfl,rfl,hys,hlen,hN _ _ q11⟩
    exact thn ap fun _ s12 ⟨_,H12,I12,_,q12⟩=>again I12 q12
 refine codeAny_compStart_list (loop _ rfl) (T.self X.A 0 _ _ _ st4 (loop _ rfl))
theorem jfh {X:Cx} {scope:Scope} {elt tg iter:Expr} {ifs:List Expr} {pos:Pos} {wi:TI} {g:TG} {tt:TT} {te:TE} (own:List Str) (fr:List Nat) (hc:X.calm=true) (O:CompOk X scope fr) (hi:PI X.nox tg iter wi)
  (hb:∀ s H ex,PG (blk X.nox scope own fr s H ex) tg g∧PTs (blk X.nox scope own fr s H ex) ifs tt∧PE (blk X.nox scope own fr s H ex) elt te)
  (hs:∀ x,foldedSetIterable iter X.env x=pure x:=by intro _;rfl):PE X.nox (.ListComp elt [⟨tg,iter,ifs,0⟩] scope pos) (Yh own fr wi g tt te):=by
 intro pins s σ H Q I h
 rw [eval_ListComp]
 refine jeu (X:=X.nox) (use:=none) (Q:=Q) hc ⟨O.kind,O.nocell,O.loc,O.frees,O.fr⟩ hi hb hs I h (fun _ _=>Iff.rfl) fun p C H' s' m hm hC _ _ I' back q=>?_
 exact ⟨m,hm,fun h' hs'=>⟨.ref p,H',back h' hs',rfl,q⟩⟩
section
variable {p:Addr} {g:TG} {tt:TT} {te:TE} {σ:St} {H:Hp} {Q:VK}
theorem jbS (J:It) (n:Nat) (Pv:Nat→St→Hp→Prop) (h0:Pv 0 σ H) (stop:∀ σ' H',Pv n σ' H'→J.stop n H') (go:∀ i σ' H',i < n→Pv i σ' H'→J.go i H')
  (hs:∀ i σ' H',i < n→Pv i σ' H'→∀ x H2,J.yld i H' x H2→g x σ' H2 fun σ3 H3=>tt σ3 H3 fun c H4=>if c=true then te σ3 H4 fun y H5=>∃ ys,H5 p=some (.lst ys)∧ys.length < sizeLine∧Pv (i+1) σ3 (upd H5 p (.lst (ys++[y]))) else Pv (i+1) σ3 H4)
  (hd:∀ σ' H',Pv n σ' H'→Q (.ref p) H'):K1 J p g tt te Q σ H:=by
 refine ⟨fun i m σ H=>m=n - i∧i≤n∧Pv i σ H,⟨n,by simp,Nat.zero_le _,h0⟩,?_⟩
 rintro i m σ1 H1 ⟨rfl,hi,pv⟩
 by_cases hlt:i < n
 ·exact .inr ⟨go i σ1 H1 hlt pv,Pv (i+1),fun σ3 H3 q=>⟨n - (i+1),by omega,rfl,hlt,q⟩,hs i σ1 H1 hlt pv⟩
 ·have e:i=n:=by omega
  subst e
  exact .inl ⟨stop σ1 H1 pv,hd σ1 H1 pv⟩
theorem yF {lo:Int} {n:Nat} (Pv:Nat→St→Hp→Prop) (h0:Pv 0 σ H)
  (hs:∀ i σ' H',i < n→Pv i σ' H'→g (.int (lo+i)) σ' H' fun σ3 H3=>tt σ3 H3 fun c H4=>if c=true then te σ3 H4 fun y H5=>∃ ys,H5 p=some (.lst ys)∧ys.length < sizeLine∧Pv (i+1) σ3 (upd H5 p (.lst (ys++[y]))) else Pv (i+1) σ3 H4)
  (hd:∀ σ' H',Pv n σ' H'→Q (.ref p) H'):K1 (Itr lo n) p g tt te Q σ H:=
 jbS (Itr lo n) n Pv h0 (fun _ _ _=>Nat.le_refl _) (fun i _ _ h _=>h) (fun i σ' H' h pv x H2 y=>by
  obtain ⟨e1,e2⟩:=y
  subst e1 e2
  exact hs i σ' _ h pv) hd
theorem JK {K:PySem.W.Frag} {a:Addr} {xs:List V} (Pv:Nat→St→Hp→Prop) (h0:Pv 0 σ H) (hl:∀ i σ' H',i≤xs.length→Pv i σ' H'→SqL K H' a xs)
  (hs:∀ i x σ' H',xs[i]?=some x→Pv i σ' H'→g x σ' H' fun σ3 H3=>tt σ3 H3 fun c H4=>if c=true then te σ3 H4 fun y H5=>∃ ys,H5 p=some (.lst ys)∧ys.length < sizeLine∧Pv (i+1) σ3 (upd H5 p (.lst (ys++[y]))) else Pv (i+1) σ3 H4)
  (hd:∀ σ' H',Pv xs.length σ' H'→Q (.ref p) H'):K1 (Itl K a) p g tt te Q σ H:=
 jbS (Itl K a) xs.length Pv h0 (fun σ' H' pv=>⟨xs,hl _ σ' H' (Nat.le_refl _) pv,Nat.le_refl _⟩) (fun i σ' H' h pv=>⟨xs,xs[i],hl i σ' H' (Nat.le_of_lt h) pv,by simp [h]⟩) (fun i σ' H' h pv x H2 y=>by
  obtain ⟨e1,e2⟩:=y
  subst e1
  exact hs i x σ' _ (e2 xs (hl i σ' _ (Nat.le_of_lt h) pv)) pv) hd
end
inductive D where
 | int (i:Int) | str (x:Str) | tup (ds:List D)
mutual
def Held (H:Hp):D→V→Prop
 | .int i,v=>v=.int i
 | .str x,v=>v=.str x
 | .tup ds,v=>∃ a xs,v=.ref a∧H a=some (.tup xs)∧HeldL H ds xs
def HeldL (H:Hp):List D→List V→Prop
 | [],vs=>vs=[]
 | d :: ds,vs=>∃ v r,vs=v :: r∧Held H d v∧HeldL H ds r
end
mutual
theorem Held.mono {H H':Hp} (e:Same H H'):∀ {d:D} {v:V},Held H d v→Held H' d v
 | .int i,v,h=>by unfold Held at h ⊢;exact h
 | .str x,v,h=>by unfold Held at h ⊢;exact h
 | .tup ds,v,h=>by
  unfold Held at h ⊢
  obtain ⟨a,xs,e1,e2,e3⟩:=h
  exact ⟨a,xs,e1,e a _ e2,HeldL.mono e e3⟩
theorem HeldL.mono {H H':Hp} (e:Same H H'):∀ {ds:List D} {vs:List V},HeldL H ds vs→HeldL H' ds vs
 | [],vs,h=>by unfold HeldL at h ⊢;exact h
 | d :: ds,vs,h=>by
  unfold HeldL at h ⊢
  obtain ⟨v,r,e1,e2,e3⟩:=h
  exact ⟨v,r,e1,Held.mono e e2,HeldL.mono e e3⟩
end
theorem jK {H:Hp} {i:Int}:Held H (.int i) (.int i):=by unfold Held;rfl
theorem jA {H:Hp} {x:Str}:Held H (.str x) (.str x):=by unfold Held;rfl
theorem jP {H:Hp} {a:Addr} {xs:List V} {ds:List D} (e:H a=some (.tup xs)) (h:HeldL H ds xs):Held H (.tup ds) (.ref a):=by unfold Held;exact ⟨a,xs,rfl,e,h⟩
theorem jw {H:Hp}:HeldL H [] []:=by unfold HeldL;rfl
theorem je {H:Hp} {d:D} {ds:List D} {v:V} {r:List V} (h:Held H d v) (t:HeldL H ds r):HeldL H (d :: ds) (v :: r):=by unfold HeldL;exact ⟨v,r,rfl,h,t⟩
theorem HeldL.length {H:Hp}:∀ {ds:List D} {vs:List V},HeldL H ds vs→ds.length=vs.length
 | [],vs,h=>by unfold HeldL at h;subst h;rfl
 | d :: ds,vs,h=>by
  unfold HeldL at h
  obtain ⟨v,r,e1,_,e3⟩:=h
  subst e1
  rw [List.length_cons,List.length_cons,HeldL.length e3]
theorem HeldL.get {H:Hp}:∀ {ds:List D} {vs:List V} {j:Nat} {d:D},HeldL H ds vs→ds[j]?=some d→∃ v,vs[j]?=some v∧Held H d v
 | [],_,_,_,_,e=>by simp at e
 | d :: ds,vs,0,d',h,e=>by
  unfold HeldL at h
  obtain ⟨v,r,e1,e2,e3⟩:=h
  simp at e;subst e e1
  exact ⟨v,rfl,e2⟩
 | d :: ds,vs,j+1,d',h,e=>by
  unfold HeldL at h
  obtain ⟨v,r,e1,e2,e3⟩:=h
  subst e1
  obtain ⟨w,h1,h2⟩:=HeldL.get (j:=j) (d:=d') e3 (by simpa using e)
  exact ⟨w,by simpa using h1,h2⟩
mutual
def D.depth:D→Nat
 | .int _=>0
 | .str _=>0
 | .tup ds=>D.depthL ds+1
def D.depthL:List D→Nat
 | []=>0
 | d :: ds=>max (D.depth d) (D.depthL ds)
end
theorem D.depthL_get:∀ {ds:List D} {j:Nat} {d:D},ds[j]?=some d→d.depth≤D.depthL ds
 | [],_,_,e=>by simp at e
 | d :: ds,0,d',e=>by simp at e;subst e;unfold D.depthL;exact Nat.le_max_left _ _
 | d :: ds,j+1,d',e=>by unfold D.depthL;exact Nat.le_trans (D.depthL_get (j:=j) (by simpa using e)) (Nat.le_max_right _ _)
theorem jU {X:Cx}:OpR X (binaryOp .FloorDiv) (rI (fun _ j=>0 < j∧j < 2 ^ 200) fun i j=>.int (i / j)):=opI fun i j _ _ _ _ _ hc q=>by
 refine floordiv_int (by omega) ?_ (.inl (PyProof.noPylong_of_log2 ?_))
 ·rw [Int.fdiv_eq_ediv_of_nonneg _ (by omega)]
  exact q
 ·have h0:j.natAbs≠0:=by omega
  exact Nat.lt_trans ((Nat.log2_lt h0).mpr (show j.natAbs < 2 ^ 200 by omega)) (by decide)
theorem zX {X:Cx}:qt X (.builtin "isinstance") (fun xs H Q=>∃ x t T b,xs=[x,.ty T]∧TyOf X.K H x t∧PySem.W.kitOne X.K t (.type T)=some b∧Q (.bl b) H):=by
 intro pins s σ H xs us Q I r h
 obtain ⟨x,t,T,b,rfl,ty,e,q⟩:=h
 obtain ⟨u,v,rfl,ru,rv⟩:=jhq r
 cases rv
 exact jcs I ru ty e fun tk=>⟨.bl b,H,I.tok _,rfl,q⟩
theorem jg5 (K:PySem.W.Frag):PySem.W.kitOne K (.type "int") (.type "int")=some true:=rfl
theorem jg6 (K:PySem.W.Frag):PySem.W.kitOne K (.type "int") (.type "bool")=some false:=rfl
def qG:Expr→Bool
 | .Starred _ _=>false
 | _=>true
theorem zM {e:Expr} (h:qG e=true) (zC:List Expr) (env:Env):starEach (e :: zC) env=(false,eval e env) :: starEach zC env:=by
 cases e <;> first | rfl | cases h
theorem YX (pos:Pos) (env:Env):∀ es:List Expr,es.all qG=true→(backTo pos (starEach es env)).any (·.1)=false
 | [],_=>rfl
 | e :: es,h=>by
  rw [List.all_cons,Bool.and_eq_true] at h
  rw [zM h.1]
  have ih:=YX pos env es h.2
  show (false || (backTo pos (starEach es env)).any (·.1))=false
  rw [ih]
  rfl
theorem jhS {X:Cx} {e:Expr} {es:List Expr} {te:TE} {t:TA} (ha:PE X e te) (hr:PA X es t) (hp:qG e=true:=by rfl):PA X (e :: es) (ja7 te t):=jfl ha hr (zM hp es X.env)
theorem jhO {X:Cx} {x:Str} {p pos:Pos} {e:Expr} {es:List Expr} {t:TA} {id:String} {r:List V→Hp→VK→Prop} (hc:qt X (.builtin id) r) (hg:Gl X x) (hm:X.mg x=none) (hv:bootBuiltins x=some (.builtin id)) (ha:PA X (e :: es) t) (hp:(e :: es).all qG=true:=by rfl) (hn:x≠"__name__":=by decide) (hdb:(x == ("__debug__" : Str))=false:=by decide) :
  PE X (.Call (.Name x p) (e :: es) [] pos) (tCB r t):=by
 rw [List.all_cons,Bool.and_eq_true] at hp
 exact jdO hc hg hm hv ha hn hdb (zM hp.1 es X.env) (YX pos X.env es hp.2)
theorem jhN {X:Cx} {x:Str} {p pos:Pos} {e:Expr} {es:List Expr} {t:TA} {T:String} {r:List V→Hp→VK→Prop} (hc:qt X (.type T) r) (hg:Gl X x) (hm:X.mg x=none) (hv:bootBuiltins x=some (.type T)) (ha:PA X (e :: es) t) (hp:(e :: es).all qG=true:=by rfl) (hn:x≠"__name__":=by decide) (hdb:(x == ("__debug__" : Str))=false:=by decide) :
  PE X (.Call (.Name x p) (e :: es) [] pos) (tCB r t):=by
 rw [List.all_cons,Bool.and_eq_true] at hp
 exact jcb hc hg hm hv ha hn hdb (zM hp.1 es X.env) (YX pos X.env es hp.2)
structure Fn (P:Program) (w:World) (K:PySem.W.Frag) (mg:Str→Option Value) (base:Heap) (k:Nat) (x:Str) (ps:List Str) (sp:Sp):Prop where
 ex:∃ f fd,FnOk P w K mg base CX0 k f fd ps sp∧Binds K fd ps []∧PySem.W.keepIn K (.ref f)=true∧mg x=some (.ref f)
theorem jhM {X:Cx} {k k':Nat} {x:Str} {ps:List Str} {sp:Sp} {e:Expr} {es:List Expr} {t:TA} {p pos:Pos} (F:Fn X.prog X.w X.K X.mg X.base k x ps sp) (hr:Room k' X.A) (ha:PA X (e :: es) t) (hk:k≤k':=by decide) (hg:Gl X x:=by rfl)
  (hd:(x == ("__debug__" : Str))=false:=by decide) (hp:(e :: es).all qG=true:=by rfl):PE X (.Call (.Name x p) (e :: es) [] pos) (jdb sp [] E0 t):=by
 obtain ⟨f,fd,G,b,kp,m⟩:=F.ex
 rw [List.all_cons,Bool.and_eq_true] at hp
 exact jfj G (hr.mono hk) hg m kp b .nil jgh ha hd (zM hp.1 es X.env) (YX pos X.env es hp.2)
theorem Fn.mk' {P:Program} {w:World} {K:PySem.W.Frag} {mg:Str→Option Value} {base:Heap} {k:Nat} {x:Str} {ps:List Str} {sp:Sp} {st:Stmt} {f:Addr} {fd:FuncData} (F:Fun K x x st f fd) (b:Binds K fd ps []) (m:mg x=some (.ref f)) (G:FnOk P w K mg base CX0 k f fd ps sp):Fn P w K mg base k x ps sp:=⟨f,fd,G,b,F.kp,m⟩
theorem yl {X:Cx} {scope:Scope} {fr:List Nat} {sc:Scope} {N:List Str} (h1:X.env.scope=sc) (h2:X.N=N) (h:scope.kind=.function∧(∀ y∈scope.names,y.2≠.cell)∧(∀ y∈scope.names,y.2=.local→scope.names.lookup y.1=some .local)∧
  (∀ y∈scope.names,y.2=.free→sc.names.lookup y.1=some .cell∨sc.names.lookup y.1=some .free)∧∀ j∈fr,scope.names.lookup (N.getD j (Str.ofString ""))=some .free):CompOk X scope fr:=by
 obtain ⟨a,b,c,d,e⟩:=h
 exact ⟨a,b,c,by rw [h1];exact d,by rw [h2];exact e⟩
theorem yH:bootBuiltins "len" = some (.builtin "len"):=by decide +kernel
theorem q0:bootBuiltins "isinstance" = some (.builtin "isinstance"):=by decide +kernel
theorem JM:bootBuiltins "sorted" = some (.builtin "sorted"):=by decide +kernel
theorem yI:bootBuiltins "int" = some (.type "int"):=by decide +kernel
theorem jfX:bootBuiltins "bool" = some (.type "bool"):=by decide +kernel
theorem Ka:bootBuiltins "list" = some (.type "list"):=by decide +kernel
theorem jhe:bootBuiltins "set" = some (.type "set"):=by decide +kernel
structure Free0 (mg:Str→Option Value):Prop where
 len_:mg "len" = none
 max_:mg "max" = none
 min_:mg "min" = none
 all_:mg "all" = none
 isinstance_:mg "isinstance" = none
 abs_:mg "abs" = none
 sorted_:mg "sorted" = none
 int_:mg "int" = none
 str_:mg "str" = none
 bool_:mg "bool" = none
 tuple_:mg "tuple" = none
 list_:mg "list" = none
 dict_:mg "dict" = none
 range_:mg "range" = none
 set_:mg "set" = none
theorem jee {X:Cx} {K:PySem.W.Frag} (h:X.K=K:=by rfl):IxR X (jhF K):=by subst h;exact jV
theorem jfN {X:Cx} {K:PySem.W.Frag} (h:X.K=K:=by rfl):IxR X (jgx K):=by subst h;exact ju
structure QS (X:Cx) (st:Stmt) (t:TS):Prop where
 h:PS X st t
structure QSs (X:Cx) (st:List Stmt) (t:TS):Prop where
 h:PSs X st t
theorem qs {X:Cx} {st:Stmt} {t:TS} (h:PS X st t):QS X st t:=⟨h⟩
theorem ZR {X:Cx}:OpR X (binaryOp .Add) (fun x y H Q=>∃ a b xs ys,x=.ref a∧y=.ref b∧SqL X.K H a xs∧SqL X.K H b ys∧xs.length+ys.length≤sizeLine∧∀ l,H l=none→Q (.ref l) (upd H l (.lst (xs++ys)))):=by
 intro pins s σ H x y v u Q I rx ry h
 obtain ⟨a,b,xs,ys,rfl,rfl,ha,hb,hz,q⟩:=h
 cases rx;cases ry
 obtain ⟨its,rv,⟨⟨c1,d1,t1,l1⟩,n1,o1,z1,z2,z3⟩,hz1⟩:=I.list ha
 obtain ⟨its2,rv2,⟨⟨c2,d2,t2,l2⟩,n2,o2,y1,y2,y3⟩,hz2⟩:=I.list hb
 simp only at z1 z2 z3 y1 y2 y3
 subst z1 z2 z3 y1 y2 y3
 have h1:=rv.length
 have h2:=rv2.length
 refine concat_meets ⟨_,o1,rfl⟩ ⟨_,o2,rfl⟩ noFill_list_add seq_list_add PySem.F.slot_list_add PySem.F.entry_list_add (PySem.F.args_list_add_2 _ _)
  (list_addW a b its.toArray its2.toArray n1 n2 none none l1 l2 (by simp only [List.size_toArray];omega)) ⟨o1,o2,?_⟩
 have e:its.toArray++its2.toArray=(its++its2).toArray:=by simp
 rw [e]
 refine ⟨.ref s.heap.objs.size,_,I.laid (t':=s.toks) (fun b u hb=>Heap.get?_push_of_some _ hb) (Nat.le_refl _) (show ObjOk X.prog X.w _ _ _ (.lst (xs++ys)) from ⟨?_,its++its2,0,rv.append rv2,Heap.get?_push_size _ rfl⟩),rfl,q _ (I.hok.fresh (Nat.le_refl _))⟩
 rw [List.length_append]
 exact hz
open PySem PySem.Spec PyProof.Rows PySem.W
section
variable {N:Nat} {f:Nat→Int} {p:Array Nat} {s:Shared}
def gk (f:Nat→Int) (p:Array Nat) (i:Nat):Int:=f (p.getD i 0)
end
end L2
namespace PySem
open Sem (wp)
namespace F
end F
end PySem
namespace L2
open PySem PySem.Spec PyProof.Rows PySem.W
theorem Inv.more {X:Cx} {pins:List (Addr×Obj)} {σ:St} {H H':Hp} {s:Shared} {h':Heap} {t':Nat} (I:Inv X pins σ H s) (k:∀ b u,s.heap.get? b=some u→h'.get? b=some u) (same:Same H H')
  (new:∀ b o,H b=none→H' b=some o→s.heap.objs.size≤b∧ObjOk X.prog X.w H' h' b o):Inv X pins σ H' { s with heap:=h',toks:=t' }:=by
 refine I.un ⟨fun b u q _ _ _=>k b u q,fun b u q _ _ _=>⟨u.slots,k b u q⟩,fun b u q n _=>?_,fun b u q _=>⟨u,k b u q⟩,fun b xs q=>same _ _ q,fun b u xs q=>same _ _ q,fun b ps q=>⟨#[],by rw [same _ _ q];simp⟩,fun b u _ _ q _ _=>k b u q⟩ fun b o e=>?_
 ·cases e:H' b with
  | none=>rfl
  | some o=>exact absurd (Heap.lt_size q) (Nat.not_lt.mpr (new b o n e).1)
 ·cases q:H b with
  | none=>exact (new b o q e).2
  | some u=>
   have:=same _ _ q
   rw [e] at this
   cases this
   exact (I.hok b o q).stay (fun c v _ q=>k c v q) (fun c q=>same _ _ q) fun c xs q=>same _ _ q
abbrev Up (xs:Array Nat):Prop:=xs.toList.Pairwise (· < ·)
structure TabOk (led:Bool) (t:SetTable):Prop where
 led_:t.led=led
 none_:t.dummies=#[]
 up:Up t.place
theorem jcV {xs:Array Nat} (h:Up xs) {i j:Nat} (hij:i < j) (hj:j < xs.size):xs.getD i 0 < xs.getD j 0:=by
 have hi:i < xs.size:=by omega
 have:=List.pairwise_iff_getElem.mp h i j (by simpa using hi) (by simpa using hj) hij
 simpa [Array.getD,hi,hj] using this
theorem KZ {xs:Array Nat} (h:Up xs) (j:Nat):∀ (f lo hi:Nat),lo≤hi→hi≤xs.size→hi≤lo+f→(∀ i,i < lo→xs.getD i 0 < j)→(∀ i,hi≤i→i < xs.size→j≤xs.getD i 0)→
  (SetTable.below.go xs j f lo hi)≤xs.size∧(∀ i,i < SetTable.below.go xs j f lo hi→xs.getD i 0 < j)∧∀ i,SetTable.below.go xs j f lo hi≤i→i < xs.size→j≤xs.getD i 0
 | 0,lo,hi,h1,h2,h3,a,b=>by
  unfold SetTable.below.go
  exact ⟨by omega,a,fun i hi'=>b i (by omega)⟩
 | f+1,lo,hi,h1,h2,h3,a,b=>by
  unfold SetTable.below.go
  by_cases e:lo < hi
  ·rw [if_pos e]
   dsimp only
   have hm:(lo+hi) / 2 < xs.size:=by omega
   have eg:xs.getD ((lo+hi) / 2) j=xs.getD ((lo+hi) / 2) 0:=by simp [Array.getD,hm]
   rw [eg]
   by_cases c:xs.getD ((lo+hi) / 2) 0 < j
   ·rw [if_pos c]
    refine KZ h j f ((lo+hi) / 2+1) hi (by omega) h2 (by omega) (fun i hi'=>?_) b
    rcases Nat.lt_or_ge i ((lo+hi) / 2) with z | z
    ·exact Nat.lt_trans (jcV h z hm) c
    ·have:i=(lo+hi) / 2:=by omega
     subst this
     exact c
   ·rw [if_neg c]
    refine KZ h j f lo ((lo+hi) / 2) (by omega) (by omega) (by omega) a fun i hi' hs=>?_
    rcases Nat.lt_or_ge ((lo+hi) / 2) i with z | z
    ·exact Nat.le_trans (Nat.le_of_not_lt c) (Nat.le_of_lt (jcV h z hs))
    ·have:i=(lo+hi) / 2:=by omega
     subst this
     exact Nat.le_of_not_lt c
  ·rw [if_neg e]
   exact ⟨by omega,a,fun i hi'=>b i (by omega)⟩
theorem jeA {xs:Array Nat} (h:Up xs) (j:Nat):SetTable.below xs j≤xs.size∧(∀ i,i < SetTable.below xs j→xs.getD i 0 < j)∧∀ i,SetTable.below xs j≤i→i < xs.size→j≤xs.getD i 0:=
 KZ h j xs.size 0 xs.size (Nat.zero_le _) (Nat.le_refl _) (by omega) (fun i h=>by omega) fun i h1 h2=>by omega
theorem jfR {xs:Array Nat} {i:Nat} (h:i < xs.size):xs[i]?=some (xs.getD i 0):=by simp [Array.getD,h]
theorem jcv {xs:Array Nat} (h:Up xs) {j:Nat} (hj:xs[SetTable.below xs j]?≠some j):Up (SetTable.insertAt xs (SetTable.below xs j) j):=by
 obtain ⟨b1,b2,b3⟩:=jeA h j
 unfold Up
 rw [SetTable.toList_insertAt]
 have hd:∀ x∈xs.toList.drop (SetTable.below xs j),j < x:=fun x hx=>by
  obtain ⟨i,hi,rfl⟩:=List.mem_iff_getElem.mp hx
  rw [List.length_drop] at hi
  rw [List.getElem_drop]
  have hs:SetTable.below xs j+i < xs.size:=by simpa using (by omega:SetTable.below xs j+i < xs.toList.length)
  have e:xs.toList[SetTable.below xs j+i]'(by simpa using hs)=xs.getD (SetTable.below xs j+i) 0:=by simp [Array.getD,hs]
  rw [e]
  have ge:=b3 (SetTable.below xs j+i) (by omega) hs
  rcases Nat.lt_or_ge j (xs.getD (SetTable.below xs j+i) 0) with z | z
  ·exact z
  ·have eq:xs.getD (SetTable.below xs j+i) 0=j:=by omega
   rcases Nat.eq_zero_or_pos i with rfl | hp
   ·exact absurd (by rw [Nat.add_zero] at eq hs;rw [jfR hs,eq]) hj
   ·have:=jcV h (i:=SetTable.below xs j) (j:=SetTable.below xs j+i) (by omega) hs
    have:=b3 (SetTable.below xs j) (Nat.le_refl _) (by omega)
    omega
 have ht:∀ x∈xs.toList.take (SetTable.below xs j),x < j:=fun x hx=>by
  obtain ⟨i,hi,rfl⟩:=List.mem_iff_getElem.mp hx
  rw [List.length_take] at hi
  rw [List.getElem_take]
  have hs:i < xs.size:=by simpa using (by omega:i < xs.toList.length)
  have e:xs.toList[i]'(by simpa using hs)=xs.getD i 0:=by simp [Array.getD,hs]
  rw [e]
  exact b2 i (by omega)
 refine List.pairwise_append.mpr ⟨h.sublist (List.take_sublist _ _),List.pairwise_cons.mpr ⟨hd,h.sublist (List.drop_sublist _ _)⟩,fun x hx y hy=>?_⟩
 rcases List.mem_cons.mp hy with rfl | hy
 ·exact ht x hx
 ·exact Nat.lt_trans (ht x hx) (hd y hy)
theorem ZP {led:Bool} {t:SetTable} (h:TabOk led t) {hashAt:Nat→Int} {hh:Int} (hne:∀ i,(hashAt i == hh)=false):∀ (f:Nat) (p:SetTable.Probe) (m:SetTable.Met),p.dummy=none→SetTable.probe.go t hashAt hh f p=some m→∃ j,m=.empty j none∧t.slot j=.empty
 | 0,p,m,_,e=>by
  unfold SetTable.probe.go at e
  cases e
 | f+1,p,m,hd,e=>by
  unfold SetTable.probe.go at e
  cases hs:t.slot p.j with
  | empty=>
   rw [hs] at e
   cases e
   exact ⟨p.j,by rw [hd],hs⟩
  | dummy=>
   exfalso
   unfold SetTable.slot at hs
   dsimp only at hs
   rw [h.none_] at hs
   split at hs
   ·cases hs
   ·simp [SetTable.has] at hs
  | live i=>
   rw [hs] at e
   dsimp only at e
   rw [hne i] at e
   rw [if_neg Bool.false_ne_true] at e
   refine ZP h hne f _ m ?_ e
   unfold SetTable.advance
   split
   ·exact hd
   ·exact hd
theorem jbL {led:Bool} {t:SetTable} (h:TabOk led t) {hh:Int} {j:Nat} {d:Bool} (e:t.freeSlot hh=some (j,d)):t.place[SetTable.below t.place j]?≠some j:=by
 unfold SetTable.freeSlot at e
 cases hp:t.probe (fun _=>hh+1) hh (t.probeStart hh) with
 | none=>rw [hp] at e;cases e
 | some m=>
  obtain ⟨j',rfl,hs⟩:=ZP h (fun _=>beq_eq_false_iff_ne.mpr (by omega)) _ _ m rfl (show SetTable.probe.go t (fun _=>hh+1) hh _ _=some m from hp)
  rw [hp] at e
  cases e
  unfold SetTable.slot at hs
  dsimp only at hs
  intro z
  split at hs
  ·cases hs
  ·next c=>
   refine c ?_
   have z':t.place[SetTable.below t.place j']?=some j':=z
   rw [z']
   simp
theorem jcU (n:Nat):Up (Array.range n):=by
 unfold Up
 rw [Array.toList_range]
 exact List.pairwise_lt_range
theorem yO {led:Bool} {t:SetTable} (h:t.led=led) (n:Nat):TabOk led (t.standIn n):=⟨h,rfl,jcU n⟩
theorem jdy {led:Bool} {t:SetTable} (h:TabOk led t) {j:Nat} (hj:t.place[SetTable.below t.place j]?≠some j):TabOk led (t.put j).1:=by
 refine ⟨h.led_,?_,jcv h.up hj⟩
 unfold SetTable.put
 dsimp only
 rw [h.none_]
 split
 ·simp [SetTable.eraseAt]
 ·rfl
theorem jcm {led:Bool} {t:SetTable} (h:TabOk led t) (es:Array (Int×Value)) (hh:Int) (x:Value):TabOk led (layNew t es hh x).2.1:=by
 unfold layNew
 split
 ·next slot d e=>
  dsimp only
  unfold SetTable.orStandIn
  split
  ·exact jdy h (jbL h e)
  ·exact yO (jdy h (jbL h e)).led_ _
 ·exact yO h.led_ _
theorem jfM {mask finger moves:Nat} {led plain:Bool} {hashes:Array Int} {t:SetTable} {o:Array Nat} (h:SetTable.laid mask finger moves led plain hashes=some (t,o)):TabOk led t:=by
 unfold SetTable.laid at h
 cases hl:SetTable.layClean mask hashes with
 | none=>rw [hl] at h;cases h
 | some owner=>
  rw [hl] at h
  cases h
  refine ⟨rfl,rfl,?_⟩
  unfold Up
  dsimp only
  have key:∀ l:List Nat,(l.filterMap fun j=>(owner.getD j none).map (fun k=>(j,k))).map (·.1)=l.filter fun j=>(owner.getD j none).isSome:=by
   intro l
   induction l with
   | nil=>rfl
   | cons a l ih=>
    rw [List.filterMap_cons,List.filter_cons]
    cases owner.getD a none with
    | none=>simpa using ih
    | some k=>
     show a :: List.map _ _=_
     rw [ih]
     rfl
  show List.Pairwise _ (List.map _ _)
  rw [key]
  exact List.pairwise_lt_range.sublist List.filter_sublist
theorem jdu {led:Bool} {t:SetTable} (h:TabOk led t) (es:Array (Int×Value)) (n:Nat):TabOk led (relayAll t es n).2.1:=by
 unfold relayAll
 split
 ·next t' o e=>
  dsimp only
  split
  ·have:=jfM (show SetTable.laid _ _ _ _ _ _=some (t',o) from e)
   rw [h.led_] at this
   exact this
  ·exact yO h.led_ _
 ·exact yO h.led_ _
theorem jb9 {led:Bool} {t:SetTable} (h:TabOk led t):TabOk led { t with plain:=false }:=⟨h.led_,h.none_,h.up⟩
abbrev ledOf (w:World):Bool:=!(w.params.followText "set-order")
end L2
namespace PySem
section
variable {prog:Program} {w:World} {A:Around} {E:Value→Shared→Prop} {s:Shared}
theorem ZN (a:Value) {Q₁:Value→Shared→Prop}
  (h:Q₁ (.ref s.heap.objs.size) { s with heap:=s.heap.push { cls:=.type "set",dict:=none,data:=.set #[] 0 (.fresh 0 0 (L2.ledOf w)) } }) :
  codeAny (model prog w) A (.call (.builtin "set.__new__") ⟨[.type "set",a],[]⟩) (wants Q₁ E) s:=by
 refine codeAny_of_tree ?_
 show wpAny _ A.in1 (do checkBuiltinCall "set.__new__" ⟨[.type "set",a],[]⟩;again (.builtin "set.__new__" ⟨[.type "set",a],[]⟩)) _ _ s
 refine wpAny_bind (wpAny_of_eq (F.newCall_set_1 a) (wpAny_pure ⟨plainId_quiet F.plain_set_new _,codeAny_builtin F.entry_set_new ?_⟩))
 rw [Around.under_plainId F.plain_set_new _]
 unfold Builtin.«set.__new__» Builtin.Frozenset.newClass
 have hsub:=sub_set_self
 obtain ⟨hp,g,d,tk,os⟩:=s
 dsimp only
 wp_walk
 refine wpAny_askSetting (wpAny_pure ?_)
 dsimp only
 simp only [newObj]
 refine wpAny_bind (wpAny_alloc (wpAny_pure ?_))
 exact wpAny_pure h
end
namespace F
end F
end PySem
namespace L2
open PySem PySem.Spec PyProof.Rows PySem.W
abbrev jdq (es:Array (Int×Value)) (ep:Nat) (t:SetTable):Obj:={ cls:=.type "set",dict:=none,data:=.set es ep t }
open PySem PySem.Spec PySem.Calls PyProof.Rows PySem.W
theorem Inv.drawn {X:Cx} {pins:List (Addr×Obj)} {σ:St} {H:Hp} {s:Shared} {h':Heap} {d':Drawn} (I:Inv X pins σ H s) (k:∀ b u,s.heap.get? b=some u→h'.get? b=some u):Inv X pins σ H { s with heap:=h',drawn:=d' }:=
 I.call (g':=s.gens) (t':=s.toks) (d':=d') (ch:=[]) (Un.kept k) (I.hok.kept k) I.bare fun _ z=>nomatch z
theorem jcC {X:Cx} {scope:Scope} {own:List Str} {fr:List Nat} {elt tg iter:Expr} {ifs:List Expr} {pos:Pos} {wi:TI} {g:TG} {tt:TT} {te:TE} {use:Option (Value→Sem Unit)} (hc:X.calm=true) (O:CompOk X scope fr) (hi:PI X tg iter wi)
  (hb:∀ s H ex,PG (blk X scope own fr s H ex) tg g∧PTs (blk X scope own fr s H ex) ifs tt∧PE (blk X scope own fr s H ex) elt te)
  (hs:∀ x,foldedSetIterable iter X.env x=pure x) {pins:List (Addr×Obj)} {s:Shared} {σ:St} {H:Hp} {Q:VK} {R:Value→Shared→Prop} (I:Inv X pins σ H s) (h:Yh own fr wi g tt te σ H Q) (hx:∀ e s',X.xe e s'↔False)
  (fin:∀ (p C:Addr) (H':Hp) (s':Shared) (m:Str→Option Value),s'.heap.Ns C m→H' C=none→C≠X.env.locals→(∀ x c,X.env.cells.lookup x=some c→c≠C)→X.s₀.heap.objs.size≤C→(∀ p∈X.pn++pins,p.1≠C)→Inv X pins σ H' s'→(∀ h',Heap.SameBut C s'.heap h'→Inv X pins σ H' { s' with heap:=h' })→Q (.ref p) H'→
   compPost (model X.prog X.w) X.A X.xe use R (.ref p) C (.ok .next) s') :
  wpAny (model X.prog X.w) X.A (comprehension (.ListComp elt [⟨tg,iter,ifs,0⟩] scope pos) scope X.env (firstIterPos [⟨tg,iter,ifs,0⟩] pos) (newList []) false (eval iter X.env) use) R X.xe s:=by
 have hsome:∀ x∈scope.names,x.2=.free→(X.env.cells.lookup x.1).isSome=true:=fun x hx' e=>by
  obtain ⟨c,hc⟩:=I.ok.has x.1 (O.frees x hx' e)
  rw [hc];rfl
 have no:∀ (E:Value→Shared→Prop) (x:Value) (s':Shared),X.xe x s'→E x s':=fun E x s' z=>((hx x s').mp z).elim
 refine wpAny_comprehension_free (cl:=zU X.env.cells scope.names []) rfl hs (KS hsome) O.kind O.loc ?_
 refine thn (hi pins s σ H _ I h) fun v s1 h1=>thn h1 fun itv s2 h2=>?_
 obtain ⟨it,fp,tn,J,H2,e,I2,T,st2,f2,q2⟩:=h2
 subst e
 refine wpAny_newObj_type ?_
 have nw:H2 s2.heap.objs.size=none:=I2.fresh
 obtain ⟨W,⟨m0,w0⟩,turn⟩:=q2 _ nw
 generalize hp:s2.heap.objs.size=p at *
 have I3:Inv X pins σ (upd H2 p (.lst [])) { s2 with heap:=s2.heap.push { cls:=.type "list",dict:=none,data:=.seq ([]:List Value).toArray } }:=by
  have:=I2.lnew (ys:=[]) (its:=[]) (t':=s2.toks) .nil (Nat.zero_le _)
  rw [hp] at this
  exact this
 have lt2:∀ b∈fp,b < s2.heap.objs.size:=fun b hb=>by
  obtain ⟨o,ho,_⟩:=T.obj _ _ st2 b hb
  exact Heap.lt_size ho
 have fpn:∀ b∈fp,(upd H2 p (.lst [])) b=none:=fun b hb=>by
  rw [jB (by rw [← hp];exact Nat.ne_of_lt (lt2 b hb))]
  exact (f2 b hb).1
 generalize hs3:({ s2 with heap:=s2.heap.push { cls:=.type "list",dict:=none,data:=.seq ([]:List Value).toArray } }:Shared)=s3 at *
 have sz3:s3.heap.objs.size=p+1:=by
  rw [← hs3]
  show (s2.heap.push _).objs.size=_
  rw [Heap.size_push,hp]
 have st3:tn 0 s3.heap:=T.keep 0 _ _ st2 fun b hb o e=>by
  rw [← hs3]
  exact Heap.get?_push_of_some _ e
 refine wpAny_newFunctionEnv O.nocell (by intro y hy;simp at hy) (fun h4 hns4 hsb4=>?_) O.kind
 have k4:∀ b o,s3.heap.get? b=some o→h4.get? b=some o:=fun b o e=>hsb4.extBut b o (Nat.ne_of_lt (Heap.lt_size e)) (Heap.get?_push_of_some _ e)
 have hns4':h4.Ns s3.heap.objs.size fun _=>none:=by
  have z:(fun x:Str=>([]:List (Str×Value)).reverse.lookup x)=fun _=>none:=by funext x;rfl
  rw [z] at hns4
  exact hns4
 have fo:∀ b∈fp,JY X pins (upd H2 p (.lst [])) b∧b < s3.heap.objs.size:=fun b hb=>⟨⟨fpn b hb,(f2 b hb).2⟩,by rw [sz3,← hp];exact Nat.lt_succ_of_lt (lt2 b hb)⟩
 have I4:=jbH (own:=own) (fr:=fr) (t1:=s3.toks+([]:List (Str×Value)).length) I3 O fo hns4' k4
 have st4:tn 0 h4:=T.keep 0 _ _ st3 fun b hb o e=>k4 b o e
 obtain ⟨hg,ht,he⟩:=hb s3 (upd H2 p (.lst [])) fp
 have stat:∀ {H':Hp} {pn:List (Addr×Obj)} {s':Shared} {σ':St},Inv (blk X scope own fr s3 (upd H2 p (.lst [])) fp) [] σ' H' s'→(∀ b∈fp,H' b=none)→∀ b∈fp,JY (blk X scope own fr s3 (upd H2 p (.lst [])) fp) [] H' b:=fun {H' pn s' σ'} J hn b hb'=>
  ⟨hn b hb',(J.ok.exf b hb').1,J.ok.exfs b hb',.inl hb',(J.ok.exf b hb').2,fun p hp=>absurd hp (by simp [blk])⟩
 have nocells:∀ x c,X.env.cells.lookup x=some c→c≠s3.heap.objs.size:=fun x c e=>by
  obtain ⟨v,q⟩:=I3.cell x c e
  exact Nat.ne_of_lt q.lt
 have loop:∀ s5:Shared,s5={ s3 with heap:=h4,toks:=s3.toks+([]:List (Str×Value)).length }→
   codeAny (model X.prog X.w) X.A (.compLoop (.ListComp elt [⟨tg,iter,ifs,0⟩] scope pos) 0 (.ref it) (.ref p) (blk X scope own fr s3 (upd H2 p (.lst [])) fp).env) (compPost (model X.prog X.w) X.A X.xe use R (.ref p) s3.heap.objs.size) s5:=by
  rintro s5 rfl
  refine Jm (fun n s'=>∃ i σ' H',Inv (blk X scope own fr s3 (upd H2 p (.lst [])) fp) [] σ' H' s'∧tn i s'.heap∧(∀ b∈fp,H' b=none)∧W i n σ' H') ?_ m0 ⟨0,_,_,I4,st4,fpn,w0⟩
  rintro n s6 ⟨i,σ6,H6,I6,st6,fr6,w6⟩
  rcases turn i n σ6 H6 w6 with ⟨stop,qn⟩ | ⟨go,N,hN,step⟩
  ·refine thn (T.done (blk X scope own fr s3 (upd H2 p (.lst [])) fp) rfl rfl rfl hc i [] s6 σ6 H6 _ I6 (stat (pn:=[]) I6 fr6) st6 stop) fun r s7 ⟨hr,I7⟩=>?_
   subst hr
   obtain ⟨m,hm,_⟩:=I7.loc
   exact fin p _ H6 s7 m hm I7.free (Nat.ne_of_gt I3.lt) nocells I3.sz (fun p hp=>Nat.ne_of_lt (Heap.lt_size (I3.pin p hp).1)) (Jp I3 fo I7 (Heap.SameBut.refl ..)) (fun h' hs'=>Jp I3 fo I7 hs') qn
  ·refine thn (T.item (blk X scope own fr s3 (upd H2 p (.lst [])) fp) rfl rfl rfl hc i [] s6 σ6 H6 _ I6 (stat (pn:=[]) I6 fr6) st6 go) fun r s7 ⟨u,hr,h7⟩=>?_
   subst hr
   refine thn h7 fun _ s8 ⟨x,H8,I8,r8,y8,st8,fr8⟩=>?_
   have I8':=I8.pinned (stat (pn:=[]) I8 fr8) (T.obj _ _ st8)
   refine thn (hg _ s8 σ6 H8 x u _ I8' r8 (step x H8 y8)) fun _ s9 ⟨σ9,H9,I9,q9⟩=>?_
   refine thn (ht _ s9 σ9 H9 _ I9 q9) fun ok s10 ⟨H10,I10,q10⟩=>?_
   have again:∀ {H11:Hp} {s11:Shared},Inv (blk X scope own fr s3 (upd H2 p (.lst [])) fp) ([]++zP fp s8.heap) σ9 H11 s11→(∃ m',m' < n∧W (i+1) m' σ9 H11)→
     ∃ m,m < n∧∃ i σ' H',Inv (blk X scope own fr s3 (upd H2 p (.lst [])) fp) [] σ' H' s11∧tn i s11.heap∧(∀ b∈fp,H' b=none)∧W i m σ' H':=fun {H11 s11} I11 ⟨m',hm,w11⟩=>by
    refine ⟨m',hm,i+1,σ9,H11,I11.unpinned,T.keep _ _ _ st8 fun b hb' o e=>(I11.pin (b,o) (List.mem_append_right _ (List.mem_append_right _ (qi hb' e)))).1,fun b hb'=>?_,w11⟩
    obtain ⟨o,e,d⟩:=T.obj _ _ st8 b hb'
    exact (I11.pin (b,o) (List.mem_append_right _ (List.mem_append_right _ (qi hb' e)))).2.1
   cases ok with
   | false=>
    rw [if_neg Bool.false_ne_true] at q10 ⊢
    exact again I10 (hN _ _ q10)
   | true=>
    rw [if_pos rfl] at q10 ⊢
    refine thn (he _ s10 σ9 H10 _ I10 q10) fun yv s11 ⟨y,H11,I11,r11,ys,hys,hlen,q11⟩=>?_
    have ap:=j0 (X:=blk X scope own fr s3 (upd H2 p (.lst [])) fp) ([]++zP fp s8.heap) s11 σ9 H11 (.ref p) [y] (.ref p) [yv] (fun _ H12=>∃ m',m' < n∧W (i+1) m' σ9 H12) I11 rfl (.cons r11 .nil) ⟨p,ys,y,rfl,rfl,hys,hlen,hN _ _ q11⟩
    exact thn ap fun _ s12 ⟨_,H12,I12,_,q12⟩=>again I12 q12
 refine codeAny_compStart_list (loop _ rfl) (T.self X.A 0 _ _ _ st4 (loop _ rfl))
theorem jax {X:Cx} {scope:Scope} {elt tg iter:Expr} {ifs:List Expr} {pos:Pos} {wi:TI} {g:TG} {tt:TT} {te:TE} {i:Nat} {y:Str} {py spos:Pos} (hN:X.N.Nodup) (hi':X.N[i]?=some y) (hy:Loc X.env.scope y) (own:List Str) (fr:List Nat) (hc:X.calm=true) (O:CompOk X scope fr) (hi:PI X.nox tg iter wi)
  (hb:∀ s H ex,PG (blk X.nox scope own fr s H ex) tg g∧PTs (blk X.nox scope own fr s H ex) ifs tt∧PE (blk X.nox scope own fr s H ex) elt te)
  (hs:∀ x,foldedSetIterable iter X.env x=pure x:=by intro _;rfl)
  (hsw:swapsWith (.ListComp elt [⟨tg,iter,ifs,0⟩] scope pos) (some (.Name y py)) spos.line X.env=pure true:=by rfl)
  (hf:X.fn y=true∨X.env.scope.names.lookup y=some .local:=by first | exact .inl rfl | exact .inr rfl | assumption) :
  PS X.nox (.Assign [.Name y py] (.ListComp elt [⟨tg,iter,ifs,0⟩] scope pos) spos) (YO (Yh own fr wi g tt te) (qd i)):=by
 intro pins s σ H D I h
 rw [exec_Assign_Name_used _ _ _ _ hsw]
 refine wpAny_bind (wpAny_standAt (wpAny_bind ?_))
 show wpAny _ _ (do let _ ← comprehension (.ListComp elt [⟨tg,iter,ifs,0⟩] scope pos) scope X.nox.env _ (newList []) false (eval iter X.nox.env) (some (assign (.Name y py) X.nox.env))) _ _ s
 refine wpAny_bind (wpAny_mono (jcC (X:=X.nox) (use:=some (assign (.Name y py) X.nox.env)) (R:=fun _ s'=>SP X.nox pins D .next s') hc ⟨O.kind,O.nocell,O.loc,O.frees,O.fr⟩ hi hb hs I h (fun _ _=>Iff.rfl)
  fun p C H' s' m hm hC hL hcs hz hpn I' back q=>?_) (fun _ s' hq=>wpAny_pure (wpAny_pure hq)) fun _ _ e=>e)
 show wpAny _ _ (assign (.Name y py) X.nox.env (.ref p)) _ _ _
 refine wpAny_assign_Name (Yk (v:=.ref p) I' hN hi' hy rfl (fun s2 I2 hsb=>?_) hf)
 obtain ⟨a,hsa,ha⟩:=hsb
 have hCa:C≠a:=by
  rcases ha with rfl | e
  ·exact hL
  ·exact fun z=>hcs _ _ e z.symm
 refine ⟨m,hm.sameBut hsa hCa,fun h' hs'=>?_⟩
 exact ⟨_,H',I2.turned (t':=s2.toks) (fun b o hb e=>(hs'.2 b hb).trans e) hC hL (.inr hz) hcs hpn,q⟩
section
variable {X:Cx} {pins:List (Addr×Obj)} {σ:St} {H:Hp} {s:Shared} {tg:Expr}
theorem Inv.relabel {a:Addr} {u v:HO} (I:Inv X pins σ H s) (hu:H a=some u) (h1:∀ xs,u≠.tup xs) (h2:∀ ps,u≠.tbl ps) (h3:∀ o z,X.H₀ a≠some (.frz o z)) (h4:∀ x,u≠.own x) (hv:ObjOk X.prog X.w (upd H a v) s.heap a v):Inv X pins σ (upd H a v) s:=by
 have ne:∀ b,H b=none→b≠a:=fun b n z=>by rw [z,hu] at n;cases n
 have nt:∀ b xs,H b=some (.tup xs)→b≠a:=fun b xs n z=>by rw [z,hu] at n;exact h1 xs (Option.some.inj n)
 have no:∀ b x,H b=some (.own x)→b≠a:=fun b x n z=>by rw [z,hu] at n;exact h4 x (Option.some.inj n)
 refine ⟨I.ok,I.os,I.bare,⟨I.base.keep,I.base.slot,fun b o e n hx=>?_,I.base.there,fun b xs e=>?_,fun b o z e=>?_,fun b ps e=>?_,I.base.stay⟩,I.loc,I.cell,?_,fun x c e=>?_,fun p hp=>?_,fun b o e=>?_,I.len⟩
 ·have q:=I.base.free b o e n hx
  rw [jB (ne b q)];exact q
 ·have q:=I.base.tups b xs e
  rw [jB (nt b xs q)];exact q
 ·have hb:b≠a:=fun z'=>by subst z';exact h3 _ _ e
  rw [jB hb]
  exact I.base.frzs b o z e
 ·obtain ⟨m,q⟩:=I.base.tbls b ps e
  have hb:b≠a:=fun z'=>by rw [z',hu] at q;exact h2 _ (Option.some.inj q)
  exact ⟨m,by rw [jB hb];exact q⟩
 ·rw [jB (ne _ I.free)];exact I.free
 ·rw [jB (ne _ (I.freeC x c e))];exact I.freeC x c e
 ·obtain ⟨q1,q2,q3⟩:=I.pin p hp
  exact ⟨q1,by rw [jB (ne _ q2)];exact q2,q3⟩
 ·by_cases hb:b=a
  ·subst hb
   rw [jg] at e
   cases e
   exact hv
  ·rw [jB hb] at e
   exact (I.hok b o e).stay (fun _ _ _ q=>q) (fun c q=>by rw [jB (no c _ q)];exact q) fun c xs q=>by rw [jB (nt c xs q)];exact q
end
theorem Zm:bootBuiltins "enumerate" = some (.type "enumerate"):=by decide +kernel
def Ite (K:PySem.W.Frag) (l:Addr):It:=
 ⟨fun i H=>∃ xs x,SqL K H l xs∧xs[i]?=some x,fun i H x H'=>∃ t y,H t=none∧(∀ xs,SqL K H l xs→xs[i]?=some y)∧x=.ref t∧H'=upd H t (.tup [.int i,y]),fun i H=>∃ xs,SqL K H l xs∧xs.length≤i⟩
theorem jb5 {P:Program} {w:World} {K:PySem.W.Frag} {elts:List Expr} {x1:Nat} {tp:Pos} (l e it:Addr) (hne:e≠it):Turn P w K (.Tuple elts x1 tp) (Ite K l) [e,it] e (fun i h=>(∃ old,IsEnum h e it i old)∧h.IsListIter it l i) where
 mem:=by simp
 obj:=fun i h st b hb=>by
  obtain ⟨⟨old,h1⟩,o,e2,c,d⟩:=st
  rcases List.mem_cons.mp hb with rfl | hb
  ·exact ⟨_,h1,fun v z=>by cases z⟩
  ·rw [List.mem_singleton.mp hb]
   exact ⟨o,e2,fun v z=>by rw [d] at z;cases z⟩
 keep:=fun i h h' st k=>by
  obtain ⟨⟨old,h1⟩,o,e2,c,d⟩:=st
  exact ⟨⟨old,k e (by simp) _ h1⟩,o,k it (by simp) o e2,c,d⟩
 item:=by
  intro X hP hw hK hc i pins s σ H E I hf st hg
  subst hP hw hK
  obtain ⟨xs,x,hq,hx⟩:=hg
  obtain ⟨⟨old,hE⟩,hit⟩:=st
  obtain ⟨its,rv,p,hz⟩:=I.list hq
  obtain ⟨u,hu,ru⟩:=rv.get hx
  obtain ⟨a0,a1,a2,a3,a4,a5⟩:=hf e (by simp)
  obtain ⟨f0,f1,f2,f3,f4,f5⟩:=hf it (by simp)
  refine wpAny_pyNext_enum_item hE hit p.isList (x:=u) (by simpa using hu) hne fun h' o1 o2 o3 o4 o5=>?_
  refine ⟨_,rfl,wpAny_letOwnedTupleGo_enum (s:={ s with heap:=h',toks:=s.toks+1 }) o1 fun h2 g1 g2=>?_⟩
  have hfr:H s.heap.objs.size=none:=I.hok.fresh (Nat.le_refl _)
  have kp:∀ b o,b≠e→b≠it→s.heap.get? b=some o→h2.get? b=some o:=fun b o hb hb' q=>(g2.2 b hb).trans (o5 b o hb hb' q)
  have nt:∀ b o,s.heap.get? b=some o→b≠s.heap.objs.size:=fun b o q=>Nat.ne_of_lt (Heap.lt_size q)
  have ne:∀ b z,H b=some z→b≠e∧b≠it:=fun b z q=>⟨fun t=>(by rw [t,a0] at q;cases q),fun t=>(by rw [t,f0] at q;cases q)⟩
  have het:s.heap.objs.size≠e:=fun z=>absurd (Heap.lt_size hE) (by rw [← z];exact Nat.lt_irrefl _)
  have I1:Inv X pins σ (upd H s.heap.objs.size (.tup [.int i,x])) { s with heap:=h2,gens:=s.gens,drawn:=s.drawn,toks:=s.toks+1 }:=by
   refine I.step (g':=s.gens) (d':=s.drawn) (ch:=[e,it]) (fun b hb=>?_) (fun b o _ _ hc' q _=>kp b o (fun z=>hc' (by simp [z])) (fun z=>hc' (by simp [z])) q) (fun b o _ _ hc' q _=>⟨o.slots,kp b o (fun z=>hc' (by simp [z])) (fun z=>hc' (by simp [z])) q⟩)
    (fun b o _ q n=>by rw [jB (nt b o q)];exact n) (fun b o hc' q=>⟨o,kp b o (fun z=>hc' (by simp [z])) (fun z=>hc' (by simp [z])) q⟩) (fun b ys q=>by rw [jB (jt q hfr)];exact q) (fun b o z q=>by rw [jB (jt q hfr)];exact q)
    (fun b ps q=>⟨#[],by rw [jB (jt q hfr),q];simp⟩) (fun m hm=>?_) (fun b z q=>?_) I.bare
   ·rcases List.mem_cons.mp hb with rfl | hb
    ·exact ⟨a3,a1,a4,a5⟩
    ·rw [List.mem_singleton.mp hb];exact ⟨f3,f1,f4,f5⟩
   ·obtain ⟨o,es,ep,ho,r⟩:=hm
    exact ⟨o,es,ep,kp _ o (Ne.symm a1) (Ne.symm f1) ho,r⟩
   ·by_cases hb:b=s.heap.objs.size
    ·subst hb
     rw [jg] at q
     cases q
     refine ⟨?_,[Value.int (i:Int) s.toks,u],.cons ⟨_,rfl⟩ (.cons ru .nil),_,(g2.2 _ het).trans o3,rfl,0,rfl⟩
     show 2≤sizeLine
     rw [sizeLine_eq]
     decide
    ·rw [jB hb] at q
     refine (I.hok b z q).stay (fun c v hc' q'=>?_) (fun c q'=>by rw [jB (jt q' hfr)];exact q') fun c ys q'=>by rw [jB (jt q' hfr)];exact q'
     rcases hc' with rfl | hc'
     ·exact kp c v (ne c z q).1 (ne c z q).2 q'
     ·exact kp c v (ne c _ hc').1 (ne c _ hc').2 q'
  refine ⟨.ref s.heap.objs.size,_,I1,rfl,⟨_,x,hfr,fun ys hy=>by rw [I.list_inj hy hq];exact hx,rfl,rfl⟩,⟨⟨_,g1⟩,?_⟩,fun b hb=>?_⟩
  ·obtain ⟨o,z1,z2,z3⟩:=o2
   exact ⟨o,(g2.2 it (Ne.symm hne)).trans z1,z2,z3⟩
  ·rcases List.mem_cons.mp hb with rfl | hb
   ·rw [jB (Ne.symm het)];exact a0
   ·rw [List.mem_singleton.mp hb]
    have:it≠s.heap.objs.size:=by
     obtain ⟨o,z1,_⟩:=hit
     exact nt it o z1
    rw [jB this];exact f0
 done:=by
  intro X hP hw hK hc i pins s σ H E I hf st hg
  subst hP hw hK
  obtain ⟨xs,hq,hx⟩:=hg
  obtain ⟨⟨old,hE⟩,hit⟩:=st
  obtain ⟨its,rv,p,hz⟩:=I.list hq
  obtain ⟨f0,f1,f2,f3,f4,f5⟩:=hf it (by simp)
  have hl:=rv.length
  exact wpAny_pyNext_enum_end (I.ok.hd hc) hE hit p.isList (by simp;omega) fun h' eb=>⟨rfl,I.turned (t':=s.toks) (fun b o hb e=>eb b o hb e) f0 f1 f3 f4 f5⟩
 self:=fun _ _ _ _ _ st h=>by
  obtain ⟨⟨old,hE⟩,_⟩:=st
  exact wpAny_pyIter_enum hE h
section
variable {X:Cx} {elts:List Expr} {x1:Nat} {tp:Pos}
def jgl (K:PySem.W.Frag) (ta:TA):TI:=fun σ H R=>ta σ H fun vs H1=>∃ l,vs=[.ref l]∧(∃ xs,SqL K H1 l xs)∧R (Ite K l) H1
theorem jfb {a:Expr} {ta:TA} {p pos:Pos} (hg:Gl X "enumerate") (hm:X.mg "enumerate" = none) (ha:PA X [a] ta) (hs:starEach [a] X.env=[(false,eval a X.env)]:=by rfl):PI X (.Tuple elts x1 tp) (.Call (.Name "enumerate" p) [a] [] pos) (jgl X.K ta):=by
 intro pins s σ H R I h
 refine Call_ (KH I hg hm Zm (PyProof.Rows.callWith_type1 (thn (ha pos pins s σ H _ I h) fun us s1 ⟨vs,H1,I1,r1,q1⟩=>?_) hs rfl))
 obtain ⟨l,e,⟨xs,hq⟩,q⟩:=q1
 subst e
 obtain ⟨u,rfl,rx⟩:=zz r1
 cases rx
 obtain ⟨its,rv,pl,hz⟩:=I1.list hq
 refine call_enumerate_list pl.isList fun h' g1 g2 g3 g4=>?_
 refine wpAny_pyIter_enum (s:={ s1 with heap:=h' }) g1 ?_
 have I2:Inv X pins σ H1 { s1 with heap:=h' }:=I1.kept (t':=s1.toks) g4
 refine ⟨s1.heap.objs.size+1,[s1.heap.objs.size+1,s1.heap.objs.size],_,_,_,rfl,I2,jb5 l _ _ (Nat.succ_ne_self _),⟨⟨_,g1⟩,g2⟩,fun b hb=>?_,q⟩
 rcases List.mem_cons.mp hb with rfl | hb
 ·exact I1.fpOk (Nat.le_succ _) (I1.hok.fresh (Nat.le_succ _))
 ·rw [List.mem_singleton.mp hb]
  exact I1.fpOk (Nat.le_refl _) (I1.hok.fresh (Nat.le_refl _))
theorem KP {K:PySem.W.Frag} {l:Addr} {xs:List V} {g:TG} {tb:TS} {D:Ends} {σ:St} {H:Hp} (Pv:Nat→St→Hp→Prop) (h0:Pv 0 σ H) (hl:∀ i σ H,i≤xs.length→Pv i σ H→SqL K H l xs)
  (hs:∀ i y σ H t,xs[i]?=some y→Pv i σ H→H t=none→g (.ref t) σ (upd H t (.tup [.int i,y])) fun σ2 H2=>tb { D with nx:=Pv (i+1),ct:=Pv (i+1),bk:=D.nx } σ2 H2) (hd:∀ σ H,Pv xs.length σ H→D.nx σ H) :
  ∃ W:Nat→Nat→St→Hp→Prop,(∃ m,W 0 m σ H)∧∀ i m σ H,W i m σ H→
   ((Ite K l).stop i H∧D.nx σ H)∨((Ite K l).go i H∧∃ N:St→Hp→Prop,(∀ σ' H',N σ' H'→∃ m',m' < m∧W (i+1) m' σ' H')∧∀ x H',(Ite K l).yld i H x H'→g x σ H' fun σ2 H2=>tb { D with nx:=N,ct:=N,bk:=D.nx } σ2 H2):=by
 refine ⟨fun i m σ H=>m=xs.length - i∧i≤xs.length∧Pv i σ H,⟨xs.length,by simp,Nat.zero_le _,h0⟩,?_⟩
 rintro i m σ H ⟨rfl,hi,p⟩
 have q:=hl i σ H hi p
 by_cases hlt:i < xs.length
 ·refine .inr ⟨⟨xs,xs[i],q,by simp [hlt]⟩,Pv (i+1),fun σ' H' p'=>⟨xs.length - (i+1),by omega,rfl,hlt,p'⟩,fun x H' y=>?_⟩
  obtain ⟨t,z,ht,hz,rfl,rfl⟩:=y
  exact hs i z σ H t (hz xs q) p ht
 ·have:i=xs.length:=by omega
  subst this
  exact .inl ⟨⟨xs,q,Nat.le_refl _⟩,hd σ H p⟩
end
end L2
namespace PySem
open AutoSeq1 (wpAny_loadPart')
end PySem
namespace L2
open PySem PySem.Spec PyProof.Rows
open PySem PySem.Spec PyProof.Rows PySem.W
mutual
def dEq:D→D→Bool
 | .int i,.int j=>i == j
 | .str x,.str y=>x == y
 | .tup a,.tup b=>dEqL a b
 | _,_=>false
def dEqL:List D→List D→Bool
 | [],[]=>true
 | a :: as,b :: bs=>dEq a b && dEqL as bs
 | _,_=>false
end
mutual
theorem kl:∀ {a b:D},dEq a b=true↔a=b
 | .int i,.int j=>by unfold dEq;rw [beq_iff_eq];exact ⟨(fun h=>by rw [h]),(fun h=>by injection h)⟩
 | .str i,.str j=>by unfold dEq;rw [beq_iff_eq];exact ⟨(fun h=>by rw [h]),(fun h=>by injection h)⟩
 | .tup a,.tup b=>by unfold dEq;rw [dEqL_iff];exact ⟨(fun h=>by rw [h]),(fun h=>by injection h)⟩
 | .int i,.str j=>by unfold dEq;exact ⟨(fun h=>by cases h),(fun h=>by cases h)⟩
 | .int i,.tup j=>by unfold dEq;exact ⟨(fun h=>by cases h),(fun h=>by cases h)⟩
 | .str i,.int j=>by unfold dEq;exact ⟨(fun h=>by cases h),(fun h=>by cases h)⟩
 | .str i,.tup j=>by unfold dEq;exact ⟨(fun h=>by cases h),(fun h=>by cases h)⟩
 | .tup i,.int j=>by unfold dEq;exact ⟨(fun h=>by cases h),(fun h=>by cases h)⟩
 | .tup i,.str j=>by unfold dEq;exact ⟨(fun h=>by cases h),(fun h=>by cases h)⟩
theorem dEqL_iff:∀ {a b:List D},dEqL a b=true↔a=b
 | [],[]=>by unfold dEqL;exact ⟨(fun _=>rfl),(fun _=>rfl)⟩
 | a :: as,b :: bs=>by
  unfold dEqL
  rw [Bool.and_eq_true,kl,dEqL_iff]
  exact ⟨(fun h=>by rw [h.1,h.2]),(fun h=>by injection h with h1 h2;exact ⟨h1,h2⟩)⟩
 | [],b :: bs=>by unfold dEqL;exact ⟨(fun h=>by cases h),(fun h=>by cases h)⟩
 | a :: as,[]=>by unfold dEqL;exact ⟨(fun h=>by cases h),(fun h=>by cases h)⟩
end
instance:DecidableEq D:=fun a b=>if h:dEq a b=true then isTrue (kl.mp h) else isFalse fun e=>h (kl.mpr e)
theorem jbR (a b:D):dEq a b=decide (a=b):=by
 apply Bool.eq_iff_iff.mpr
 rw [kl,decide_eq_true_iff]
theorem KR (a b:List D):dEqL a b=decide (a=b):=by
 apply Bool.eq_iff_iff.mpr
 rw [dEqL_iff,decide_eq_true_iff]
mutual
theorem Jg {H:Hp}:∀ {d d':D} {v:V},Held H d v→Held H d' v→d=d'
 | .int i,.int j,v,h,h'=>by unfold Held at h h';subst h;injection h' with h';rw [h']
 | .str i,.str j,v,h,h'=>by unfold Held at h h';subst h;injection h' with h';rw [h']
 | .tup a,.tup b,v,h,h'=>by
  unfold Held at h h'
  obtain ⟨p,xs,rfl,e,h⟩:=h
  obtain ⟨p',xs',e0,e',h'⟩:=h'
  injection e0 with e0
  subst e0
  rw [e] at e'
  injection e' with e'
  injection e' with e'
  subst e'
  rw [heldL_inj h h']
 | .int i,.str j,v,h,h'=>by unfold Held at h h';subst h;cases h'
 | .int i,.tup j,v,h,h'=>by unfold Held at h h';subst h;obtain ⟨p,xs,e,_⟩:=h';cases e
 | .str i,.int j,v,h,h'=>by unfold Held at h h';subst h;cases h'
 | .str i,.tup j,v,h,h'=>by unfold Held at h h';subst h;obtain ⟨p,xs,e,_⟩:=h';cases e
 | .tup i,.int j,v,h,h'=>by unfold Held at h h';subst h';obtain ⟨p,xs,e,_⟩:=h;cases e
 | .tup i,.str j,v,h,h'=>by unfold Held at h h';subst h';obtain ⟨p,xs,e,_⟩:=h;cases e
theorem heldL_inj {H:Hp}:∀ {d d':List D} {v:List V},HeldL H d v→HeldL H d' v→d=d'
 | [],[],_,_,_=>rfl
 | a :: as,b :: bs,v,h,h'=>by
  unfold HeldL at h h'
  obtain ⟨u,r,rfl,h1,h2⟩:=h
  obtain ⟨u',r',e,h1',h2'⟩:=h'
  injection e with e1 e2
  subst e1 e2
  rw [Jg h1 h1',heldL_inj h2 h2']
 | [],b :: bs,v,h,h'=>by unfold HeldL at h h';subst h;obtain ⟨u',r',e,_⟩:=h';cases e
 | a :: as,[],v,h,h'=>by unfold HeldL at h h';subst h';obtain ⟨u',r',e,_⟩:=h;cases e
end
theorem zS:∀ (a b:List D),((List.range (min a.length b.length)).all (fun j=>dEq (a.getD j (.int 0)) (b.getD j (.int 0))) && a.length == b.length)=dEqL a b:=by
 intro a b
 apply Bool.eq_iff_iff.mpr
 rw [dEqL_iff,Bool.and_eq_true,List.all_eq_true,beq_iff_eq]
 constructor
 ·rintro ⟨h1,h2⟩
  apply List.ext_getElem h2
  intro j hj hj'
  have:=h1 j (List.mem_range.mpr (by omega))
  rw [kl] at this
  simpa [hj,hj'] using this
 ·rintro rfl
  exact ⟨fun j _=>kl.mpr rfl,rfl⟩
section
variable {X:Cx} {pins:List (Addr×Obj)} {σ:St} {H:Hp} {s:Shared}
theorem jbN (I:Inv X pins σ H s):∀ (n:Nat) (A:Around) (d d':D) (x y:V) (u v:Value),d.depth≤n→A.units+n < cLine→Held H d x→Held H d' y→RelV x u→RelV y v→SeqAt.EqAt A s u v (dEq d d'):=by
 intro n
 induction n with
 | zero=>
  intro A d d' x y u v hd hA hx hy ru rv
  have hA':A.units < cLine:=by omega
  cases d with
  | int i=>
   unfold Held at hx;subst hx
   obtain ⟨t,rfl⟩:=ru
   cases d' with
   | int j=>
    unfold Held at hy;subst hy
    obtain ⟨t',rfl⟩:=rv
    unfold dEq
    exact SeqAt.EqAt.int_int i t j t'
   | str j=>
    unfold Held at hy;subst hy
    obtain ⟨t',rfl⟩:=rv
    unfold dEq
    exact SeqAt.EqAt.int_str i t j t'
   | tup ds=>
    unfold Held at hy
    obtain ⟨b,ys,rfl,hb,_⟩:=hy
    cases rv
    obtain ⟨its,_,tb,_⟩:=I.tuple (SqT.of hb)
    unfold dEq
    exact SeqAt.EqAt.int_tuple i t (show s.heap.IsTuple b its.toArray from tb) hA'
  | str i=>
   unfold Held at hx;subst hx
   obtain ⟨t,rfl⟩:=ru
   cases d' with
   | int j=>
    unfold Held at hy;subst hy
    obtain ⟨t',rfl⟩:=rv
    unfold dEq
    exact SeqAt.EqAt.str_int i t j t'
   | str j=>
    unfold Held at hy;subst hy
    obtain ⟨t',rfl⟩:=rv
    unfold dEq
    exact SeqAt.EqAt.str_str i t j t'
   | tup ds=>
    unfold Held at hy
    obtain ⟨b,ys,rfl,hb,_⟩:=hy
    cases rv
    obtain ⟨its,_,tb,_⟩:=I.tuple (SqT.of hb)
    unfold dEq
    exact SeqAt.EqAt.str_tuple i t (show s.heap.IsTuple b its.toArray from tb) hA'
  | tup ds=>unfold D.depth at hd;omega
 | succ n ih=>
  intro A d d' x y u v hd hA hx hy ru rv
  have hA':A.units < cLine:=by omega
  cases d with
  | int i=>exact ih A (.int i) d' x y u v (by unfold D.depth;omega) (by omega) hx hy ru rv
  | str z=>exact ih A (.str z) d' x y u v (by unfold D.depth;omega) (by omega) hx hy ru rv
  | tup ds=>
   have hx0:=hx
   unfold Held at hx
   obtain ⟨a,xs,rfl,ha,hxs⟩:=hx
   cases ru
   obtain ⟨its,rva,ta,_⟩:=I.tuple (SqT.of ha)
   cases d' with
   | int j=>
    unfold Held at hy;subst hy
    obtain ⟨t',rfl⟩:=rv
    unfold dEq
    exact SeqAt.EqAt.tuple_int j t' (show s.heap.IsTuple a its.toArray from ta) hA'
   | str j=>
    unfold Held at hy;subst hy
    obtain ⟨t',rfl⟩:=rv
    unfold dEq
    exact SeqAt.EqAt.tuple_str j t' (show s.heap.IsTuple a its.toArray from ta) hA'
   | tup ds'=>
    have hy0:=hy
    unfold Held at hy
    obtain ⟨b,ys,rfl,hb,hys⟩:=hy
    cases rv
    by_cases hab:a=b
    ·subst hab
     rw [kl.mpr (Jg hx0 hy0)]
     exact SeqAt.EqAt.same _
    ·obtain ⟨its2,rvb,tb,_⟩:=I.tuple (SqT.of hb)
     refine SeqAt.EqAt.of_refs hab ?_
     have l1:=hxs.length
     have l2:=hys.length
     have l3:=rva.length
     have l4:=rvb.length
     have key:=SeqAt.RcAt.tuples (A:=A) (s:=s) (e:=fun j=>dEq (ds.getD j (.int 0)) (ds'.getD j (.int 0))) (show s.heap.IsTuple a its.toArray from ta) (show s.heap.IsTuple b its2.toArray from tb) (by omega) (fun j h1 h2=>by
      have hj:j < ds.length:=by
       have:j < its.length:=by simpa using h1
       omega
      have hj':j < ds'.length:=by
       have:j < its2.length:=by simpa using h2
       omega
      have ej:ds[j]?=some ds[j]:=List.getElem?_eq_getElem hj
      obtain ⟨x',hx',gx⟩:=hxs.get ej
      obtain ⟨y',hy',gy⟩:=hys.get (List.getElem?_eq_getElem hj')
      obtain ⟨u',hu',ru'⟩:=rva.get hx'
      obtain ⟨v',hv',rv'⟩:=rvb.get hy'
      have eu:its.toArray[j]=u':=by
       have:=(List.getElem?_eq_some_iff.mp hu').2
       simpa using this
      have ev:its2.toArray[j]=v':=by
       have:=(List.getElem?_eq_some_iff.mp hv').2
       simpa using this
      rw [eu,ev]
      unfold D.depth at hd
      have g1:ds.getD j (.int 0)=ds[j]:=by simp [hj]
      have g2:ds'.getD j (.int 0)=ds'[j]:=by simp [hj']
      rw [g1,g2]
      exact ih A.in1 ds[j] ds'[j] x' y' u' v' (by have:=D.depthL_get ej;omega) (by show A.units+1+n < cLine;omega) gx gy ru' rv')
     have e:((List.range (min its.toArray.size its2.toArray.size)).all (fun j=>dEq (ds.getD j (.int 0)) (ds'.getD j (.int 0))) && its.toArray.size == its2.toArray.size)=dEqL ds ds':=by
      have e1:its.toArray.size=ds.length:=by simp;omega
      have e2:its2.toArray.size=ds'.length:=by simp;omega
      rw [e1,e2]
      exact zS ds ds'
     rw [e] at key
     unfold dEq
     exact key
theorem zx (I:Inv X pins σ H s) {n:Nat} {A:Around} {ds ds':List D} {xs ys:List V} {its its2:List Value} (hd:D.depthL ds≤n) (hA:A.units+n < cLine) (hxs:HeldL H ds xs) (hys:HeldL H ds' ys) (rva:Vals xs its) (rvb:Vals ys its2) :
  ∀ j (h1:j < its.toArray.size) (h2:j < its2.toArray.size),SeqAt.EqAt A s its.toArray[j] its2.toArray[j] (dEq (ds.getD j (.int 0)) (ds'.getD j (.int 0))):=fun j h1 h2=>by
 have l1:=hxs.length
 have l2:=hys.length
 have l3:=rva.length
 have l4:=rvb.length
 have hj:j < ds.length:=by
  have:j < its.length:=by simpa using h1
  omega
 have hj':j < ds'.length:=by
  have:j < its2.length:=by simpa using h2
  omega
 have ej:ds[j]?=some ds[j]:=List.getElem?_eq_getElem hj
 obtain ⟨x',hx',gx⟩:=hxs.get ej
 obtain ⟨y',hy',gy⟩:=hys.get (List.getElem?_eq_getElem hj')
 obtain ⟨u',hu',ru'⟩:=rva.get hx'
 obtain ⟨v',hv',rv'⟩:=rvb.get hy'
 have eu:its.toArray[j]=u':=by
  have:=(List.getElem?_eq_some_iff.mp hu').2
  simpa using this
 have ev:its2.toArray[j]=v':=by
  have:=(List.getElem?_eq_some_iff.mp hv').2
  simpa using this
 rw [eu,ev]
 have g1:ds.getD j (.int 0)=ds[j]:=by simp [hj]
 have g2:ds'.getD j (.int 0)=ds'[j]:=by simp [hj']
 rw [g1,g2]
 exact jbN I n A ds[j] ds'[j] x' y' u' v' (by have:=D.depthL_get ej;omega) hA gx gy ru' rv'
theorem jii (n:Nat) (hu:X.A.units+1+n < cLine):OpR X (compareOp .Eq) (fun x y H Q=>∃ a b xs ys ds ds',x=.ref a∧y=.ref b∧H a=some (.tup xs)∧H b=some (.tup ys)∧D.depthL ds≤n∧HeldL H ds xs∧HeldL H ds' ys∧Q (.bl (decide (ds=ds'))) H):=by
 intro pins s σ H x y v u Q I rx ry h
 obtain ⟨a,b,xs,ys,ds,ds',rfl,rfl,ha,hb,hd,hxs,hys,q⟩:=h
 cases rx;cases ry
 obtain ⟨its,rva,ta,_⟩:=I.tuple (SqT.of ha)
 obtain ⟨its2,rvb,tb,_⟩:=I.tuple (SqT.of hb)
 have l1:=hxs.length
 have l2:=hys.length
 have l3:=rva.length
 have l4:=rvb.length
 have key:=SeqAt.RcAt.tuples (A:=X.A) (s:=s) (e:=fun j=>dEq (ds.getD j (.int 0)) (ds'.getD j (.int 0))) (show s.heap.IsTuple a its.toArray from ta) (show s.heap.IsTuple b its2.toArray from tb) (by omega) (zx I (A:=X.A.in1) hd (by show X.A.units+1+n < cLine;exact hu) hxs hys rva rvb)
 have e:((List.range (min its.toArray.size its2.toArray.size)).all (fun j=>dEq (ds.getD j (.int 0)) (ds'.getD j (.int 0))) && its.toArray.size == its2.toArray.size)=decide (ds=ds'):=by
  have e1:its.toArray.size=ds.length:=by simp;omega
  have e2:its2.toArray.size=ds'.length:=by simp;omega
  rw [e1,e2,zS,KR]
 rw [e] at key
 exact key X.prog X.w X.xe _ ⟨.bl (decide (ds=ds')),H,I,rfl,q⟩
theorem jfn (n:Nat) (hu:X.A.units+1+n < cLine):OpR X (compareOp .NotEq) (fun x y H Q=>∃ a b xs ys ds ds',x=.ref a∧y=.ref b∧H a=some (.tup xs)∧H b=some (.tup ys)∧D.depthL ds≤n∧HeldL H ds xs∧HeldL H ds' ys∧Q (.bl (!decide (ds=ds'))) H):=by
 intro pins s σ H x y v u Q I rx ry h
 obtain ⟨a,b,xs,ys,ds,ds',rfl,rfl,ha,hb,hd,hxs,hys,q⟩:=h
 cases rx;cases ry
 obtain ⟨its,rva,ta,_⟩:=I.tuple (SqT.of ha)
 obtain ⟨its2,rvb,tb,_⟩:=I.tuple (SqT.of hb)
 have l1:=hxs.length
 have l2:=hys.length
 have l3:=rva.length
 have l4:=rvb.length
 have key:=SeqAt.RcNeAt.tuples (A:=X.A) (s:=s) (e:=fun j=>dEq (ds.getD j (.int 0)) (ds'.getD j (.int 0))) (show s.heap.IsTuple a its.toArray from ta) (show s.heap.IsTuple b its2.toArray from tb) (by omega) (zx I (A:=X.A.in1) hd (by show X.A.units+1+n < cLine;exact hu) hxs hys rva rvb)
 have e:(!((List.range (min its.toArray.size its2.toArray.size)).all (fun j=>dEq (ds.getD j (.int 0)) (ds'.getD j (.int 0))) && its.toArray.size == its2.toArray.size))=!decide (ds=ds'):=by
  have e1:its.toArray.size=ds.length:=by simp;omega
  have e2:its2.toArray.size=ds'.length:=by simp;omega
  rw [e1,e2,zS,KR]
 rw [e] at key
 exact key X.prog X.w X.xe _ ⟨.bl (!decide (ds=ds')),H,I,rfl,q⟩
theorem jbV {ds ds':List D} (h:ds.length=ds'.length):((List.range ds.length).all fun j=>dEq (ds.getD j (.int 0)) (ds'.getD j (.int 0)))=decide (ds=ds'):=by
 have:=zS ds ds'
 rw [← h,Nat.min_self,beq_self_eq_true,Bool.and_true,KR] at this
 exact this
theorem jbz (n:Nat) (hu:X.A.units+1+n < cLine):OpR X (compareOp .Eq) (fun x y H Q=>∃ a b xs ys ds ds',x=.ref a∧y=.ref b∧H a=some (.lst xs)∧H b=some (.lst ys)∧D.depthL ds≤n∧HeldL H ds xs∧HeldL H ds' ys∧Q (.bl (decide (ds=ds'))) H):=by
 intro pins s σ H x y v u Q I rx ry h
 obtain ⟨a,b,xs,ys,ds,ds',rfl,rfl,ha,hb,hd,hxs,hys,q⟩:=h
 cases rx;cases ry
 obtain ⟨its,rva,ta,_⟩:=I.list (SqL.of ha)
 obtain ⟨its2,rvb,tb,_⟩:=I.list (SqL.of hb)
 have l1:=hxs.length
 have l2:=hys.length
 have l3:=rva.length
 have l4:=rvb.length
 have e1:its.toArray.size=ds.length:=by simp;omega
 have e2:its2.toArray.size=ds'.length:=by simp;omega
 by_cases hl:ds.length=ds'.length
 ·have key:=SeqAt.RcAt.lists (A:=X.A) (s:=s) (e:=fun j=>dEq (ds.getD j (.int 0)) (ds'.getD j (.int 0))) ta.isList tb.isList (by rw [e1,e2,hl]) (by omega) (zx I (A:=X.A.in1) hd (by show X.A.units+1+n < cLine;exact hu) hxs hys rva rvb)
  rw [e1,jbV hl] at key
  exact key X.prog X.w X.xe _ ⟨.bl (decide (ds=ds')),H,I,rfl,q⟩
 ·have key:=SeqAt.RcAt.lists_lengths (A:=X.A) (s:=s) ta.isList tb.isList (by rw [e1,e2];simpa using hl) (by omega)
  rw [decide_eq_false (fun z=>hl (by rw [z]))] at q
  exact key X.prog X.w X.xe _ ⟨.bl false,H,I,rfl,q⟩
theorem jbx (n:Nat) (hu:X.A.units+1+n < cLine):OpR X (compareOp .NotEq) (fun x y H Q=>∃ a b xs ys ds ds',x=.ref a∧y=.ref b∧H a=some (.lst xs)∧H b=some (.lst ys)∧D.depthL ds≤n∧HeldL H ds xs∧HeldL H ds' ys∧Q (.bl (!decide (ds=ds'))) H):=by
 intro pins s σ H x y v u Q I rx ry h
 obtain ⟨a,b,xs,ys,ds,ds',rfl,rfl,ha,hb,hd,hxs,hys,q⟩:=h
 cases rx;cases ry
 obtain ⟨its,rva,ta,_⟩:=I.list (SqL.of ha)
 obtain ⟨its2,rvb,tb,_⟩:=I.list (SqL.of hb)
 have l1:=hxs.length
 have l2:=hys.length
 have l3:=rva.length
 have l4:=rvb.length
 have e1:its.toArray.size=ds.length:=by simp;omega
 have e2:its2.toArray.size=ds'.length:=by simp;omega
 by_cases hl:ds.length=ds'.length
 ·have key:=SeqAt.RcNeAt.lists (A:=X.A) (s:=s) (e:=fun j=>dEq (ds.getD j (.int 0)) (ds'.getD j (.int 0))) ta.isList tb.isList (by rw [e1,e2,hl]) (by omega) (zx I (A:=X.A.in1) hd (by show X.A.units+1+n < cLine;exact hu) hxs hys rva rvb)
  rw [e1,jbV hl] at key
  exact key X.prog X.w X.xe _ ⟨.bl (!decide (ds=ds')),H,I,rfl,q⟩
 ·have key:=SeqAt.RcNeAt.lists_lengths (A:=X.A) (s:=s) ta.isList tb.isList (by rw [e1,e2];simpa using hl) (by omega)
  rw [decide_eq_false (fun z=>hl (by rw [z]))] at q
  exact key X.prog X.w X.xe _ ⟨.bl true,H,I,rfl,q⟩
end
def LikeV (K:PySem.W.Frag) (H:Hp):Nat→V→V→Prop
 | 0,x,y=>(∃ i,x=.int i∧y=.int i)∨∃ z,x=.str z∧y=.str z
 | n+1,x,y=>LikeV K H n x y∨
  (∃ a b xs ys,x=.ref a∧y=.ref b∧SqT K H a xs∧SqT K H b ys∧xs.length=ys.length∧∀ (j:Nat) x' y',xs[j]?=some x'→ys[j]?=some y'→LikeV K H n x' y')∨
  ∃ a b xs ys,x=.ref a∧y=.ref b∧SqL K H a xs∧SqL K H b ys∧xs.length=ys.length∧∀ (j:Nat) x' y',xs[j]?=some x'→ys[j]?=some y'→LikeV K H n x' y'
theorem LikeV.up {K:PySem.W.Frag} {H:Hp} {n m:Nat} {x y:V} (h:LikeV K H n x y) (hm:n≤m):LikeV K H m x y:=by
 induction hm with
 | refl=>exact h
 | step _ ih=>exact .inl ih
theorem ZD:∀ {ys:List Str} {its:List Value},Vals (ys.map V.str) its→StrsAre its ys
 | [],_,r=>by cases r;exact .nil
 | y :: ys,_,r=>by
  cases r with
  | cons h t=>
   obtain ⟨k,rfl⟩:=h
   exact .cons y k (ZD t)
theorem jfH {X:Cx}:MtR X "str.join" (fun x xs H Q=>∃ (sep:Str) (l:Addr) (ys:List Str),x=.str sep∧xs=[.ref l]∧SqL X.K H l (ys.map V.str)∧(ys.map (·.length)).sum+ys.length * sep.length≤16777216∧Q (.str (Txt.join sep ys)) H):=by
 intro pins s σ H x xs v us Q I rx rs h
 obtain ⟨sep,l,ys,rfl,rfl,hl,hb,q⟩:=h
 obtain ⟨t,rfl⟩:=rx
 obtain ⟨u,rfl,ru⟩:=zz rs
 cases ru
 obtain ⟨its,rv,pl,hz⟩:=I.list hl
 refine join_list pl.isList (by simpa using ZD rv) hb fun t' k=>?_
 exact ⟨.str (Txt.join sep ys),H,I.kept (t':=k) fun b o e=>e,⟨t',rfl⟩,q⟩
abbrev kZ (v d:Addr):HO:=.ext fun h=>h.IsValuesView v d
theorem Yu {X:Cx}:MtR X "dict.values" (fun x xs H Q=>∃ (d:Addr) (kvs:List (Key×V)),x=.ref d∧xs=[]∧H d=some (.dK kvs)∧∀ v,H v=none→Q (.ref v) (upd H v (kZ v d))):=by
 intro pins s σ H x xs v us Q I rx rs h
 obtain ⟨d,kvs,rfl,rfl,hd,q⟩:=h
 cases rx
 cases rs
 obtain ⟨hz,lo,vs,rel,hD⟩:=I.hok d _ hd
 refine call_meetsIn PySem.F.slot_dict_values hD.typeIs PySem.F.entry_dict_values (PySem.F.args_dict_values_1 _) (meets_dict_values (j3 X.prog X.w) d lo) ⟨⟨vs,hD⟩,?_⟩
 refine ⟨.ref s.heap.objs.size,_,I.laid (t':=s.toks) (fun b u e=>Heap.get?_push_of_some _ e) (Nat.le_refl _) (show ObjOk X.prog X.w _ _ _ (kZ s.heap.objs.size d) from ⟨⟨_,Heap.get?_push_size _ rfl,rfl,rfl⟩,⟨_,Heap.get?_push_size _ rfl⟩,fun h1 h2 x k=>?_⟩),rfl,q _ (I.hok.fresh (Nat.le_refl _))⟩
 obtain ⟨o,e1,e2⟩:=x
 exact ⟨o,k o e1,e2⟩
theorem jbD:∀ {kvs:List (Key×V)} {vs:List (Key×Value)},KV kvs vs→Vals (kvs.map (·.2)) (vs.map (·.2))
 | [],[],_=>.nil
 | p :: r,q :: t,h=>by
  unfold KV at h
  cases h with
  | cons h1 h2=>exact .cons h1.2 (jbD h2)
def jga (t:TS):TS:=fun D σ H=>∃ J:St→Hp→Prop,t { D with nx:=J } σ H∧∀ σ' H',J σ' H'→D.nx σ' H'
theorem je4 {X:Cx} {st:Stmt} {t:TS} (h:PS X st t):PS X st (jga t):=by
 intro pins s σ H D I q
 obtain ⟨J,q,k⟩:=q
 refine thn (h pins s σ H _ I q) fun f s1 q1=>?_
 cases f with
 | next=>
  obtain ⟨σ',H',I',e⟩:=q1
  exact ⟨σ',H',I',k _ _ e⟩
 | cont=>exact q1
 | brk=>exact q1
 | ret v=>exact q1
end L2
namespace LW
open PySem L2
mutual
theorem jbK {H H':Hp} (e:∀ b xs,H b=some (.tup xs)→H' b=some (.tup xs)):∀ {d:D} {v:V},Held H d v→Held H' d v
 | .int i,v,h=>by unfold Held at h ⊢;exact h
 | .str x,v,h=>by unfold Held at h ⊢;exact h
 | .tup ds,v,h=>by
  unfold Held at h ⊢
  obtain ⟨a,xs,e1,e2,e3⟩:=h
  exact ⟨a,xs,e1,e a _ e2,heldL_tk e e3⟩
theorem heldL_tk {H H':Hp} (e:∀ b xs,H b=some (.tup xs)→H' b=some (.tup xs)):∀ {ds:List D} {vs:List V},HeldL H ds vs→HeldL H' ds vs
 | [],vs,h=>by unfold HeldL at h ⊢;exact h
 | d :: ds,vs,h=>by
  unfold HeldL at h ⊢
  obtain ⟨v,r,e1,e2,e3⟩:=h
  exact ⟨v,r,e1,jbK e e2,heldL_tk e e3⟩
end
def TK (G G':Hp):Prop:=∀ b xs,G b=some (.tup xs)→G' b=some (.tup xs)
theorem TK.trans {G G1 G2:Hp} (h:TK G G1) (h':TK G1 G2):TK G G2:=fun b xs e=>h' b xs (h b xs e)
theorem TK.same {G G':Hp} (h:Same G G'):TK G G':=fun b xs e=>h b _ e
theorem TK.heldL {G G':Hp} (h:TK G G') {d:List D} {v:List V} (x:HeldL G d v):HeldL G' d v:=heldL_tk h x
theorem TK.held {G G':Hp} (h:TK G G') {d:D} {v:V} (x:Held G d v):Held G' d v:=jbK h x
end LW
namespace L2
open PySem PySem.Spec PyProof.Rows PySem.W
abbrev RD:=St→Hp→D→Prop
abbrev RDL:=St→Hp→List D→Prop
def tHD (R:RD):TE:=fun σ H Q=>∃ d,R σ H d∧∀ v H',Same H H'→Held H' d v→Q v H'
def jij (R:RDL):TA:=fun σ H Q=>∃ ds,R σ H ds∧∀ vs H',Same H H'→HeldL H' ds vs→Q vs H'
structure PD (X:Cx) (e:Expr) (R:RD):Prop where
 h:PE X e (tHD R)
 m:∀ {σ H H' d},Same H H'→R σ H d→R σ H' d
structure PDs (X:Cx) (es:List Expr) (R:RDL):Prop where
 h:PA X es (jij R)
 m:∀ {σ H H' d},Same H H'→R σ H d→R σ H' d
def rV (i:Nat):RD:=fun σ H d=>∃ v,σ[i]?=some (some v)∧Held H d v
def rK (c:D):RD:=fun _ _ d=>d=c
def rN:RDL:=fun _ _ ds=>ds=[]
def rC (R:RD) (Rs:RDL):RDL:=fun σ H ds=>∃ d r,ds=d :: r∧R σ H d∧Rs σ H r
def rT (R:RDL):RD:=fun σ H d=>∃ ds,d=.tup ds∧ds.length≤1000∧R σ H ds
def rE (t:TE):RD:=fun σ H d=>∀ G,Same H G→∀ Q:VK,(∀ v G',Same G G'→Held G' d v→Q v G')→t σ G Q
theorem PE.weak {X:Cx} {e:Expr} {t t':TE} (h:PE X e t) (w:∀ σ H Q,t' σ H Q→t σ H Q):PE X e t':=fun pins s σ H Q I q=>h pins s σ H Q I (w σ H Q q)
theorem PA.weak {X:Cx} {es:List Expr} {t t':TA} (h:PA X es t) (w:∀ σ H Q,t' σ H Q→t σ H Q):PA X es t':=fun pos pins s σ H Q I q=>h pos pins s σ H Q I (w σ H Q q)
theorem fQ {a b c} (h:FnScope a b c:=by exact ⟨rfl,rfl,rfl,by decide +kernel,rfl,by decide +kernel,by decide +kernel⟩):FnScope a b c:=h
theorem oQ {p q:Prop} (h:p∨q:=by first|exact .inl rfl|exact .inr rfl):p∨q:=h
theorem jit {i:Nat} {v:V} {σ σ':St} {H:Hp} {Q:St→Hp→Prop} (e:σ.set i (some v)=σ') (h:Q σ' H):qd i v σ H Q:=by subst e;exact h
theorem gQ {i:Nat} {v:V} {σ σ':St} {H:Hp} {Q:St→Hp→Prop} (h:Q σ' H) (e:σ.set i (some v)=σ':=by simp only [List.set_cons_succ,List.set_cons_zero];rfl):qd i v σ H Q:=jit e h
theorem jI {t:TS} {D:Ends} {σ σ':St} {H:Hp} (e:σ=σ') (h:t D σ' H):t D σ H:=by subst e;exact h
theorem jj {H:Hp} {p:Addr} (h:H p=none) (o:HO):Same H (upd H p o):=fun b u q=>by rw [jB (jt q h)];exact q
theorem zc (H:Hp):Same H H:=fun _ _ e=>e
section
variable {X:Cx}
theorem ke (i:Nat) {x:Str} {pos:Pos} (hN:X.N[i]?=some x:=by rfl) (hv:Vis X.env.scope x:=by first | exact Or.inl rfl | exact Or.inr (Or.inl rfl) | exact Or.inr (Or.inr rfl)) (hd:(x == ("__debug__" : Str))=false:=by decide)
  (hcd:(x == ("__classdict__" : Str))=false:=by decide):PD X (.Name x pos) (rV i):=
 ⟨(jdE hN hv hd hcd).weak fun σ H Q ⟨d,⟨v,e,hv⟩,q⟩=>⟨v,e,q v H (zc H) hv⟩,fun s ⟨v,e,h⟩=>⟨v,e,h.mono s⟩⟩
theorem qv {i j pos}:PD X (.Constant (.int i) j pos) (rK (.int i)):=⟨jdJ.weak fun σ H Q ⟨d,e,q⟩=>by cases e;exact q _ H (zc H) jK,fun _ h=>h⟩
theorem kz {x j pos}:PD X (.Constant (.str x) j pos) (rK (.str x)):=⟨jdG.weak fun σ H Q ⟨d,e,q⟩=>by cases e;exact q _ H (zc H) jA,fun _ h=>h⟩
theorem jhR {e:Expr} {t:TE} (h:PE X e t):PD X e (rE t):=⟨h.weak fun σ H Q ⟨d,r,q⟩=>r H (zc H) Q q,fun s r G sG Q q=>r G (s.trans sG) Q q⟩
theorem jN:PDs X [] rN:=⟨jdP.weak fun σ H Q ⟨d,e,q⟩=>by cases e;exact q _ H (zc H) jw,fun _ h=>h⟩
theorem jr {e:Expr} {es:List Expr} {R:RD} {Rs:RDL} (h:PD X e R) (hs:PDs X es Rs) (hp:qG e=true:=by rfl):PDs X (e :: es) (rC R Rs):=by
 refine ⟨(jhS h.h hs.h hp).weak fun σ H Q ⟨ds,⟨d,r,e,h1,h2⟩,q⟩=>?_,fun s ⟨d,r,e,h1,h2⟩=>⟨d,r,e,h.m s h1,hs.m s h2⟩⟩
 subst e
 exact ⟨d,h1,fun v H1 s1 hv=>⟨r,hs.m s1 h2,fun vs H2 s2 hvs=>q _ _ (s1.trans s2) (je (hv.mono s2) hvs)⟩⟩
theorem jX {es:List Expr} {R:RDL} {x1} {pos:Pos} (h:PDs X es R):PD X (.Tuple es x1 pos) (rT R):=by
 refine ⟨(jdF h.h).weak fun σ H Q ⟨d,⟨ds,e,hl,hr⟩,q⟩=>?_,fun s ⟨ds,e,hl,hr⟩=>⟨ds,e,hl,h.m s hr⟩⟩
 subst e
 refine ⟨ds,hr,fun vs H1 s1 hvs=>⟨?_,fun p hp=>?_⟩⟩
 ·rw [← hvs.length]
  exact Nat.le_of_lt (jJ hl)
 ·exact q _ _ (s1.trans (jj hp _)) (jP jg (hvs.mono (jj hp _)))
structure QA (X:Cx) (es:List Expr) (t:TA):Prop where
 h:PA X es t
structure QE (X:Cx) (e:Expr) (t:TE):Prop where
 h:PE X e t
end
end L2
namespace PySem
open Sem (wp)
namespace F
end F
end PySem
namespace L2
open PySem PySem.Spec PyProof.Rows PySem.W
structure MkFn (P:Program) (w:World) (K:W.Frag) (mg:Str→Option Value) (base:Heap) (k:Nat) (x:Str) (C:Addr) (ps:List Str) (sp:Sp):Prop where
 ex:∃ f fd,Mk K C f∧FnOk P w K mg base CX0 k f fd ps sp∧Binds K fd ps []∧mg x=some (.ref C)
end L2
namespace HT
open PySem PySem.Spec PyProof.Rows L2
open PySem.SeqAt
open PySem.AutoSeq1 (wpAny_loadPart')
open PySem.MeetsSeq PySem.MeetsSeq2 PySem.MeetsSeq3
end HT
namespace L2
open PySem PySem.Spec PyProof.Rows
variable {X:Cx}
variable {X:Cx} {pos:Pos}
structure QT (X:Cx) (e:Expr) (t:TT):Prop where
 h:PT X e t
structure QW (X:Cx) (e:Expr) (t:TT):Prop where
 h:PW X e t
structure QG (X:Cx) (e:Expr) (t:TG):Prop where
 h:PG X e t
structure QGs (X:Cx) (e:List Expr) (t:TGs):Prop where
 h:PGs X e t
structure QI (X:Cx) (tg e:Expr) (t:TI):Prop where
 h:PI X tg e t
structure QO (X:Cx) (e:Option Expr) (t:TO):Prop where
 h:PO X e t
structure QC (X:Cx) (op:CmpOp) (a b:Expr) (t:TE):Prop where
 h:PC X op a b t
structure QTs (X:Cx) (e:List Expr) (t:TT):Prop where
 h:PTs X e t
structure QPs (X:Cx) (pos:Pos) (ks:List (Option Expr)) (vs:List Expr) (t:List (TE×TE)):Prop where
 h:PPs X pos ks vs t
theorem QW.pt {X:Cx} {e:Expr} {t:TT} (h:QW X e t):QT X e t:=⟨h.h.pt⟩
theorem YJ {X:Cx} {e:Expr} {t:TE} (h:QE X e t) (he:∀ whole,isTrue e X.env whole=(do let v ← whole;standAt e.pos;holding [v] (truthy v)):=by intro _;rfl):QT X e (tB t):=⟨jgB h.h he⟩
theorem jeI {X:Cx} {pos:Pos} {o i:Expr} {to ti:TE} {t:jf2} (ho:QE X o to) (hi:QE X i ti) (hs:jhk X t)
  (ha:∀ v,assign (.Subscript o i pos) X.env v=(do
   let ov ← holding [v] (eval o X.env)
   let iv ← holding [v,ov] (eval i X.env)
   standAt pos
   holding [v,ov,iv] (setItem ov iv v)
   release [v,ov,iv] []):=by intro _;rfl):QG X (.Subscript o i pos) (jh8 to ti t):=⟨jgL ho.h hi.h hs ha⟩
theorem zpv {X:Cx} (i:Nat) {x:Str} {pos:Pos} (h1:(Cx.N X)[i]?=some x:=by rfl) (h2:Vis (Env.scope (Cx.env X)) x:=by first | exact Or.inl rfl | exact Or.inr (Or.inl rfl) | exact Or.inr (Or.inr rfl)) (h3:(x == Str.ofString "__debug__")=false:=by decide) (h4:(x == Str.ofString "__classdict__")=false:=by decide):QE X (Expr.Name x pos) (jap i):=
 ⟨@pv _ i _ _ h1 h2 h3 h4⟩
theorem jc {X:Cx} {i:Int} {j:Nat} {pos:Pos}:QE X (Expr.Constant (Const.int i) j pos) (tC (V.int i)):=
 ⟨@jdJ _ _ _ _⟩
theorem jl {X:Cx} {x:Str} {j:Nat} {pos:Pos}:QE X (Expr.Constant (Const.str x) j pos) (tC (V.str x)):=
 ⟨@jdG _ _ _ _⟩
theorem qY {X:Cx} {b:Bool} {j:Nat} {pos:Pos}:QE X (Expr.Constant (Const.bool b) j pos) (tC (V.bl b)):=
 ⟨@jhQ _ _ _ _⟩
theorem Ke {X:Cx} {x:Str} {v:V} {u:Value} {pos:Pos} (h1:Gl X x) (h2:Cx.mg X x=none) (h3:bootBuiltins x=some u) (h4:RelV v u) (h5:x≠Str.ofString "__name__":=by decide) (h6:(x == Str.ofString "__debug__")=false:=by decide):QE X (Expr.Name x pos) (tC v):=
 ⟨@jfk _ _ _ _ _ h1 h2 h3 h4 h5 h6⟩
theorem jq {X:Cx} {a b:Expr} {ta tb:TE} {pos:Pos} {op:Operator} {r:R2} (h1:OpR X (binaryOp op) r) (h2:QE X a ta) (h3:QE X b tb):QE X (Expr.BinOp a op b pos) (tOp r ta tb):=
 ⟨@jhK _ _ _ _ _ _ _ _ h1 h2.h h3.h⟩
theorem jcL {X:Cx} {a:Expr} {ta:TE} {pos:Pos} {op:UnaryOp} {r:V→Hp→VK→Prop} (h1:UnR X (unaryOp op) r) (h2:QE X a ta):QE X (Expr.UnaryOp op a pos) (tUn r ta):=
 ⟨@jhJ _ _ _ _ _ _ h1 h2.h⟩
theorem za {X:Cx} {a b:Expr} {ta tb:TE} {pos:Pos} {op:CmpOp} {r:R2} (h1:OpR X (compareOp op) r) (h2:QE X a ta) (h3:QE X b tb) (h4:behindInMarks op b=false):QE X (Expr.Compare a [op] [b] pos) (tOp r ta tb):=
 ⟨@jfi _ _ _ _ _ _ _ _ h1 h2.h h3.h h4⟩
theorem qf {X:Cx} {e:Expr} {te:TE} {lo hi:Option Expr} {tl th:TO} {pos p2:Pos} {r:V→Option Int→Option Int→Hp→VK→Prop} (h1:SlR X r) (h2:QE X e te) (h3:QO X lo tl) (h4:QO X hi th):QE X (Expr.Subscript e (Expr.Slice lo hi none p2) pos) (tSl r te tl th):=
 ⟨@jdH _ _ _ _ _ _ _ _ _ _ h1 h2.h h3.h h4.h⟩
theorem jM {X:Cx} {o i:Expr} {pos:Pos} {td ty:TE} (h1:Around.units (Cx.A X)+1 < cLine) (h2:QE X o td) (h3:QE X i ty) (h4:jhl i):QE X (Expr.Subscript o i pos) (jgc td ty):=
 ⟨@jfg _ _ _ _ _ _ h1 h2.h h3.h h4⟩
theorem jm {X:Cx} {a b:Expr} {ta tb:TE} {pos:Pos} {r:R2} (h1:IxR X r) (h2:QE X a ta) (h3:QE X b tb) (h4:jbW b):QE X (Expr.Subscript a b pos) (tOp r ta tb):=
 ⟨@jhL _ _ _ _ _ _ _ h1 h2.h h3.h h4⟩
theorem jY {X:Cx} {es:List Expr} {t:TA} {pos:Pos} (h1:QA X es t):QE X (Expr.List es pos) (jhw t):=
 ⟨@jgM _ _ _ _ h1.h⟩
theorem jW {X:Cx} {es:List Expr} {t:TA} {pos:Pos} {x1:Nat} (h1:QA X es t):QE X (Expr.Tuple es x1 pos) (jhs t):=
 ⟨@jdF _ _ _ _ _ h1.h⟩
theorem kK {X:Cx} {pos:Pos}:QE X (Expr.Dict [] [] pos) jc9:=
 ⟨@jdM _ _⟩
theorem jcM {X:Cx} {pos:Pos} {keys:List (Option Expr)} {values:List Expr} {trs:List (TE×TE)} (h1:QPs X pos keys values trs) (h2:(List.all keys fun x=>Option.isSome x)=true) (h3:List.length keys=List.length values) (h4:keys≠[]) (h5:List.length keys≤15):QE X (Expr.Dict keys values pos) (jgb trs):=
 ⟨@jff _ _ _ _ _ h1.h h2 h3 h4 h5⟩
theorem jcK {X:Cx} {pos:Pos}:QPs X pos [] [] []:=
 ⟨@je7 _ _⟩
theorem qA {X:Cx} {pos:Pos} {k v:Expr} {ks:List (Option Expr)} {vs:List Expr} {tk tv:TE} {trs:List (TE×TE)} (h1:QE X k tk) (h2:QE X v tv) (h3:QPs X pos ks vs trs):QPs X pos (some k :: ks) (v :: vs) ((tk,tv) :: trs):=
 ⟨@jdB _ _ _ _ _ _ _ _ _ h1.h h2.h h3.h⟩
theorem Kd {X:Cx} {scope:Scope} {elt tg iter:Expr} {ifs:List Expr} {pos:Pos} {wi:TI} {g:TG} {tt:TT} {te:TE} (own:List Str) (fr:List Nat) (h1:Cx.calm X=true) (h2:CompOk X scope fr) (h3:QI (Cx.nox X) tg iter wi) (h4:∀ (s:PySem.Shared) (H:Hp) (ex:List PySem.Addr),QG (blk (Cx.nox X) scope own fr s H ex) tg g∧QTs (blk (Cx.nox X) scope own fr s H ex) ifs tt∧QE (blk (Cx.nox X) scope own fr s H ex) elt te) (h5:∀ (x:Value),foldedSetIterable iter (Cx.env X) x=pure x:=by intro _;rfl):QE (Cx.nox X) (Expr.ListComp elt [{ target:=tg,iter:=iter,ifs:=ifs,is_async:=0 }] scope pos) (Yh own fr wi g tt te):=
 ⟨@jfh _ _ _ _ _ _ _ _ _ _ _ own fr h1 h2 h3.h (fun s H ex=>⟨(h4 s H ex).1.h,(h4 s H ex).2.1.h,(h4 s H ex).2.2.h⟩) h5⟩
theorem jZ {X:Cx} {e:Expr} {f:Str} {pos:Pos} {ta:TE} (h1:QE X e ta) (h2:attributeBase e f (Cx.env X) (eval e (Cx.env X))=eval e (Cx.env X)):QE X (Expr.Attribute e f pos) (jhz (Cx.K X) ta f):=
 ⟨@jgN _ _ _ _ _ h1.h h2⟩
theorem ji {X:Cx} {k k':Nat} {x:Str} {ps:List Str} {sp:Sp} {e:Expr} {es:List Expr} {t:TA} {p pos:Pos} (h1:Fn (Cx.prog X) (Cx.w X) (Cx.K X) (Cx.mg X) (Cx.base X) k x ps sp) (h2:Room k' (Cx.A X)) (h3:QA X (e :: es) t) (h4:k≤k':=by decide) (h5:Gl X x:=by rfl) (h6:(x == Str.ofString "__debug__")=false:=by decide) (h7:List.all (e :: es) qG=true:=by rfl):QE X (Expr.Call (Expr.Name x p) (e :: es) [] pos) (jdb sp [] E0 t):=
 ⟨@jhM _ _ _ _ _ _ _ _ _ _ _ h1 h2 h3.h h4 h5 h6 h7⟩
theorem kW {X:Cx} {x:Str} {p pos:Pos} {e:Expr} {es:List Expr} {t:TA} {id:String} {r:List V→Hp→VK→Prop} (h1:qt X (Value.builtin id) r) (h2:Gl X x) (h3:Cx.mg X x=none) (h4:bootBuiltins x=some (Value.builtin id)) (h5:QA X (e :: es) t) (h6:List.all (e :: es) qG=true:=by rfl) (h7:x≠Str.ofString "__name__":=by decide) (h8:(x == Str.ofString "__debug__")=false:=by decide):QE X (Expr.Call (Expr.Name x p) (e :: es) [] pos) (tCB r t):=
 ⟨@jhO _ _ _ _ _ _ _ _ _ h1 h2 h3 h4 h5.h h6 h7 h8⟩
theorem qX {X:Cx} {x:Str} {p pos:Pos} {e:Expr} {es:List Expr} {t:TA} {T:String} {r:List V→Hp→VK→Prop} (h1:qt X (Value.type T) r) (h2:Gl X x) (h3:Cx.mg X x=none) (h4:bootBuiltins x=some (Value.type T)) (h5:QA X (e :: es) t) (h6:List.all (e :: es) qG=true:=by rfl) (h7:x≠Str.ofString "__name__":=by decide) (h8:(x == Str.ofString "__debug__")=false:=by decide):QE X (Expr.Call (Expr.Name x p) (e :: es) [] pos) (tCB r t):=
 ⟨@jhN _ _ _ _ _ _ _ _ _ h1 h2 h3 h4 h5.h h6 h7 h8⟩
theorem zZ {X:Cx} {o e f:Expr} {apos cpos:Pos} {td ty tx:TE} (h1:Around.units (Cx.A X)+1 < cLine) (h2:QE X o td) (h3:QE X e ty) (h4:QE X f tx) (h5:M2 X o (Str.ofString "get") apos e f cpos):QE X (Expr.Call (Expr.Attribute o (Str.ofString "get") apos) [e,f] [] cpos) (jda td ty tx):=
 ⟨@jdN _ _ _ _ _ _ _ _ _ h1 h2.h h3.h h4.h h5⟩
theorem ko {X:Cx} {o e:Expr} {es:List Expr} {to:TE} {t:TA} {name:Str} {apos cpos:Pos} {T id:String} {r:V→List V→Hp→VK→Prop} (h1:PlainAttrs T) (h2:Slot T name id) (h3:typeOf (Value.builtin id)=pure (Value.type "method_descriptor")) (h4:MtR X id r) (h5:QE X o to) (h6:QA X (e :: es) t) (h7:attributeBase o name (Cx.env X) (eval o (Cx.env X))=eval o (Cx.env X):=by rfl) (h8:(((List.all (backTo cpos (starEach (e :: es) (Cx.env X))) fun x=>!Prod.fst x) && List.all (backToKw cpos (keywordEach [] (Cx.env X))) fun x=>Option.isSome (Prod.fst x)) && decide ((List.length (e :: es)+List.length ([]:List PySem.Keyword)+if List.isEmpty ([]:List PySem.Keyword)=true then 0 else 1) < 30))=true:=by rfl) (h9:(Pos.endLine apos == Pos.line cpos)=true:=by rfl) (h10:starEach (e :: es) (Cx.env X)=(false,eval e (Cx.env X)) :: starEach es (Cx.env X):=by rfl) (h11:(List.any (backTo cpos (starEach es (Cx.env X))) fun x=>Prod.fst x)=false:=by rfl):QE X (Expr.Call (Expr.Attribute o name apos) (e :: es) [] cpos) (tBM (Cx.K X) T r to t):=
 ⟨@jhP _ _ _ _ _ _ _ _ _ _ _ _ h1 h2 h3 h4 h5.h h6.h h7 h8 h9 h10 h11⟩
theorem YL {X:Cx} {o:Expr} {to:TE} {name:Str} {apos cpos:Pos} {T id:String} {r:V→List V→Hp→VK→Prop} (h1:PlainAttrs T) (h2:Slot T name id) (h3:typeOf (Value.builtin id)=pure (Value.type "method_descriptor")) (h4:MtR X id r) (h5:QE X o to) (h6:attributeBase o name (Cx.env X) (eval o (Cx.env X))=eval o (Cx.env X):=by rfl) (h7:(Pos.endLine apos == Pos.line cpos)=true:=by rfl):QE X (Expr.Call (Expr.Attribute o name apos) [] [] cpos) (jhA (Cx.K X) T r to):=
 ⟨@jgO _ _ _ _ _ _ _ _ _ h1 h2 h3 h4 h5.h h6 h7⟩
theorem YK {X:Cx} {a:Expr} {pos:Pos} {tA:TT} (h1:QT X a tA):QT X (Expr.UnaryOp UnaryOp.Not a pos) (jhv tA):=
 ⟨@jgC _ _ _ _ h1.h⟩
theorem jy {X:Cx} {a b:Expr} {ta tb:TE} {pos:Pos} {op:CmpOp} {r:R2} (h1:OpR X (compareOp op) r) (h2:QE X a ta) (h3:QE X b tb) (h4:behindInMarks op b=false):QT X (Expr.Compare a [op] [b] pos) (jf5 (tOp r ta tb)):=
 ⟨@je0 _ _ _ _ _ _ _ _ h1 h2.h h3.h h4⟩
theorem jeH {X:Cx} {a b:Expr} {pos:Pos} {op:CmpOp} {t:TE} (h1:QC X op a b t) (h2:behindInMarks op b=false:=by rfl):QT X (Expr.Compare a [op] [b] pos) (tB t):=
 ⟨@jgD _ _ _ _ _ _ h1.h h2⟩
theorem Kb {X:Cx} {a b:Expr} {pos:Pos} {tA tB':TT} {zC:List Expr} (h1:QT X a tA) (h2:QW X (Expr.BoolOp BoolOp.Or (b :: zC) pos) tB'):QW X (Expr.BoolOp BoolOp.Or (a :: b :: zC) pos) (tOr tA tB'):=
 ⟨@jhH _ _ _ _ _ _ _ h1.h h2.h⟩
theorem JZ {X:Cx} {a:Expr} {pos:Pos} {tA:TT} (h1:QT X a tA):QW X (Expr.BoolOp BoolOp.Or [a] pos) tA:=
 ⟨@jgz _ _ _ _ h1.h⟩
theorem q8 {X:Cx}:QO X none ja5:=
 ⟨@je9 _⟩
theorem qp {X:Cx} {e:Expr} {te:TE} (h1:QE X e te):QO X (some e) (jf7 te):=
 ⟨@je8 _ _ _ h1.h⟩
theorem jag {X:Cx} {o i:Expr} {td ty:TE} (h1:Around.units (Cx.A X)+1 < cLine) (h2:QE X i ty) (h3:QE X o td):QC X CmpOp.NotIn i o (ja6 ty td):=
 ⟨@jcc _ _ _ _ _ h1 h2.h h3.h⟩
theorem zo {X:Cx} {tg a:Expr} {ta:TA} {p pos:Pos} (h1:Gl X (Str.ofString "range")) (h2:Cx.mg X (Str.ofString "range")=none) (h3:QA X [a] ta) (h4:starEach [a] (Cx.env X)=[(false,eval a (Cx.env X))]:=by rfl):QI X tg (Expr.Call (Expr.Name (Str.ofString "range") p) [a] [] pos) (jgj ta):=
 ⟨@jca _ _ _ _ _ _ h1 h2 h3.h h4⟩
theorem zG {X:Cx} {tg l:Expr} {tl:TE} (h1:QE X l tl):QI X tg l (jgk (Cx.K X) tl):=
 ⟨@jfa _ _ _ _ h1.h⟩
theorem Kc {X:Cx} {elts:List Expr} {x1:Nat} {tp:Pos} {a:Expr} {ta:TA} {p pos:Pos} (h1:Gl X (Str.ofString "enumerate")) (h2:Cx.mg X (Str.ofString "enumerate")=none) (h3:QA X [a] ta) (h4:starEach [a] (Cx.env X)=[(false,eval a (Cx.env X))]:=by rfl):QI X (Expr.Tuple elts x1 tp) (Expr.Call (Expr.Name (Str.ofString "enumerate") p) [a] [] pos) (jgl (Cx.K X) ta):=
 ⟨@jfb _ _ _ _ _ _ _ _ h1 h2 h3.h h4⟩
theorem jv {X:Cx} {pos:Pos} {i:Nat} {x:Str} {e:Expr} {te:TE} {pos':Pos} (h1:List.Nodup (Cx.N X)) (h2:(Cx.N X)[i]?=some x) (h3:L2.Loc (Env.scope (Cx.env X)) x) (h4:QE X e te) (h5:swapsWith e (some (Expr.Name x pos')) (Pos.line pos) (Cx.env X)=pure false:=by rfl) (h6:Cx.fn X x=true∨List.lookup x (Scope.names (Env.scope (Cx.env X)))=some NameKind.local:=by first | exact .inl rfl | exact .inr rfl | assumption):QS X (Stmt.Assign [Expr.Name x pos'] e pos) (YO te (qd i)):=
 ⟨@jgE _ _ _ _ _ _ _ h1 h2 h3 h4.h h5 h6⟩
theorem zF {X:Cx} {scope:Scope} {elt tg iter:Expr} {ifs:List Expr} {pos:Pos} {wi:TI} {g:TG} {tt:TT} {te:TE} {i:Nat} {y:Str} {py spos:Pos} (h1:List.Nodup (Cx.N X)) (h2:(Cx.N X)[i]?=some y) (h3:L2.Loc (Env.scope (Cx.env X)) y) (own:List Str) (fr:List Nat) (h4:Cx.calm X=true) (h5:CompOk X scope fr) (h6:QI (Cx.nox X) tg iter wi) (h7:∀ (s:PySem.Shared) (H:Hp) (ex:List PySem.Addr),QG (blk (Cx.nox X) scope own fr s H ex) tg g∧QTs (blk (Cx.nox X) scope own fr s H ex) ifs tt∧QE (blk (Cx.nox X) scope own fr s H ex) elt te) (h8:∀ (x:Value),foldedSetIterable iter (Cx.env X) x=pure x:=by intro _;rfl) (h9:swapsWith (Expr.ListComp elt [{ target:=tg,iter:=iter,ifs:=ifs,is_async:=0 }] scope pos) (some (Expr.Name y py)) (Pos.line spos) (Cx.env X)=pure true:=by rfl) (h10:Cx.fn X y=true∨List.lookup y (Scope.names (Env.scope (Cx.env X)))=some NameKind.local:=by first | exact .inl rfl | exact .inr rfl | assumption):QS (Cx.nox X) (Stmt.Assign [Expr.Name y py] (Expr.ListComp elt [{ target:=tg,iter:=iter,ifs:=ifs,is_async:=0 }] scope pos) spos) (YO (Yh own fr wi g tt te) (qd i)):=
 ⟨@jax _ _ _ _ _ _ _ _ _ _ _ _ _ _ _ h1 h2 h3 own fr h4 h5 h6.h (fun s H ex=>⟨(h7 s H ex).1.h,(h7 s H ex).2.1.h,(h7 s H ex).2.2.h⟩) h8 h9 h10⟩
theorem kg {X:Cx} {o i value:Expr} {pos pos':Pos} {td ty tv:TE} (h1:Around.units (Cx.A X)+1 < cLine) (h2:QE X o td) (h3:QE X i ty) (h4:QE X value tv) (h5:swapsWith value (some (Expr.Subscript o i pos')) (Pos.line pos) (Cx.env X)=pure false):QS X (Stmt.Assign [Expr.Subscript o i pos'] value pos) (jgf td ty tv):=
 ⟨@je6 _ _ _ _ _ _ _ _ _ h1 h2.h h3.h h4.h h5⟩
theorem qk {X:Cx} {o value:Expr} {f:Str} {pos pos':Pos} {ta tv:TE} (h1:QE X o ta) (h2:QE X value tv) (h3:swapsWith value (some (Expr.Attribute o f pos')) (Pos.line pos) (Cx.env X)=pure false):QS X (Stmt.Assign [Expr.Attribute o f pos'] value pos) (jhD (Cx.K X) ta tv f):=
 ⟨@jgI _ _ _ _ _ _ _ _ h1.h h2.h h3⟩
theorem qx {X:Cx} {pos:Pos} {tg e:Expr} {te:TE} {g:TG} (h1:QE X e te) (h2:QG X tg g) (h3:swapsWithSole [tg] e (Pos.line pos) (Cx.env X)=pure false:=by rfl) (h4:swappedStores [tg] e (Cx.env X)=pure none:=by rfl) (h5:List.map (fun x=>Prod.snd x) (assignEach [tg] (Cx.env X))=[assign tg (Cx.env X)]:=by rfl):QS X (Stmt.Assign [tg] e pos) (YO te g):=
 ⟨@jgJ _ _ _ _ _ _ h1.h h2.h h3 h4 h5⟩
theorem jx {X:Cx} {e:Expr} {te:TE} {pos:Pos} (h1:QE X e te):QS X (Stmt.Return (some e) pos) (jgr te):=
 ⟨@jgF _ _ _ _ h1.h⟩
theorem jL {X:Cx} {t u:TS} {pos:Pos} {c:Expr} {a b:List Stmt} {tc:TT} (h1:QT X c tc) (h2:QSs X a t) (h3:QSs X b u):QS X (Stmt.If c a b pos) (jhx tc t u):=
 ⟨@jhI _ _ _ _ _ _ _ _ h1.h h2.h h3.h⟩
theorem zY {X:Cx} {tg iter:Expr} {body:List Stmt} {wi:TI} {g:TG} {tb:TS} {pos:Pos} (h1:PassesOwn (model (Cx.prog X) (Cx.w X)) (Cx.A X) (Cx.env X) (Cx.xe X)) (h2:Cx.calm X=true) (h3:QI X tg iter wi) (h4:QG X tg g) (h5:QSs X body tb) (h6:∀ (x:Value),foldedSetIterable iter (Cx.env X) x=pure x:=by intro _;rfl):QS X (Stmt.For tg iter body [] pos) (jhy wi g tb):=
 ⟨@jgH _ _ _ _ _ _ _ _ h1 h2 h3.h h4.h h5.h h6⟩
theorem jz {X:Cx} {e:Expr} {te:TE} {pos:Pos} (h1:QE X e te) (h2:swapsWith e none (Pos.line pos) (Cx.env X)=pure false:=by rfl):QS X (Stmt.Expr e pos) (jc7 te):=
 ⟨@je5 _ _ _ _ h1.h h2⟩
theorem jC {X:Cx} {pos:Pos} {i:Nat} {x:Str} (h1:List.Nodup (Cx.N X)) (h2:(Cx.N X)[i]?=some x) (h3:L2.Loc (Env.scope (Cx.env X)) x) (h4:Cx.fn X x=true∨List.lookup x (Scope.names (Env.scope (Cx.env X)))=some NameKind.local:=by first | exact .inl rfl | exact .inr rfl | assumption):QG X (Expr.Name x pos) (qd i):=
 ⟨@jfd _ _ _ _ h1 h2 h3 h4⟩
theorem kU {X:Cx} {pos:Pos} {es:List Expr} {k:Nat} {t:TGs} {n:Nat} (h1:Cx.calm X=true) (h2:QGs X es t) (h3:List.length (assignEach es (Cx.env X))=n:=by rfl) (h4:List.findIdx? (fun x=>Prod.fst x) (assignEach es (Cx.env X))=none:=by rfl):QG X (Expr.Tuple es k pos) (jh7 (Cx.K X) n t):=
 ⟨@jgK _ _ _ _ _ _ h1 h2.h h3 h4⟩
theorem kD {X:Cx}:QGs X [] jh9:=
 ⟨@jfc _⟩
theorem jE {X:Cx} {e:Expr} {es:List Expr} {t:TG} {u:TGs} (h1:QG X e t) (h2:QGs X es u) (h3:List.map (fun x=>Prod.snd x) (assignEach (e :: es) (Cx.env X))=assign e (Cx.env X) :: List.map (fun x=>Prod.snd x) (assignEach es (Cx.env X)):=by rfl):QGs X (e :: es) (jgn t u):=
 ⟨@jdD _ _ _ _ _ h1.h h2.h h3⟩
theorem jG {X:Cx}:QSs X [] jf8:=
 ⟨@je2 _⟩
theorem jh {X:Cx} {st:Stmt} {t:TS} (h1:QS X st t):QSs X [st] t:=
 ⟨@je1 _ _ _ h1.h⟩
theorem jd {X:Cx} {st:Stmt} {zC:List Stmt} {t u:TS} (h1:QS X st t) (h2:QSs X zC u):QSs X (st :: zC) (jF t u):=
 ⟨@jdA _ _ _ _ _ h1.h h2.h⟩
theorem zE {X:Cx}:QTs X [] ZB:=
 ⟨@jeZ _⟩
theorem jcI {X:Cx} {c:Expr} {t:TT} (h1:QT X c t):QTs X [c] t:=
 ⟨@jeY _ _ _ h1.h⟩
theorem jb {X:Cx}:QA X [] jc6:=
 ⟨@jdP _⟩
theorem ja {X:Cx} {e:Expr} {es:List Expr} {te:TE} {t:TA} (h1:QE X e te) (h2:QA X es t) (h3:qG e=true:=by rfl):QA X (e :: es) (ja7 te t):=
 ⟨@jhS _ _ _ _ _ h1.h h2.h h3⟩
theorem Zq {X:Cx} {x:Str} {v:V} {u:Value} {pos:Pos} (h1:Gl X x) (h2:Cx.mg X x=some u) (h3:RelV v u) (h4:(x == Str.ofString "__debug__")=false:=by decide):QE X (Expr.Name x pos) (tC v):=
 ⟨@jfe _ _ _ _ _ h1 h2 h3 h4⟩
theorem yJ {X:Cx} {st:Stmt} {t:TS} (h:QS X st t):QS X st (jga t):=⟨je4 h.h⟩
theorem Fun.okZ {P:Program} {w:World} {K:W.Frag} {mg:Str→Option Value} {base:Heap} {x qual:Str} {st:Stmt} {f:Addr} {fd:FuncData} {N ps:List Str} {k:Nat} {sp:Sp} (F:Fun K x qual st f fd) (S:FnScope N ps (jp st)) (len:∀ vs H Q E,sp vs H Q E→vs.length=ps.length)
  (hbody:∀ (cdv:Value) (A:Around) (outer:List Env) (s:Shared) (H:Hp) (vs:List V) (Q:VK) (E:XK),Room k (A.deeper (envOfC qual (jp st) s.heap.objs.size f cdv))→sp vs H Q E→
   ∃ t,QSs (yp CX0 P w K mg base N qual (jp st) f cdv A outer s H E).nox (qo st) t∧t { nx:=fun _ H'=>Q .non H',rt:=Q } (start N vs) H):FnOk P w K mg base CX0 (k+1) f fd ps sp:=
 F.ok S len fun cdv A outer s H vs Q E hr h=>let ⟨t,a,b⟩:=hbody cdv A outer s H vs Q E hr h;⟨t,a.h,b⟩
theorem qE {X:Cx} {e:Expr} {t:TE} (h:QE X e t):PD X e (rE t):=jhR h.h
theorem zpd {X:Cx} {e:Expr} {R:RD} (h:PD X e R):QE X e (tHD R):=⟨h.h⟩
open PySem PySem.Spec PyProof.Rows PySem.W
def SetAtS (prog:Program) (w:World) (h:Heap) (a:Addr) (led:Bool) (σ:List Str):Prop:=∃ (es:Array (Int×Value)) (ep:Nat) (t:SetTable),
 h.get? a=some { cls:=.type "set",dict:=none,data:=.set es ep t }∧ElemsOf (PySem.strKind prog w) es.toList∧(∃ l:List Str,StrsAre (es.toList.map (·.2)) l∧l.Perm σ)∧es.size < scanBound∧t.fits es.size=true∧TabOk led t
theorem SetAtS.kept {prog:Program} {w:World} {h h':Heap} {a:Addr} {led:Bool} {σ:List Str} (x:SetAtS prog w h a led σ) (k:∀ o,h.get? a=some o→h'.get? a=some o):SetAtS prog w h' a led σ:=by
 obtain ⟨es,ep,t,e,r⟩:=x
 exact ⟨es,ep,t,k _ e,r⟩
theorem jdc {vs:List Value} {l:List Str} (h:StrsAre vs l) {v:Str}:v∈l↔∃ t,Value.str v t∈vs:=by
 induction h with
 | nil=>simp
 | cons n t h ih=>
  constructor
  ·intro hv
   rcases List.mem_cons.mp hv with rfl | hv
   ·exact ⟨t,List.mem_cons_self⟩
   ·obtain ⟨t',ht⟩:=ih.mp hv
    exact ⟨t',List.mem_cons_of_mem _ ht⟩
  ·rintro ⟨t',ht⟩
   rcases List.mem_cons.mp ht with e | ht
   ·cases e
    exact List.mem_cons_self
   ·exact List.mem_cons_of_mem _ (ih.mpr ⟨t',ht⟩)
theorem Yi:∀ {vs:List Value} {l:List Str} {v:Str} {t:Tok},StrsAre vs l→StrsAre (vs++[.str v t]) (l++[v])
 | _,_,v,t,.nil=>.cons v t .nil
 | _,_,v,t,.cons n t' h=>.cons n t' (Yi h)
theorem Yj {vs vs':List Value} {l:List Str} (h:StrsAre vs l) (p:vs'.Perm vs):∃ l',StrsAre vs' l'∧l'.Perm l:=by
 refine ⟨vs'.map strOf,strsAre_map vs' fun v hv=>h.all v (p.mem_iff.mp hv),?_⟩
 rw [← h.strs]
 exact p.map _
section
variable {prog:Program} {w:World} {A:Around} {E:Value→Shared→Prop} {s:Shared}
theorem Yn {es:Array (Int×Value)} {l:List Str} (hI:StrsAre (es.toList.map (·.2)) l) {v:Str}:(∃ j,List.findIdx? (fun e=>(PySem.strKind prog w).is v e.2) es.toList=some j)↔v∈l:=by
 rw [jdc hI]
 constructor
 ·rintro ⟨j,hj⟩
  obtain ⟨hlt,h1,_⟩:=List.findIdx?_eq_some_iff_getElem.mp hj
  obtain ⟨x,t,e⟩:=hI.all es.toList[j].2 (List.mem_map.mpr ⟨_,List.getElem_mem hlt,rfl⟩)
  have:v=x:=by
   rw [e] at h1
   exact (PySem.strKind prog w).inj _ _ _ h1 (strKind_is _ _ _ _)
  subst this
  exact ⟨t,List.mem_map.mpr ⟨_,List.getElem_mem hlt,e⟩⟩
 ·rintro ⟨t,ht⟩
  obtain ⟨e,he,e2⟩:=List.mem_map.mp ht
  cases hf:List.findIdx? (fun e=>(PySem.strKind prog w).is v e.2) es.toList with
  | some j=>exact ⟨j,rfl⟩
  | none=>
   have:=List.findIdx?_eq_none_iff.mp hf e he
   rw [e2,strKind_is] at this
   cases this
theorem Ku {a:Addr} {led:Bool} {σ:List Str} {es es':Array (Int×Value)} {ep:Nat} {t t':SetTable} {h:Heap} (ho:h.get? a=some { cls:=.type "set",dict:=none,data:=.set es ep t })
  (hel:ElemsOf (PySem.strKind prog w) es'.toList) (hl:∃ l:List Str,StrsAre (es'.toList.map (·.2)) l∧l.Perm σ) (hb:es'.size < scanBound) (hf:t'.fits es'.size=true) (ht:TabOk led t') :
  (h.update a (Obj.putSet es' t')).get? a=some { cls:=.type "set",dict:=none,data:=.set es' (ep+1) t' }∧SetAtS prog w (h.update a (Obj.putSet es' t')) a led σ:=by
 have hg:(h.update a (Obj.putSet es' t')).get? a=some { cls:=.type "set",dict:=none,data:=.set es' (ep+1) t' }:=by
  have:=Heap.get?_update_self (Obj.putSet es' t') ho (by rw [putSet_of es' t' rfl];rfl)
  rw [putSet_of es' t' rfl] at this
  exact this
 exact ⟨hg,es',ep+1,t',hg,hel,hl,hb,hf,ht⟩
theorem jdp {a:Addr} {led:Bool} {σ:List Str} {v:Str} {tk:Tok} {Q:Bool→Shared→Prop} (hS:SetAtS prog w s.heap a led σ) (hroom:σ.length+1 < scanBound)
  (h:∀ b h',Heap.SameBut a s.heap h'→SetAtS prog w h' a led (if v∈σ then σ else σ++[v])→Q b { s with heap:=h' }):wpAny (model prog w) A (setAddHashed a (.str v tk) ((PySem.strKind prog w).hash v)) Q E s:=by
 obtain ⟨es,ep,t,ho,hel,⟨l,hI,hp⟩,hb,hf,ht⟩:=hS
 have hsz:es.size=σ.length:=by
  have h1:=hI.length
  have h2:=hp.length_eq
  rw [List.length_map,Array.length_toList] at h1
  omega
 unfold setAddHashed setAddHashedIn
 refine wpAny_holding (wpAny_bind (wpAny_setState_of ho rfl hf ?_))
 dsimp only
 rw [byScan_of (knd:=PySem.strKind prog w) rfl hb hel]
 simp only [↓reduceIte]
 unfold setAddByScan
 refine wpAny_bind (wpAny_bind (wpAny_rule (wpAny_bind (wpAny_setScan_of (knd:=PySem.strKind prog w) (strKind_is _ _ _ _) ho rfl hf hel ?_))))
 cases hr:List.findIdx? (fun e=>(PySem.strKind prog w).is v e.2) es.toList with
 | some j=>
  have hv:v∈σ:=hp.mem_iff.mp ((Yn hI).mp ⟨j,hr⟩)
  dsimp only
  refine wpAny_pure (wpAny_pure ?_)
  have:=h false s.heap (Heap.SameBut.refl a s.heap) (by rw [if_pos hv];exact ⟨es,ep,t,ho,hel,⟨l,hI,hp⟩,hb,hf,ht⟩)
  exact this
 | none=>
  have hv:¬ v∈σ:=fun z=>by
   obtain ⟨j,hj⟩:=(Yn (prog:=prog) (w:=w) hI).mpr (hp.mem_iff.mpr z)
   rw [hr] at hj
   cases hj
  rw [if_neg hv] at h
  dsimp only
  have gw:∀ (b:Bool) {s₁:Shared} {Q':Unit→Shared→Prop},Q' () s₁→wpAny (model prog w) A (match b with | true=>rule "set.scan.the-table-gave-way" | false=>pure ()) Q' E s₁:=fun b s₁ Q' hq=>by
   cases b
   ·exact wpAny_pure hq
   ·exact wpAny_rule hq
  have p1:=layNew_perm t es ((PySem.strKind prog w).hash v) (.str v tk)
  have f1:=layNew_fits t es ((PySem.strKind prog w).hash v) (.str v tk)
  have k1:=jcm ht es ((PySem.strKind prog w).hash v) (.str v tk)
  generalize layNew t es ((PySem.strKind prog w).hash v) (.str v tk)=L at p1 f1 k1 ⊢
  obtain ⟨es1,t1,wd,gv⟩:=L
  dsimp only at p1 f1 k1 ⊢
  rw [Array.toList_push] at p1
  have hel1:ElemsOf (PySem.strKind prog w) es1.toList:=(hel.push (strKind_is _ _ _ _) rfl).perm p1
  have hI1:∃ l:List Str,StrsAre (es1.toList.map (·.2)) l∧l.Perm (σ++[v]):=by
   have pm:=p1.map (·.2)
   rw [List.map_append] at pm
   obtain ⟨l',i1,i2⟩:=Yj (Yi (t:=tk) hI) pm
   exact ⟨l',i1,i2.trans (hp.append_right _)⟩
  have hs1:es1.size=es.size+1:=by
   have:=p1.length_eq
   rw [List.length_append,Array.length_toList,Array.length_toList] at this
   simpa using this
  have hb1:es1.size < scanBound:=by omega
  refine wpAny_bind (gw _ ?_)
  have fin:∀ t2:SetTable,t2.fits es1.size=true→TabOk led t2→wpAny (model prog w) A (do
    storeSet a es1 t2
    if (!wd && t2.tooFull)=true then do
      (match (relayAll t2 es1 (SetTable.grown es1.size)).2.2 with | true=>rule "set.scan.the-table-gave-way" | false=>pure ():Sem Unit)
      storeSet a (relayAll t2 es1 (SetTable.grown es1.size)).1 (relayAll t2 es1 (SetTable.grown es1.size)).2.1
      pure (some true)
     else pure (some true)) (fun a_1 s'=>wpAny (model prog w) A (match a_1 with | some added=>pure added | none=>setAddHashedIn a (.str v tk) ((PySem.strKind prog w).hash v) 99999) Q E s') E s:=by
   intro t2 f2 k2
   refine wpAny_bind (wpAny_storeSet_of ho rfl ?_ (fits_of_scanBound hb1))
   obtain ⟨ho1,hS1⟩:=Ku (prog:=prog) (w:=w) (σ:=σ++[v]) ho hel1 hI1 hb1 f2 k2
   have sb1:=Heap.SameBut.update s.heap a (Obj.putSet es1 t2)
   split
   ·have p2:=relayAll_perm t2 es1 (SetTable.grown es1.size)
    have f3:=relayAll_fits t2 es1 (SetTable.grown es1.size)
    have k3:=jdu k2 es1 (SetTable.grown es1.size)
    generalize relayAll t2 es1 (SetTable.grown es1.size)=L at p2 f3 k3 ⊢
    obtain ⟨es2,t3,gv2⟩:=L
    dsimp only at p2 f3 k3 ⊢
    have hs2:es2.size=es1.size:=by rw [← Array.length_toList,p2.length_eq,Array.length_toList]
    have hI2:∃ l:List Str,StrsAre (es2.toList.map (·.2)) l∧l.Perm (σ++[v]):=by
     obtain ⟨l1,i1,i2⟩:=hI1
     obtain ⟨l',j1,j2⟩:=Yj i1 (p2.map (·.2))
     exact ⟨l',j1,j2.trans i2⟩
    refine wpAny_bind (gw _ (wpAny_bind (wpAny_storeSet_of ho1 rfl ?_ (fits_of_scanBound (by omega)))))
    obtain ⟨_,hS2⟩:=Ku (prog:=prog) (w:=w) (σ:=σ++[v]) ho1 (hel1.perm p2) hI2 (by omega) f3 k3
    exact wpAny_pure (wpAny_pure (h true _ (sb1.trans (Heap.SameBut.update _ a _)) hS2))
   ·exact wpAny_pure (wpAny_pure (h true _ sb1 hS1))
  split
  ·refine wpAny_bind ?_
   rw [hashByValue_scannable 8 rfl]
   refine wpAny_pure ?_
   refine fin _ ?_ ?_
   ·split
    ·exact f1
    ·exact SetTable.fits_plain_off f1
   ·split
    ·exact k1
    ·exact jb9 k1
  ·refine wpAny_bind (wpAny_pure ?_)
   simp only [↓reduceIte]
   exact fin _ f1 k1
end
def dedupS (ns:List Str):List Str:=ns.foldl (fun σ v=>if v∈σ then σ else σ++[v]) []
theorem JT (ns:List Str) (v:Str):dedupS (ns++[v])=if v∈dedupS ns then dedupS ns else dedupS ns++[v]:=by unfold dedupS;rw [List.foldl_append];rfl
theorem JJ (ns:List Str):(dedupS ns).Nodup∧(dedupS ns).length≤ns.length∧∀ x,x∈dedupS ns↔x∈ns:=by
 have key:∀ (l:List Str),(dedupS l.reverse).Nodup∧(dedupS l.reverse).length≤l.reverse.length∧∀ x,x∈dedupS l.reverse↔x∈l.reverse:=by
  intro l
  induction l with
  | nil=>exact ⟨List.nodup_nil,Nat.le_refl _,fun x=>Iff.rfl⟩
  | cons v l ih=>
   rw [List.reverse_cons,JT]
   obtain ⟨h1,h2,h3⟩:=ih
   split
   ·next h=>
    refine ⟨h1,by rw [List.length_append];omega,fun x=>?_⟩
    rw [List.mem_append,h3]
    constructor
    ·exact .inl
    ·rintro (z | z)
     ·exact z
     ·rw [List.mem_singleton.mp z]
      exact (h3 v).mp h
   ·next h=>
    refine ⟨?_,by rw [List.length_append,List.length_append];simp;simpa using h2,fun x=>by rw [List.mem_append,List.mem_append,h3]⟩
    rw [List.nodup_append]
    refine ⟨h1,by simp,fun x hx y hy e=>?_⟩
    rw [List.mem_singleton] at hy
    subst hy e
    exact h hx
 have:=key ns.reverse
 rw [List.reverse_reverse] at this
 exact this
section
variable {prog:Program} {w:World} {A:Around} {E:Value→Shared→Prop} {R:Result→Shared→Prop}
theorem set_loopS {S it l:Addr} {led:Bool} {its:List Value} {ns:List Str} (hh:A.handled=none) (hI:StrsAre its ns) (hSl:S≠l) (hSi:S≠it) (hli:l≠it) (hz:ns.length+1 < scanBound) :
  ∀ (k i:Nat) (s:Shared),i+k=ns.length→s.heap.IsListIter it l i→s.heap.IsList l its.toArray→SetAtS prog w s.heap S led (dedupS (ns.take i))→
   (∀ h' tk,(∀ b o,b≠S→b≠it→s.heap.get? b=some o→h'.get? b=some o)→SetAtS prog w h' S led (dedupS ns)→R (.ok (.ret .none)) { s with heap:=h',toks:=tk })→
   codeAny (model prog w) A (.builtin "set.update.loop" ⟨[.ref S,.ref it],[]⟩) R s:=by
 intro k
 induction k with
 | zero=>
  intro i s hk hit ht hS hR
  have hl:=hI.length
  refine codeAny_builtin F.entry_set_update_loop ?_
  rw [Around.under_plainId F.plain_set_update_loop _]
  show wpAny _ A.in1 (pyNext (.ref it) >>= _) _ _ s
  refine wpAny_bind (wpAny_pyNext_list_end (A:=A.in1) hh hit ht (by simp;omega) fun h1 he1=>?_)
  show wpAny _ A.in1 (ret Value.none) _ _ _
  refine wpAny_pure ?_
  rw [show ns.take i=ns from List.take_of_length_le (by omega)] at hS
  exact hR h1 s.toks (fun b o _ hb e=>he1 b o hb e) (hS.kept fun o e=>he1 S o hSi e)
 | succ k ih=>
  intro i s hk hit ht hS hR
  have hl:=hI.length
  have hlt:i < ns.length:=by omega
  have hgi:its.toArray[i]?=some its[i]:=by simp [hl,hlt]
  obtain ⟨t,et⟩:∃ t,its[i]=.str ns[i] t:=by
   obtain ⟨t,ht⟩:=hI.get i ns[i] (by simp [hlt])
   exact ⟨t,by rw [List.getElem?_eq_getElem (by omega)] at ht;exact Option.some.inj ht⟩
  refine codeAny_builtin F.entry_set_update_loop ?_
  rw [Around.under_plainId F.plain_set_update_loop _]
  show wpAny _ A.in1 (pyNext (.ref it) >>= _) _ _ s
  refine wpAny_bind (wpAny_pyNext_list_item hit ht hgi fun h1 hit1 hs1=>?_)
  have ht1:h1.IsList l its.toArray:=ht.extBut hs1.extBut hli
  have hS1:SetAtS prog w h1 S led (dedupS (ns.take i)):=hS.kept fun o e=>(hs1.2 S hSi).trans e
  rw [et]
  show wpAny _ A.in1 (holding [Value.str ns[i] t] (setAdd S (.str ns[i] t)) >>= _) _ _ _
  refine wpAny_bind (wpAny_holding ?_)
  unfold setAdd
  refine wpAny_holding ?_
  refine wpAny_bind ((PySem.strKind prog w).pyHash (k:=ns[i]) (strKind_is _ _ _ _) ?_)
  have hroom:(dedupS (ns.take i)).length+1 < scanBound:=by
   have:=(JJ (ns.take i)).2.1
   rw [List.length_take] at this
   omega
  refine jdp (s:={ s with heap:=h1,toks:=s.toks+1 }) hS1 hroom fun b h2 hs2 hS2=>?_
  have e2:dedupS (ns.take (i+1))=if ns[i]∈dedupS (ns.take i) then dedupS (ns.take i) else dedupS (ns.take i)++[ns[i]]:=by
   rw [List.take_succ,List.getElem?_eq_getElem hlt]
   exact JT _ _
  rw [← e2] at hS2
  have hb2:∀ b o,b≠S→h1.get? b=some o→h2.get? b=some o:=fun b o hb e=>(hs2.2 b hb).trans e
  refine wpAny_pure ⟨plainId_quiet F.plain_set_update_loop _,ih (i+1) _ (by omega) ?_ ?_ hS2 fun h' tk hk' hS'=>hR h' tk (fun b o b1 b2 e=>hk' b o b1 b2 (hb2 b o b1 ((hs1.2 b b2).trans e))) hS'⟩
  ·obtain ⟨oi,z1,z2⟩:=hit1
   exact ⟨oi,hb2 it oi hSi.symm z1,z2⟩
  ·obtain ⟨oi,z1,z2⟩:=ht1
   exact ⟨oi,hb2 l oi hSl.symm z1,z2⟩
end
end L2
namespace PySem
section
variable {prog:Program} {w:World} {A:Around} {E:Value→Shared→Prop} {s:Shared}
set_option maxHeartbeats 3200000 in
theorem set_of_listS {l:Addr} {its:List Value} {ns:List Str} {nl:Nat} {sl:Array (Option Value)} {dd:Option Addr} {Q:Value→Shared→Prop} (hh:A.handled=none) (hol:s.heap.get? l=some { cls:=.type "list",dict:=dd,data:=.seq its.toArray nl,slots:=sl }) (hi:PyProof.Rows.StrsAre its ns) (hb:ns.length+1 < scanBound)
  (h:∀ (h':Heap) (tk:Nat),L2.SetAtS prog w h' s.heap.objs.size (L2.ledOf w) (L2.dedupS ns)→(∀ b o,s.heap.get? b=some o→h'.get? b=some o)→Q (.ref s.heap.objs.size) { s with heap:=h',toks:=tk }) :
  wpAny (model prog w) A (call (.type "set") [.ref l]) Q E s:=by
 obtain ⟨c,tl,hmro⟩:=F.called_set.mro
 have hmade:=F.called_set.made
 have hsub:=F.called_set.sub
 refine wpAny_call (codeAny_of_tree ?_)
 show wpAny _ _ (callAny (.type "set") _) _ _ _
 refine wpAny_pure ⟨Code.quiet_builtin _ (by decide +kernel),codeAny_builtin F.entry_type_call ?_⟩
 rw [Around.under_plain (weight_type_call_type "set" [.ref l] []) rfl]
 have h1:=F.called_set.notType
 have h2:=F.called_set.canCreate
 have hct:=F.typeCall_set_1 (.ref l)
 repeat (any_goals (first | assumption | wp_step))
 refine codeAny_mono (ZN (.ref l) (E:=E) (Q₁:=fun obj s₁=>obj=.ref s.heap.objs.size∧s₁={ s with heap:=s.heap.push { cls:=.type "set",dict:=none,data:=.set #[] 0 (.fresh 0 0 (L2.ledOf w)) } }) ⟨rfl,rfl⟩) fun r s₁ hr=>?_
 cases r with
 | error e=>exact hr
 | ok fl=>
  cases fl with
  | ret obj=>
   obtain ⟨rfl,rfl⟩:=hr
   have hS:(s.heap.push { cls:=.type "set",dict:=none,data:=.set #[] 0 (.fresh 0 0 (L2.ledOf w)) }).get? s.heap.objs.size=some { cls:=.type "set",dict:=none,data:=.set #[] 0 (.fresh 0 0 (L2.ledOf w)) }:=Heap.get?_push_size _ rfl
   have hT:Shared.TypeIs { s with heap:=s.heap.push { cls:=.type "set",dict:=none,data:=.set #[] 0 (.fresh 0 0 (L2.ledOf w)) } } (.ref s.heap.objs.size) "set":=⟨_,hS,rfl⟩
   have hli:=F.called_set.init.lookup
   have hbi:=F.called_set.init.bind (.ref s.heap.objs.size)
   repeat (any_goals (first | assumption | wp_step))
   refine codeAny_mono (codeAny_call_builtin (R:=wants (fun r s₂=>r=.none∧∃ h' tk,s₂={ s with heap:=h',toks:=tk }∧L2.SetAtS prog w h' s.heap.objs.size (L2.ledOf w) (L2.dedupS ns)∧
     (∀ b o,s.heap.get? b=some o→h'.get? b=some o)) E) F.called_set.init.plain F.entry_set_init (check_set_init_1 hT ?_)) fun r₂ s₂ hr₂=>?_
   ·have hol':(s.heap.push { cls:=.type "set",dict:=none,data:=.set #[] 0 (.fresh 0 0 (L2.ledOf w)) }).get? l=some { cls:=.type "list",dict:=dd,data:=.seq its.toArray nl,slots:=sl }:=Heap.get?_push_of_some _ hol
    have hsls:=F.sub_list_set
    have hslf:=F.sub_list_frozenset
    have hne:(Value.type "list" == Value.type "dict")=false:=by decide
    have hl1:(s.heap.push { cls:=.type "set",dict:=none,data:=.set #[] 0 (.fresh 0 0 (L2.ledOf w)) }).IsList l its.toArray:=⟨_,hol',rfl,nl,rfl⟩
    unfold Builtin.«set.__init__» noKeywords Builtin.Frozenset.updateFrom
    generalize hPI:pyIter=PI
    wp_walk
    subst hPI
    refine wpAny_pyIter_list hl1 ?_
    refine wpAny_bind (wpAny_runValue ?_)
    have hlS:l < s.heap.objs.size:=Heap.lt_size hol
    have hh3:A.in1.in1.handled=none:=by simp [hh]
    have lt1:s.heap.objs.size < (s.heap.push { cls:=.type "set",dict:=none,data:=.set #[] 0 (.fresh 0 0 (L2.ledOf w)) }).objs.size:=Heap.lt_size hS
    refine L2.set_loopS (its:=its) (ns:=ns) (led:=L2.ledOf w) hh3 hi (Nat.ne_of_gt hlS) (Nat.ne_of_lt lt1) (Nat.ne_of_lt (Nat.lt_trans hlS lt1)) hb ns.length 0 _ (by omega) ?_ ?_ ?_ ?_
    ·exact ⟨_,Heap.get?_push_size _ rfl,rfl,rfl⟩
    ·exact hl1.push _
    ·refine ⟨#[],0,.fresh 0 0 (L2.ledOf w),?_,fun e he=>by simp at he,⟨[],.nil,.nil⟩,by decide,rfl,⟨rfl,rfl,List.Pairwise.nil⟩⟩
     exact Heap.get?_push_of_some _ hS
    ·intro h' tk hk hS'
     show wpAny _ _ _ _ _ _
     refine wpAny_pure ?_
     show wpAny _ _ (ret Value.none) _ _ _
     refine wpAny_pure ⟨rfl,h',tk,rfl,hS',fun b o e=>?_⟩
     have hb0:=Heap.lt_size e
     exact hk b o (Nat.ne_of_lt hb0) (Nat.ne_of_lt (Nat.lt_trans hb0 lt1)) (Heap.get?_push_of_some _ (Heap.get?_push_of_some _ e))
   ·cases r₂ with
    | error e=>exact hr₂
    | ok fl₂=>
     cases fl₂ with
     | ret r=>
      obtain ⟨rfl,h',tk,rfl,hS',hk'⟩:=hr₂
      repeat (any_goals (first | assumption | wp_step))
      exact h _ _ hS' hk'
     | _=>exact hr₂.elim
  | _=>exact hr.elim
end
end PySem
namespace L2
open PySem PySem.Spec PySem.Calls PyProof.Rows PySem.W
abbrev jhB (X:Cx) (v:Addr) (σ:List Str):HO:=.ext fun h=>SetAtS X.prog X.w h v (ledOf X.w) σ
theorem ZC:∀ {xs:List Str} {us:List Value},Vals (xs.map V.str) us→StrsAre us xs
 | [],us,h=>by cases h;exact .nil
 | x :: r,us,h=>by
  cases h with
  | cons h1 h2=>
   obtain ⟨t,rfl⟩:=h1
   exact .cons x t (ZC h2)
theorem K5 {X:Cx} (hc:X.calm=true):qt X (.type "set") (fun xs H Q=>∃ (p:Addr) (ns:List Str),xs=[.ref p]∧SqL X.K H p (ns.map V.str)∧ns.length≤1000∧∀ v,H v=none→Q (.ref v) (upd H v (jhB X v (dedupS ns)))):=by
 intro pins s σ H xs us Q I r h
 obtain ⟨p,ns,rfl,hq,hz,q⟩:=h
 obtain ⟨u,rfl,rx⟩:=zz r
 cases rx
 obtain ⟨its,rv,⟨⟨c1,d1,t1,l1⟩,n1,o1,z1,z2,z3⟩,hz1⟩:=I.list hq
 simp only at z1 z2 z3
 subst z1 z2 z3
 refine PySem.set_of_listS (I.ok.hd hc) o1 (ZC rv) (by unfold scanBound;omega) fun h' tk hS hk=>?_
 have hS':=hS
 obtain ⟨es,ep,t,e,_⟩:=hS'
 refine ⟨.ref s.heap.objs.size,_,I.laid (t':=tk) hk (Nat.le_refl _) (show ObjOk X.prog X.w _ _ _ (jhB X s.heap.objs.size (dedupS ns)) from ⟨hS,⟨_,e⟩,fun h1 h2 x k=>x.kept k⟩),rfl,q _ (I.hok.fresh (Nat.le_refl _))⟩
end L2
namespace PySem
end PySem
namespace L2
open PySem PySem.Spec PySem.Calls PyProof.Rows PySem.W
def jcF (m:Nat):Prop:=m=7∨m=15∨m=31∨m=63
structure SmS (prog:Program) (w:World) (h:Heap) (a:Addr) (led:Bool) (σ:List Str) (es:Array (Int×Value)) (ep:Nat) (t:SetTable):Prop where
 o:h.get? a=some (jdq es ep t)
 el:ElemsOf (PySem.strKind prog w) es.toList
 pm:∃ l:List Str,StrsAre (es.toList.map (·.2)) l∧l.Perm σ
 fit:t.fits es.size=true
 tab:TabOk led t
 sm:jcF t.mask
theorem SmS.len {prog:Program} {w:World} {h:Heap} {a:Addr} {led:Bool} {σ:List Str} {es:Array (Int×Value)} {ep:Nat} {t:SetTable} (x:SmS prog w h a led σ es ep t):es.size=σ.length:=by
 obtain ⟨l,h1,h2⟩:=x.pm
 have:=h1.length
 rw [List.length_map,Array.length_toList] at this
 rw [this,h2.length_eq]
end L2
namespace PySem.F
end PySem.F
namespace L2
open PySem PySem.Spec PyProof.Rows PySem.W
section
variable {prog:Program} {w:World} {A:Around} {E:Value→Shared→Prop} {s:Shared}
theorem SetAtS.type {h:Heap} {a:Addr} {led:Bool} {σ:List Str} (x:SetAtS prog w h a led σ):∃ es ep t,h.get? a=some (jdq es ep t)∧t.fits es.size=true:=by
 obtain ⟨es,ep,t,e,_,_,_,hf,_⟩:=x
 exact ⟨es,ep,t,e,hf⟩
end
end L2
namespace LW
open PySem L2
theorem zL {n:Nat} (h:n≤1000):n≤sizeLine:=Nat.le_of_lt (jJ h)
theorem sm {n:Nat} (h:n.ble 1000=true):n≤sizeLine:=zL (Nat.le_of_ble_eq_true h)
inductive Tm where
 | is (x:Str) | at_ (r x:Str) (d:Int)
inductive Bd where
 | is (x:Str) | row (r:Str)
inductive Cl where
 | least (a b:Tm) (c:Int) | each (t:Str) (td:Int) (u:Str) (ud:Int) (r way:Str) (b:Bd) (c:Int) | rise (t:Str) (td:Int) (u:Str) (ud:Int) (r:Str)
inductive Sm where
 | set (x:Str) (t:Tm) (c:Int) | put (r x:Str) (d:Int) (t:Tm) (c:Int) | any (x:Str) | claim (C:Cl) | call (x f:Str) (as rs:List Str)
def plD (x:Str) (d:Int):D:=.tup [.str x,.int d]
def Tm.toD:Tm→D
 | .is x=>.tup [.str "is",.str x]
 | .at_ r x d=>.tup [.str "at",.str r,plD x d]
def Bd.toD:Bd→D
 | .is x=>.tup [.str "is",.str x]
 | .row r=>.tup [.str "row",.str r]
def Cl.toD:Cl→D
 | .least a b c=>.tup [.str "least",a.toD,b.toD,.int c]
 | .each t td u ud r way b c=>.tup [.str "each",plD t td,plD u ud,.str r,.str way,b.toD,.int c]
 | .rise t td u ud r=>.tup [.str "rise",plD t td,plD u ud,.str r]
def Tm.ns:Tm→List Str
 | .is x=>[x]
 | .at_ _ x _=>[x]
def Cl.ns:Cl→List Str
 | .least a b _=>a.ns++b.ns
 | .each t _ u _ _ _ b _=>[t,u]++(match b with | .is x=>[x] | .row _=>[])
 | .rise t _ u _ _=>[t,u]
def Sm.ns:Sm→List Str
 | .set x t _=>[x]++t.ns
 | .put _ x _ t _=>[x]++t.ns
 | .any x=>[x]
 | .claim C=>C.ns
 | .call x _ as _=>[x]++as
def Sm.few:Sm→Prop
 | .call _ _ as rs=>as.length≤6∧rs.length≤6
 | _=>True
theorem j9 {H:Hp} {x:Int} {v:V} (h:Held H (.int x) v):v=.int x:=by unfold Held at h;exact h
theorem jQ {H:Hp} {ds:List D} {v:V} (h:Held H (.tup ds) v):∃ a xs,v=.ref a∧H a=some (.tup xs)∧HeldL H ds xs:=by unfold Held at h;exact h
theorem jO {H:Hp} {vs:List V} (h:HeldL H [] vs):vs=[]:=by unfold HeldL at h;exact h
theorem jk {H:Hp} {d:D} {ds:List D} {vs:List V} (h:HeldL H (d :: ds) vs):∃ v r,vs=v :: r∧Held H d v∧HeldL H ds r:=by unfold HeldL at h;exact h
theorem js {H:Hp} {x:Str} {v:V} (h:Held H (.str x) v):v=.str x:=by unfold Held at h;exact h
theorem yA {H:Hp} {x:Str} {d:Int} {v:V} (h:Held H (plD x d) v):∃ a,v=.ref a∧H a=some (.tup [.str x,.int d]):=by
 obtain ⟨a,xs,rfl,ha,h1⟩:=jQ h
 obtain ⟨v1,r1,rfl,e1,h2⟩:=jk h1
 obtain ⟨v2,r2,rfl,e2,h3⟩:=jk h2
 cases jO h3
 cases js e1
 cases j9 e2
 exact ⟨a,rfl,ha⟩
theorem ZE {H:Hp} {x y:Str} {v:V} (h:Held H (.tup [.str x,.str y]) v):∃ a,v=.ref a∧H a=some (.tup [.str x,.str y]):=by
 obtain ⟨a,xs,rfl,ha,h1⟩:=jQ h
 obtain ⟨v1,r1,rfl,e1,h2⟩:=jk h1
 obtain ⟨v2,r2,rfl,e2,h3⟩:=jk h2
 cases jO h3
 cases js e1
 cases js e2
 exact ⟨a,rfl,ha⟩
theorem qC {H:Hp} {a b:Tm} {c:Int} {v:V} (h:Held H (Cl.least a b c).toD v):∃ t va vb,v=.ref t∧H t=some (.tup [.str "least",va,vb,.int c])∧Held H a.toD va∧Held H b.toD vb:=by
 obtain ⟨t,xs,rfl,ht,h1⟩:=jQ h
 obtain ⟨v1,r1,rfl,e1,h2⟩:=jk h1
 obtain ⟨v2,r2,rfl,e2,h3⟩:=jk h2
 obtain ⟨v3,r3,rfl,e3,h4⟩:=jk h3
 obtain ⟨v4,r4,rfl,e4,h5⟩:=jk h4
 cases jO h5
 cases js e1
 cases j9 e4
 exact ⟨t,v2,v3,rfl,ht,e2,e3⟩
theorem y6 {H:Hp} {x y r:Str} {d e:Int} {v:V} (h:Held H (Cl.rise x d y e r).toD v):∃ t a b,v=.ref t∧H t=some (.tup [.str "rise",.ref a,.ref b,.str r])∧H a=some (.tup [.str x,.int d])∧H b=some (.tup [.str y,.int e]):=by
 obtain ⟨t,xs,rfl,ht,h1⟩:=jQ h
 obtain ⟨v1,r1,rfl,e1,h2⟩:=jk h1
 obtain ⟨v2,r2,rfl,e2,h3⟩:=jk h2
 obtain ⟨v3,r3,rfl,e3,h4⟩:=jk h3
 obtain ⟨v4,r4,rfl,e4,h5⟩:=jk h4
 cases jO h5
 cases js e1
 cases js e4
 obtain ⟨a,rfl,ha⟩:=yA e2
 obtain ⟨b,rfl,hb⟩:=yA e3
 exact ⟨t,a,b,rfl,ht,ha,hb⟩
theorem zh {H:Hp} {x y r way:Str} {d e c:Int} {bd:Bd} {v:V} (h:Held H (Cl.each x d y e r way bd c).toD v):∃ t a b vb,v=.ref t∧H t=some (.tup [.str "each",.ref a,.ref b,.str r,.str way,.ref vb,.int c])∧H a=some (.tup [.str x,.int d])∧H b=some (.tup [.str y,.int e])∧H vb=some (.tup (match bd with | .is z=>[.str "is",.str z] | .row z=>[.str "row",.str z])):=by
 obtain ⟨t,xs,rfl,ht,h1⟩:=jQ h
 obtain ⟨v1,r1,rfl,e1,h2⟩:=jk h1
 obtain ⟨v2,r2,rfl,e2,h3⟩:=jk h2
 obtain ⟨v3,r3,rfl,e3,h4⟩:=jk h3
 obtain ⟨v4,r4,rfl,e4,h5⟩:=jk h4
 obtain ⟨v5,r5,rfl,e5,h6⟩:=jk h5
 obtain ⟨v6,r6,rfl,e6,h7⟩:=jk h6
 obtain ⟨v7,r7,rfl,e7,h8⟩:=jk h7
 cases jO h8
 cases js e1
 cases js e4
 cases js e5
 cases j9 e7
 obtain ⟨a,rfl,ha⟩:=yA e2
 obtain ⟨b,rfl,hb⟩:=yA e3
 cases bd with
 | is z=>
  obtain ⟨vb,rfl,hvb⟩:=ZE e6
  exact ⟨t,a,b,vb,rfl,ht,ha,hb,hvb⟩
 | row z=>
  obtain ⟨vb,rfl,hvb⟩:=ZE e6
  exact ⟨t,a,b,vb,rfl,ht,ha,hb,hvb⟩
end LW
namespace L2
open PySem
def ltS (a b:Str):Bool:=decide (a.cps.toList < b.cps.toList)
mutual
def dLt:D→D→Bool
 | .int a,.int b=>decide (a < b)
 | .int _,.str _=>true
 | .int _,.tup _=>true
 | .str _,.int _=>false
 | .str a,.str b=>ltS a b
 | .str _,.tup _=>true
 | .tup _,.int _=>false
 | .tup _,.str _=>false
 | .tup a,.tup b=>dLtL a b
def dLtL:List D→List D→Bool
 | [],[]=>false
 | [],_ :: _=>true
 | _ :: _,[]=>false
 | x :: xs,y :: ys=>if dEq x y=true then dLtL xs ys else dLt x y
end
mutual
def Cmp:D→D→Prop
 | .int _,.int _=>True
 | .str _,.str _=>True
 | .tup a,.tup b=>CmpL a b
 | .int _,.str _=>False
 | .int _,.tup _=>False
 | .str _,.int _=>False
 | .str _,.tup _=>False
 | .tup _,.int _=>False
 | .tup _,.str _=>False
def CmpL:List D→List D→Prop
 | [],_=>True
 | _ :: _,[]=>True
 | x :: xs,y :: ys=>(dEq x y=true→CmpL xs ys)∧(dEq x y=false→Cmp x y)
end
theorem zm (x y:D) (xs ys:List D):dLtL (x :: xs) (y :: ys)=if dEq x y=true then dLtL xs ys else dLt x y:=by rw [dLtL]
theorem jfK (a:Str):ltS a a=false:=decide_eq_false (List.lt_irrefl _)
theorem jck {a b c:Str} (h:ltS a b=true) (h':ltS b c=true):ltS a c=true:=decide_eq_true (List.lt_trans (of_decide_eq_true h) (of_decide_eq_true h'))
theorem jdd {a b:Str} (h:a.cps.toList=b.cps.toList):a=b:=by
 cases a;cases b
 congr 1
 exact Array.toList_inj.mp h
theorem jfJ {a b:Str} (h:ltS a b=false) (h':ltS b a=false):a=b:=jdd (List.le_antisymm (List.not_lt.mp (of_decide_eq_false h')) (List.not_lt.mp (of_decide_eq_false h)))
mutual
theorem J7:∀ a:D,dLt a a=false
 | .int a=>by unfold dLt;exact decide_eq_false (Int.lt_irrefl a)
 | .str a=>by unfold dLt;exact jfK a
 | .tup a=>by unfold dLt;exact dLtL_irr a
theorem dLtL_irr:∀ a:List D,dLtL a a=false
 | []=>by unfold dLtL;rfl
 | x :: xs=>by rw [zm,if_pos (kl.mpr rfl)];exact dLtL_irr xs
end
mutual
theorem Jl:∀ a b:D,dLt a b=false→dLt b a=false→a=b
 | .int a,.int b,h,h'=>by
  unfold dLt at h h'
  have:=of_decide_eq_false h
  have:=of_decide_eq_false h'
  rw [show a=b by omega]
 | .str a,.str b,h,h'=>by unfold dLt at h h';rw [jfJ h h']
 | .tup a,.tup b,h,h'=>by unfold dLt at h h';rw [dLtL_tot a b h h']
 | .int a,.str b,h,h'=>by unfold dLt at h;cases h
 | .int a,.tup b,h,h'=>by unfold dLt at h;cases h
 | .str a,.int b,h,h'=>by unfold dLt at h';cases h'
 | .str a,.tup b,h,h'=>by unfold dLt at h;cases h
 | .tup a,.int b,h,h'=>by unfold dLt at h';cases h'
 | .tup a,.str b,h,h'=>by unfold dLt at h';cases h'
theorem dLtL_tot:∀ a b:List D,dLtL a b=false→dLtL b a=false→a=b
 | [],[],_,_=>rfl
 | [],y :: ys,h,_=>by unfold dLtL at h;cases h
 | x :: xs,[],_,h=>by unfold dLtL at h;cases h
 | x :: xs,y :: ys,h,h'=>by
  rw [zm] at h h'
  by_cases e:x=y
  ·subst e
   rw [if_pos (kl.mpr rfl)] at h h'
   rw [dLtL_tot xs ys h h']
  ·rw [if_neg (fun z=>e (kl.mp z))] at h
   rw [if_neg (fun z=>e (kl.mp z).symm)] at h'
   exact absurd (Jl x y h h') e
end
mutual
theorem zl:∀ a b c:D,dLt a b=true→dLt b c=true→dLt a c=true
 | .int a,.int b,.int c,h,h'=>by
  unfold dLt at h h' ⊢
  exact decide_eq_true (Int.lt_trans (of_decide_eq_true h) (of_decide_eq_true h'))
 | .str a,.str b,.str c,h,h'=>by unfold dLt at h h' ⊢;exact jck h h'
 | .tup a,.tup b,.tup c,h,h'=>by unfold dLt at h h' ⊢;exact dLtL_trans a b c h h'
 | .int a,.int b,.str c,_,_=>by unfold dLt;rfl
 | .int a,.int b,.tup c,_,_=>by unfold dLt;rfl
 | .int a,.str b,.str c,_,_=>by unfold dLt;rfl
 | .int a,.str b,.tup c,_,_=>by unfold dLt;rfl
 | .int a,.tup b,.tup c,_,_=>by unfold dLt;rfl
 | .str a,.str b,.tup c,_,_=>by unfold dLt;rfl
 | .str a,.tup b,.tup c,_,_=>by unfold dLt;rfl
 | .str a,.int b,_,h,_=>by unfold dLt at h;cases h
 | .tup a,.int b,_,h,_=>by unfold dLt at h;cases h
 | .tup a,.str b,_,h,_=>by unfold dLt at h;cases h
 | _,.str b,.int c,_,h=>by unfold dLt at h;cases h
 | _,.tup b,.int c,_,h=>by unfold dLt at h;cases h
 | _,.tup b,.str c,_,h=>by unfold dLt at h;cases h
theorem dLtL_trans:∀ a b c:List D,dLtL a b=true→dLtL b c=true→dLtL a c=true
 | [],[],_,h,_=>by unfold dLtL at h;cases h
 | [],_ :: _,[],_,h=>by unfold dLtL at h;cases h
 | [],_ :: _,_ :: _,_,_=>by unfold dLtL;rfl
 | _ :: _,[],_,h,_=>by unfold dLtL at h;cases h
 | _ :: _,_ :: _,[],_,h=>by unfold dLtL at h;cases h
 | x :: xs,y :: ys,z :: zs,h,h'=>by
  rw [zm] at h h' ⊢
  by_cases e:x=y
  ·subst e
   rw [if_pos (kl.mpr rfl)] at h
   by_cases e':x=z
   ·subst e'
    rw [if_pos (kl.mpr rfl)] at h' ⊢
    exact dLtL_trans xs ys zs h h'
   ·rw [if_neg (fun q=>e' (kl.mp q))] at h' ⊢
    exact h'
  ·rw [if_neg (fun q=>e (kl.mp q))] at h
   by_cases e':y=z
   ·subst e'
    rw [if_neg (fun q=>e (kl.mp q))]
    exact h
   ·rw [if_neg (fun q=>e' (kl.mp q))] at h'
    have h3:=zl x y z h h'
    by_cases e2:x=z
    ·subst e2
     have:=J7 x
     rw [h3] at this
     cases this
    ·rw [if_neg (fun q=>e2 (kl.mp q))]
     exact h3
end
theorem jfU (a b c:D) (h:dLt a c=true):dLt a b=true∨dLt b c=true:=by
 cases h1:dLt a b with
 | true=>exact .inl rfl
 | false=>
  cases h2:dLt b a with
  | true=>exact .inr (zl b a c h2 h)
  | false=>
   rw [Jl a b h1 h2] at h
   exact .inr h
open PySem PySem.Spec PyProof.Rows PySem.W
mutual
def TrAt (h:Heap):D→Value→Prop
 | .int i,v=>∃ t,v=.int i t
 | .str x,v=>∃ t,v=.str x t
 | .tup ds,v=>∃ a its,v=.ref a∧h.IsTuple a its∧TrAtL h ds its.toList
def TrAtL (h:Heap):List D→List Value→Prop
 | [],vs=>vs=[]
 | d :: ds,vs=>∃ v r,vs=v :: r∧TrAt h d v∧TrAtL h ds r
end
theorem TrAtL.length {h:Heap}:∀ {ds:List D} {vs:List Value},TrAtL h ds vs→ds.length=vs.length
 | [],vs,x=>by unfold TrAtL at x;rw [x];rfl
 | d :: ds,vs,x=>by
  unfold TrAtL at x
  obtain ⟨v,r,rfl,_,h2⟩:=x
  rw [List.length_cons,List.length_cons,TrAtL.length h2]
theorem TrAtL.get {h:Heap}:∀ {ds:List D} {vs:List Value} {i:Nat} {d:D},TrAtL h ds vs→ds[i]?=some d→∃ v,vs[i]?=some v∧TrAt h d v
 | [],_,_,_,_,e=>by simp at e
 | d :: ds,vs,0,_,x,e=>by
  unfold TrAtL at x
  obtain ⟨v,r,rfl,h1,_⟩:=x
  simp at e
  subst e
  exact ⟨v,by simp,h1⟩
 | d :: ds,vs,i+1,_,x,e=>by
  unfold TrAtL at x
  obtain ⟨v,r,rfl,_,h2⟩:=x
  obtain ⟨v',e1,e2⟩:=TrAtL.get (i:=i) h2 (by simpa using e)
  exact ⟨v',by simpa using e1,e2⟩
theorem Z4 {h:Heap} {a:Addr} {xs ys:Array Value} (h1:h.IsTuple a xs) (h2:h.IsTuple a ys):xs=ys:=by
 obtain ⟨o,e1,e2,n,e3⟩:=h1
 obtain ⟨o',f1,f2,n',f3⟩:=h2
 rw [e1] at f1
 cases f1
 rw [e3] at f3
 injection f3
mutual
theorem jao {h:Heap}:∀ {d d':D} {v:Value},TrAt h d v→TrAt h d' v→d=d'
 | .int i,.int j,v,x,y=>by unfold TrAt at x y;obtain ⟨t,rfl⟩:=x;obtain ⟨t',e⟩:=y;injection e with e;rw [e]
 | .str i,.str j,v,x,y=>by unfold TrAt at x y;obtain ⟨t,rfl⟩:=x;obtain ⟨t',e⟩:=y;injection e with e;rw [e]
 | .tup a,.tup b,v,x,y=>by
  unfold TrAt at x y
  obtain ⟨p,xs,rfl,e,hx⟩:=x
  obtain ⟨q,ys,e',f,hy⟩:=y
  injection e' with e'
  subst e'
  rw [Z4 f e] at hy
  rw [trL_inj hx hy]
 | .int i,.str j,v,x,y=>by unfold TrAt at x y;obtain ⟨t,rfl⟩:=x;obtain ⟨t',e⟩:=y;cases e
 | .int i,.tup j,v,x,y=>by unfold TrAt at x y;obtain ⟨t,rfl⟩:=x;obtain ⟨_,_,e,_⟩:=y;cases e
 | .str i,.int j,v,x,y=>by unfold TrAt at x y;obtain ⟨t,rfl⟩:=x;obtain ⟨t',e⟩:=y;cases e
 | .str i,.tup j,v,x,y=>by unfold TrAt at x y;obtain ⟨t,rfl⟩:=x;obtain ⟨_,_,e,_⟩:=y;cases e
 | .tup i,.int j,v,x,y=>by unfold TrAt at x y;obtain ⟨t,rfl⟩:=y;obtain ⟨_,_,e,_⟩:=x;cases e
 | .tup i,.str j,v,x,y=>by unfold TrAt at x y;obtain ⟨t,rfl⟩:=y;obtain ⟨_,_,e,_⟩:=x;cases e
theorem trL_inj {h:Heap}:∀ {d d':List D} {v:List Value},TrAtL h d v→TrAtL h d' v→d=d'
 | [],[],_,_,_=>rfl
 | a :: as,b :: bs,v,x,y=>by
  unfold TrAtL at x y
  obtain ⟨u,r,rfl,h1,h2⟩:=x
  obtain ⟨u',r',e,h1',h2'⟩:=y
  injection e with e1 e2
  subst e1 e2
  rw [jao h1 h1',trL_inj h2 h2']
 | [],b :: bs,v,x,y=>by unfold TrAtL at x y;subst x;obtain ⟨_,_,e,_⟩:=y;cases e
 | a :: as,[],v,x,y=>by unfold TrAtL at x y;subst y;obtain ⟨_,_,e,_⟩:=x;cases e
end
mutual
theorem TrAt.kept {h h':Heap} (k:∀ a xs,h.IsTuple a xs→h'.IsTuple a xs):∀ {d:D} {v:Value},TrAt h d v→TrAt h' d v
 | .int i,v,x=>by unfold TrAt at x ⊢;exact x
 | .str i,v,x=>by unfold TrAt at x ⊢;exact x
 | .tup ds,v,x=>by
  unfold TrAt at x ⊢
  obtain ⟨a,its,rfl,e,hx⟩:=x
  exact ⟨a,its,rfl,k a its e,TrAtL.kept k hx⟩
theorem TrAtL.kept {h h':Heap} (k:∀ a xs,h.IsTuple a xs→h'.IsTuple a xs):∀ {ds:List D} {vs:List Value},TrAtL h ds vs→TrAtL h' ds vs
 | [],vs,x=>by unfold TrAtL at x ⊢;exact x
 | d :: ds,vs,x=>by
  unfold TrAtL at x ⊢
  obtain ⟨v,r,e,h1,h2⟩:=x
  exact ⟨v,r,e,TrAt.kept k h1,TrAtL.kept k h2⟩
end
section
variable {s:Shared}
theorem jbM:∀ (n:Nat) (A:Around) (d d':D) (u v:Value),d.depth≤n→A.units+n < cLine→TrAt s.heap d u→TrAt s.heap d' v→SeqAt.EqAt A s u v (dEq d d'):=by
 intro n
 induction n with
 | zero=>
  intro A d d' u v hd hA hx hy
  have hA':A.units < cLine:=by omega
  cases d with
  | int i=>
   unfold TrAt at hx
   obtain ⟨t,rfl⟩:=hx
   cases d' with
   | int j=>unfold TrAt at hy;obtain ⟨t',rfl⟩:=hy;unfold dEq;exact SeqAt.EqAt.int_int i t j t'
   | str j=>unfold TrAt at hy;obtain ⟨t',rfl⟩:=hy;unfold dEq;exact SeqAt.EqAt.int_str i t j t'
   | tup ds=>unfold TrAt at hy;obtain ⟨b,ys,rfl,hb,_⟩:=hy;unfold dEq;exact SeqAt.EqAt.int_tuple i t hb hA'
  | str i=>
   unfold TrAt at hx
   obtain ⟨t,rfl⟩:=hx
   cases d' with
   | int j=>unfold TrAt at hy;obtain ⟨t',rfl⟩:=hy;unfold dEq;exact SeqAt.EqAt.str_int i t j t'
   | str j=>unfold TrAt at hy;obtain ⟨t',rfl⟩:=hy;unfold dEq;exact SeqAt.EqAt.str_str i t j t'
   | tup ds=>unfold TrAt at hy;obtain ⟨b,ys,rfl,hb,_⟩:=hy;unfold dEq;exact SeqAt.EqAt.str_tuple i t hb hA'
  | tup ds=>unfold D.depth at hd;omega
 | succ n ih=>
  intro A d d' u v hd hA hx hy
  have hA':A.units < cLine:=by omega
  cases d with
  | int i=>exact ih A (.int i) d' u v (by unfold D.depth;omega) (by omega) hx hy
  | str z=>exact ih A (.str z) d' u v (by unfold D.depth;omega) (by omega) hx hy
  | tup ds=>
   have hx0:=hx
   unfold TrAt at hx
   obtain ⟨a,its,rfl,ta,hxs⟩:=hx
   cases d' with
   | int j=>unfold TrAt at hy;obtain ⟨t',rfl⟩:=hy;unfold dEq;exact SeqAt.EqAt.tuple_int j t' ta hA'
   | str j=>unfold TrAt at hy;obtain ⟨t',rfl⟩:=hy;unfold dEq;exact SeqAt.EqAt.tuple_str j t' ta hA'
   | tup ds'=>
    have hy0:=hy
    unfold TrAt at hy
    obtain ⟨b,its2,rfl,tb,hys⟩:=hy
    by_cases hab:a=b
    ·subst hab
     rw [kl.mpr (jao hx0 hy0)]
     exact SeqAt.EqAt.same _
    ·refine SeqAt.EqAt.of_refs hab ?_
     have l1:ds.length=its.size:=by have:=hxs.length;simpa using this
     have l2:ds'.length=its2.size:=by have:=hys.length;simpa using this
     have key:=SeqAt.RcAt.tuples (A:=A) (s:=s) (e:=fun j=>dEq (ds.getD j (.int 0)) (ds'.getD j (.int 0))) ta tb (by omega) (fun j h1 h2=>by
      have hj:j < ds.length:=by omega
      have hj':j < ds'.length:=by omega
      have ej:ds[j]?=some ds[j]:=List.getElem?_eq_getElem hj
      obtain ⟨x',hx',gx⟩:=hxs.get ej
      obtain ⟨y',hy',gy⟩:=hys.get (List.getElem?_eq_getElem hj')
      have eu:its[j]=x':=by
       have:=(List.getElem?_eq_some_iff.mp hx').2
       simpa using this
      have ev:its2[j]=y':=by
       have:=(List.getElem?_eq_some_iff.mp hy').2
       simpa using this
      rw [eu,ev]
      unfold D.depth at hd
      have g1:ds.getD j (.int 0)=ds[j]:=by simp [hj]
      have g2:ds'.getD j (.int 0)=ds'[j]:=by simp [hj']
      rw [g1,g2]
      exact ih A.in1 ds[j] ds'[j] x' y' (by have:=D.depthL_get ej;omega) (by show A.units+1+n < cLine;omega) gx gy)
     have e:((List.range (min its.size its2.size)).all (fun j=>dEq (ds.getD j (.int 0)) (ds'.getD j (.int 0))) && its.size == its2.size)=dEqL ds ds':=by
      rw [← l1,← l2]
      exact zS ds ds'
     rw [e] at key
     unfold dEq
     exact key
def jcG (A:Around) (s:Shared) (u v:Value) (r:Bool):Prop:=∀ (prog:Program) (w:World) (E:Value→Shared→Prop) (Q:Value→Shared→Prop),Q (.bool r) s→wpAny (model prog w) A (richCompare .Lt u v) Q E s
theorem jdv (A:Around) (s:Shared) (a:Str) (t:Tok) (c:Str) (u:Tok):jcG A s (.str a t) (.str c u) (ltS a c):=fun prog w E Q h=>
 (PyProof.Rows.lt_str h:wpAny (model prog w) A (compareOp .Lt (.str a t) (.str c u)) Q E s)
theorem jdw (A:Around) (s:Shared) (a:Int) (t:Tok) (c:Int) (u:Tok):jcG A s (.int a t) (.int c u) (decide (a < c)):=fun prog w E Q h=>
 (PyProof.Rows.lt_int h:wpAny (model prog w) A (compareOp .Lt (.int a t) (.int c u)) Q E s)
inductive LexAt (A:Around) (s:Shared):List D→List D→List Value→List Value→Prop
 | nilL {ys:List D} {vs:List Value}:ys.length=vs.length→LexAt A s [] ys [] vs
 | nilR {xs:List D} {vs:List Value}:xs.length=vs.length→LexAt A s xs [] vs []
 | cons {x y:D} {xs ys:List D} {u v:Value} {us vs:List Value}:xs.length=us.length→ys.length=vs.length→SeqAt.EqAt A s u v (dEq x y)→(dEq x y=true→LexAt A s xs ys us vs)→(dEq x y=false→jcG A s u v (dLt x y))→LexAt A s (x :: xs) (y :: ys) (u :: us) (v :: vs)
end
section
open PySem.SeqAt
open PySem.AutoSeq1 (wpAny_loadPart')
open PySem.MeetsSeq PySem.MeetsSeq2 PySem.MeetsSeq3
theorem Zz (l b:Addr) (items items2:Array Value) (n n2:Nat) (dd dd2:Option Addr) (sl sl2:Array (Option Value)) (ds es:List D) (h1:ds.length=items.size) (h2:es.length=items2.size) :
  Meets (Builtin.«tuple.__lt__» ⟨[.ref l,.ref b],[]⟩)
   (fun A R s=>s.heap.get? l=some { cls:=.type "tuple",dict:=dd,data:=.seq items n,slots:=sl }∧s.heap.get? b=some { cls:=.type "tuple",dict:=dd2,data:=.seq items2 n2,slots:=sl2 }∧LexAt A.in1 s ds es items.toList items2.toList∧
    R (.ok (.ret (.bool (dLtL ds es)))) s):=
 .of_wp fun prog w A R s h=>by
  obtain ⟨hp,g,d,tk,os⟩:=s;obtain ⟨hl,hb,hL,h⟩:=h
  have f2:=AutoSeq1.sub_tuple_tuple
  wp_walk using wpAny_loadPart' hl,wpAny_loadPart' hb,wpAny_forIn_list _ (fun zC b s'=>b.1=none∧s'=⟨hp,g,d,tk,os⟩∧∃ (vs ws:List Value) (ds' es':List D),zC=vs.zip ws∧
   LexAt A.in1 ⟨hp,g,d,tk,os⟩ ds' es' vs ws∧ds'.length+items2.size=es'.length+items.size∧R (.ok (.ret (.bool (dLtL ds' es')))) ⟨hp,g,d,tk,os⟩) _
  case turn=>
   rintro ⟨y,x⟩ zC b s' ⟨hb',rfl,vs,ws,ds',es',hz,hL',hlen,hR⟩
   cases hL' with
   | nilL e=>rw [List.zip_nil_left] at hz;cases hz
   | nilR e=>rw [List.zip_nil_right] at hz;cases hz
   | @cons x0 y0 _ _ _ _ _ _ e1 e2 he hy hn=>
    rw [List.zip_cons_cons] at hz
    injection hz with hyx hrest
    injection hyx with hy' hx'
    subst hy' hx'
    rw [zm] at hR
    simp only [List.length_cons] at hlen
    refine wpAny_bind (he prog w _ _ ?_)
    cases hE:dEq x0 y0 with
    | true=>
     rw [if_pos hE] at hR
     wp_walk
     exact ⟨rfl,rfl,_,_,_,_,hrest,hy hE,by omega,hR⟩
    | false=>
     rw [if_neg (by rw [hE];exact Bool.false_ne_true)] at hR
     have hri:=hn hE prog w
     wp_walk using hri
     exact ⟨_,rfl,by simpa using hR⟩
  case fin=>
   rintro ⟨b1,b2⟩ s' ⟨hb',rfl,vs,ws,ds',es',hz,hL',hlen,hR⟩
   simp only at hb'
   subst hb'
   have hv:dLtL ds' es'=decide (items.size < items2.size):=by
    cases hL' with
    | nilL e=>
     cases es' with
     | nil=>
      simp only [List.length_nil] at hlen
      unfold dLtL
      exact (decide_eq_false (by omega)).symm
     | cons c u=>
      simp only [List.length_nil,List.length_cons] at hlen
      unfold dLtL
      exact (decide_eq_true (by omega)).symm
    | nilR e=>
     cases ds' with
     | nil=>
      simp only [List.length_nil] at hlen
      unfold dLtL
      exact (decide_eq_false (by omega)).symm
     | cons c u=>
      simp only [List.length_nil,List.length_cons] at hlen
      unfold dLtL
      exact (decide_eq_false (by omega)).symm
    | cons _ _ _ _ _=>
     rw [List.zip_cons_cons] at hz
     cases hz
   rw [hv] at hR
   wp_walk
   exact ⟨_,rfl,by simpa [Builtin.Tuple.tupleCompareSizes] using hR⟩
  case h=>
   exact ⟨rfl,rfl,items.toList,items2.toList,ds,es,rfl,hL,by omega,h⟩
end
end L2
namespace Tm
open PySem PyProof.Rows
def qm:Bool→Keyed→Array Keyed→Nat→Nat→Nat→StateT SortSt Sem (Option Nat):=sortPriv% PySem.Builtin.gallop
def kP:Nat→StateT SortSt Sem Unit:=sortPriv% PySem.Builtin.setMinGallop
def qW (left:Bool) (key:Keyed) (arr:Array Keyed) (base:Nat) (i:Nat):StateT SortSt Sem (Option Bool):=do
 let x ← elem' arr (base+i)
 if left then lt' x key else return (← lt' key x).map (!·)
abbrev GT:Type:=Option (Option Nat)×Nat×Nat
def YB (left:Bool) (key:Keyed) (arr:Array Keyed) (base n lo hi:Nat):StateT SortSt Sem (Option Nat):=do
 let r ← forIn [0:n] ((none,lo,hi):GT) fun _ c=>
  if c.2.1 ≥ c.2.2 then pure (.done (none,c.2.1,c.2.2)) else do
   match ← qW left key arr base (c.2.1+(c.2.2 - c.2.1) / 2) with
   | some yes=>if yes=true then pure (.yield (none,c.2.1+(c.2.2 - c.2.1) / 2+1,c.2.2)) else pure (.yield (none,c.2.1,c.2.1+(c.2.2 - c.2.1) / 2))
   | _=>pure (.done (some none,c.2.1,c.2.2))
 match r.1 with
 | some r=>pure r
 | none=>pure (some r.2.2)
def gup (left:Bool) (key:Keyed) (arr:Array Keyed) (base n hint:Nat):StateT SortSt Sem (Option Nat):=do
 let r ← forIn [0:n] ((none,0,1):GT) fun _ c=>
  if c.2.2 ≥ n - hint then pure (.done (none,c.2.1,c.2.2)) else do
   match ← qW left key arr base (hint+c.2.2) with
   | some yes=>if (!yes)=true then pure (.done (none,c.2.1,c.2.2)) else pure (.yield (none,c.2.2,2 * c.2.2+1))
   | _=>pure (.done (some none,c.2.1,c.2.2))
 match r.1 with
 | some r=>pure r
 | none=>YB left key arr base n (hint+r.2.1+1) (hint+min r.2.2 (n - hint))
def jem (left:Bool) (key:Keyed) (arr:Array Keyed) (base n hint:Nat):StateT SortSt Sem (Option Nat):=do
 let r ← forIn [0:n] ((none,0,1):GT) fun _ c=>
  if c.2.2 ≥ hint+1 then pure (.done (none,c.2.1,c.2.2)) else do
   match ← qW left key arr base (hint - c.2.2) with
   | some yes=>if yes=true then pure (.done (none,c.2.1,c.2.2)) else pure (.yield (none,c.2.2,2 * c.2.2+1))
   | _=>pure (.done (some none,c.2.1,c.2.2))
 match r.1 with
 | some r=>pure r
 | none=>YB left key arr base n (hint+1 - min r.2.2 (hint+1)) (hint - r.2.1)
theorem jaM (left:Bool) (key:Keyed) (arr:Array Keyed) (base n hint:Nat):qm left key arr base n hint=(qW left key arr base hint >>= fun o=>match o with
  | some right=>if right=true then gup left key arr base n hint else jem left key arr base n hint
  | _=>pure none):=by
 have e0:qm left key arr base n hint=(qW left key arr base hint >>= (_:Option Bool→StateT SortSt Sem (Option Nat))):=rfl
 rw [e0]
 congr 1
 funext o
 cases o with
 | none=>rfl
 | some right=>
  dsimp only
  congr 1
  ·unfold gup
   congr 1
   funext c
   obtain ⟨c1,c2,c3⟩:=c
   cases c1 with
   | some r=>rfl
   | none=>
    dsimp only
    unfold YB
    congr 1
    funext d
    obtain ⟨d1,d2,d3⟩:=d
    cases d1 <;> rfl
  ·unfold jem
   congr 1
   funext c
   obtain ⟨c1,c2,c3⟩:=c
   cases c1 with
   | some r=>rfl
   | none=>
    dsimp only
    unfold YB
    congr 1
    funext d
    obtain ⟨d1,d2,d3⟩:=d
    cases d1 <;> rfl
section
variable {prog:Program} {w:World} {A:Around} {E:Value→Shared→Prop} {s:Shared} {κ:KeyKind} {knd:SortKind}
def kq (κ:KeyKind) (p:Keyed):κ.α:=(κ.keyOf p.1).getD κ.dflt
def kB (κ:KeyKind) (p:Keyed):Prop:=∃ a,κ.keyOf p.1=some a
def LtAt (prog:Program) (w:World) (A:Around) (E:Value→Shared→Prop) (s:Shared) (knd:SortKind) (κ:KeyKind):Prop:=∀ (st:SortSt) (x y:Keyed) (Q:Option Bool→SortSt→Prop),kindOf st=knd→kB κ x→kB κ y→Q (some (κ.blt (kq κ x) (kq κ y))) st→wpS (model prog w) A E s (lt' x y) Q st
theorem YM {st:SortSt} {x y:Keyed} {Q:Option Bool→SortSt→Prop} (hO:LtAt prog w A E s knd κ) (hk:kindOf st=knd) (hx:kB κ x) (hy:kB κ y) (h:Q (some (κ.blt (kq κ x) (kq κ y))) st):wpS (model prog w) A E s (lt' x y) Q st:=hO st x y Q hk hx hy h
def bey (κ:KeyKind) (left:Bool) (key x:Keyed):Bool:=if left then κ.blt (kq κ x) (kq κ key) else !(κ.blt (kq κ key) (kq κ x))
theorem jak {st:SortSt} {left:Bool} {key:Keyed} {arr:Array Keyed} {base i:Nat} {Q:Option Bool→SortSt→Prop} (hO:LtAt prog w A E s knd κ) (hk:kindOf st=knd) (hx:kB κ key) (hi:base+i < arr.size) (hy:kB κ arr[base+i])
  (h:Q (some (bey κ left key arr[base+i])) st):wpS (model prog w) A E s (qW left key arr base i) Q st:=by
 unfold qW
 rw [elem'_eq,getElem?_pos arr (base+i) hi]
 refine wpS_bind (wpS_pure ?_)
 cases left with
 | true=>
  simp only [if_true]
  exact YM hO hk hy hx h
 | false=>
  simp only [Bool.false_eq_true,if_false]
  refine wpS_bind (YM hO hk hx hy ?_)
  exact wpS_pure h
def Turn (b:Nat→Bool) (n k:Nat):Prop:=k≤n∧(∀ i,i < k→b i=true)∧∀ i,k≤i→i < n→b i=false
theorem jai {st:SortSt} {left:Bool} {key:Keyed} {arr:Array Keyed} {base n hint:Nat} {Q:Option Nat→SortSt→Prop} (hO:LtAt prog w A E s knd κ) (hk:kindOf st=knd) (hx:kB κ key) (hn:base+n≤arr.size) (hh:hint < n) (hy:∀ i (h:i < arr.size),kB κ arr[i])
  (b:Nat→Bool) (hb:∀ i (h:base+i < arr.size),i < n→b i=bey κ left key arr[base+i]) (mono:∀ i j,i≤j→j < n→b j=true→b i=true) (h:∀ k,Turn b n k→Q (some k) st):wpS (model prog w) A E s (qm left key arr base n hint) Q st:=by
 have ask:∀ {Q:Option Bool→SortSt→Prop} (i:Nat),i < n→Q (some (b i)) st→wpS (model prog w) A E s (qW left key arr base i) Q st:=fun {Q} i hi q=>
  jak hO hk hx (by omega) (hy _ (by omega)) (by rw [← hb i (by omega) hi];exact q)
 have fin3:∀ (lo hi:Nat),lo≤hi→hi≤n→(∀ i,i < lo→b i=true)→(∀ i,hi≤i→i < n→b i=false)→
   wpS (model prog w) A E s (YB left key arr base n lo hi) Q st:=by
  intro lo hi h1 h2 h3 h4
  unfold YB
  refine wpS_bind (wpS_mono (wpS_forRange (I:=fun x c st'=>st'=st∧∃ l r,c=(none,l,r)∧l≤r∧r≤n∧r - l≤n - x∧(∀ i,i < l→b i=true)∧(∀ i,r≤i→i < n→b i=false))
   (Q:=fun c st'=>st'=st∧∃ r,c=(none,r,r)∧Turn b n r) ?step ?fin ⟨rfl,lo,hi,rfl,h1,h2,by omega,h3,h4⟩) ?post)
  case fin=>
   rintro c st' ⟨rfl,l,r,rfl,g1,g2,g3,g4,g5⟩
   have:l=r:=by omega
   subst this
   exact ⟨rfl,l,rfl,g2,g4,g5⟩
  case step=>
   rintro x c st' _ hxn ⟨rfl,l,r,rfl,g1,g2,g3,g4,g5⟩
   dsimp only
   by_cases hge:l ≥ r
   ·rw [if_pos hge]
    have:l=r:=by omega
    subst this
    exact wpS_pure ⟨rfl,l,rfl,g2,g4,g5⟩
   ·rw [if_neg hge]
    refine wpS_bind (ask (l+(r - l) / 2) (by omega) ?_)
    dsimp only
    cases hbo:b (l+(r - l) / 2) with
    | true=>
     simp only [if_true]
     exact wpS_pure ⟨rfl,_,_,rfl,by omega,g2,by omega,fun i hi=>mono i _ (by omega) (by omega) hbo,g5⟩
    | false=>
     simp only [Bool.false_eq_true,if_false]
     refine wpS_pure ⟨rfl,_,_,rfl,by omega,by omega,by omega,g4,fun i hi hin=>?_⟩
     cases e:b i with
     | false=>rfl
     | true=>
      have:=mono (l+(r - l) / 2) i hi hin e
      rw [hbo] at this
      cases this
  case post=>
   rintro c st' ⟨rfl,r,rfl,g⟩
   exact wpS_pure (h r g)
 rw [jaM]
 refine wpS_bind (ask hint hh ?_)
 dsimp only
 cases hbh:b hint with
 | true=>
  simp only [if_true]
  unfold gup
  refine wpS_bind (wpS_mono (wpS_forRange (I:=fun x c st'=>st'=st∧∃ l o,c=(none,l,o)∧l < o∧x+1≤o∧hint+l < n∧b (hint+l)=true)
   (Q:=fun c st'=>st'=st∧∃ l o,c=(none,l,o)∧l < o∧hint+l < n∧b (hint+l)=true∧(n≤hint+o∨b (hint+o)=false)) ?step ?fin ⟨rfl,0,1,rfl,by omega,by omega,by omega,hbh⟩) ?post)
  case fin=>
   rintro c st' ⟨rfl,l,o,rfl,h1,h2,h3,h4⟩
   exact ⟨rfl,l,o,rfl,h1,h3,h4,.inl (by omega)⟩
  case step=>
   rintro x c st' _ hxn ⟨rfl,l,o,rfl,h1,h2,h3,h4⟩
   dsimp only
   by_cases hge:o ≥ n - hint
   ·rw [if_pos hge]
    exact wpS_pure ⟨rfl,l,o,rfl,h1,h3,h4,.inl (by omega)⟩
   ·rw [if_neg hge]
    refine wpS_bind (ask (hint+o) (by omega) ?_)
    dsimp only
    cases hbo:b (hint+o) with
    | true=>
     simp only [Bool.not_true,Bool.false_eq_true,if_false]
     exact wpS_pure ⟨rfl,o,2 * o+1,rfl,by omega,by omega,by omega,hbo⟩
    | false=>
     simp only [Bool.not_false,if_true]
     exact wpS_pure ⟨rfl,l,o,rfl,h1,h3,h4,.inr hbo⟩
  case post=>
   rintro c st' ⟨rfl,l,o,rfl,h1,h3,h4,h5⟩
   dsimp only
   refine fin3 (hint+l+1) (hint+min o (n - hint)) (by omega) (by omega) (fun i hi=>mono i (hint+l) (by omega) (by omega) h4) (fun i hi hin=>?_)
   rcases h5 with h5 | h5
   ·omega
   ·cases e:b i with
    | false=>rfl
    | true=>
     have:=mono (hint+o) i (by omega) hin e
     rw [h5] at this
     cases this
 | false=>
  simp only [Bool.false_eq_true,if_false]
  unfold jem
  refine wpS_bind (wpS_mono (wpS_forRange (I:=fun x c st'=>st'=st∧∃ l o,c=(none,l,o)∧l < o∧x+1≤o∧l≤hint∧b (hint - l)=false)
   (Q:=fun c st'=>st'=st∧∃ l o,c=(none,l,o)∧l < o∧l≤hint∧b (hint - l)=false∧(hint < o∨b (hint - o)=true)) ?step ?fin ⟨rfl,0,1,rfl,by omega,by omega,by omega,hbh⟩) ?post)
  case fin=>
   rintro c st' ⟨rfl,l,o,rfl,h1,h2,h3,h4⟩
   exact ⟨rfl,l,o,rfl,h1,h3,h4,.inl (by omega)⟩
  case step=>
   rintro x c st' _ hxn ⟨rfl,l,o,rfl,h1,h2,h3,h4⟩
   dsimp only
   by_cases hge:o ≥ hint+1
   ·rw [if_pos hge]
    exact wpS_pure ⟨rfl,l,o,rfl,h1,h3,h4,.inl (by omega)⟩
   ·rw [if_neg hge]
    refine wpS_bind (ask (hint - o) (by omega) ?_)
    dsimp only
    cases hbo:b (hint - o) with
    | true=>
     simp only [if_true]
     exact wpS_pure ⟨rfl,l,o,rfl,h1,h3,h4,.inr hbo⟩
    | false=>
     simp only [Bool.false_eq_true,if_false]
     exact wpS_pure ⟨rfl,o,2 * o+1,rfl,by omega,by omega,by omega,hbo⟩
  case post=>
   rintro c st' ⟨rfl,l,o,rfl,h1,h3,h4,h5⟩
   dsimp only
   refine fin3 (hint+1 - min o (hint+1)) (hint - l) (by omega) (by omega) (fun i hi=>?_) (fun i hi hin=>?_)
   ·rcases h5 with h5 | h5
    ·omega
    ·exact mono i (hint - o) (by omega) (by omega) h5
   ·cases e:b i with
    | false=>rfl
    | true=>
     have:=mono (hint - l) i (by omega) hin e
     rw [h4] at this
     cases this
end
def Jb:Array Keyed→Array Keyed→StateT SortSt Sem (Array Keyed):=sortPriv% PySem.Builtin.mergeLo
def Jc:Array Keyed→Array Keyed→StateT SortSt Sem (Array Keyed):=sortPriv% PySem.Builtin.mergeHi
abbrev kS (st:SortSt) (g:Nat):SortSt:=SortSt.mk' (kindOf st) (arrOf st) (pendingOf st) g (failedOf st)
theorem kL (g:Nat):kP g=modify fun s=>kS s g:=rfl
abbrev SL (κ:KeyKind) (l:List Keyed):Prop:=l.Pairwise fun p q=>κ.kle (kq κ p) (kq κ q)
abbrev Le (κ:KeyKind) (p q:Keyed):Prop:=κ.kle (kq κ p) (kq κ q)
section
variable {κ:KeyKind} {knd:SortKind} {A B L:List Keyed} {ia ib:Nat}
structure LoI (κ:KeyKind) (A B L:List Keyed) (ia ib:Nat):Prop where
 perm:L.Perm (A.take ia++B.take ib)
 srt:SL κ L
 ba:∀ x∈L,∀ y∈A.drop ia,Le κ x y
 bb:∀ x∈L,∀ y∈B.drop ib,Le κ x y
theorem zy {l:List Keyed} {i:Nat} (h:i < l.length):l.drop i=l[i] :: l.drop (i+1):=List.drop_eq_getElem_cons h
theorem LoI.pushA (I:LoI κ A B L ia ib) (sa:SL κ A) (hi:ia < A.length) (h:∀ y∈B.drop ib,Le κ A[ia] y):LoI κ A B (L++[A[ia]]) (ia+1) ib:=by
 have hm:A[ia]∈A.drop ia:=by rw [zy hi];exact List.mem_cons_self
 refine ⟨?_,?_,fun x hx y hy=>?_,fun x hx y hy=>?_⟩
 ·rw [List.take_succ,List.getElem?_eq_getElem hi]
  refine (I.perm.append_right _).trans ?_
  show (A.take ia++B.take ib++[A[ia]]).Perm (A.take ia++[A[ia]]++B.take ib)
  rw [List.append_assoc,List.append_assoc]
  exact List.perm_append_comm.append_left _
 ·exact List.pairwise_append.mpr ⟨I.srt,List.pairwise_singleton _ _,fun x hx y hy=>by
   cases List.mem_singleton.mp hy
   exact I.ba x hx _ hm⟩
 ·rcases List.mem_append.mp hx with hx | hx
  ·exact I.ba x hx y (by rw [zy hi];exact List.mem_cons_of_mem _ hy)
  ·cases List.mem_singleton.mp hx
   have:=sa.drop (i:=ia)
   rw [zy hi] at this
   exact (List.pairwise_cons.mp this).1 y hy
 ·rcases List.mem_append.mp hx with hx | hx
  ·exact I.bb x hx y hy
  ·cases List.mem_singleton.mp hx
   exact h y hy
theorem LoI.swap (I:LoI κ A B L ia ib):LoI κ B A L ib ia:=⟨I.perm.trans List.perm_append_comm,I.srt,I.bb,I.ba⟩
theorem LoI.pushB (I:LoI κ A B L ia ib) (sb:SL κ B) (hi:ib < B.length) (h:∀ y∈A.drop ia,Le κ B[ib] y):LoI κ A B (L++[B[ib]]) ia (ib+1):=(I.swap.pushA sb hi h).swap
theorem LoI.runA (I:LoI κ A B L ia ib) (sa:SL κ A):∀ k,ia+k≤A.length→(∀ i (h:i < A.length),ia≤i→i < ia+k→∀ y∈B.drop ib,Le κ A[i] y)→LoI κ A B (L++(A.drop ia).take k) (ia+k) ib
 | 0,_,_=>by
  rw [List.take_zero,List.append_nil]
  exact I
 | k+1,hk,h=>by
  have ih:=LoI.runA I sa k (by omega) fun i hi h1 h2=>h i hi h1 (by omega)
  have hi:ia+k < A.length:=by omega
  have:=ih.pushA sa hi (h _ hi (by omega) (by omega))
  rw [List.append_assoc] at this
  rw [List.take_succ,List.getElem?_drop,List.getElem?_eq_getElem hi]
  exact this
theorem LoI.runB (I:LoI κ A B L ia ib) (sb:SL κ B) (k:Nat) (hk:ib+k≤B.length) (h:∀ i (h:i < B.length),ib≤i→i < ib+k→∀ y∈A.drop ia,Le κ B[i] y):LoI κ A B (L++(B.drop ib).take k) ia (ib+k):=(I.swap.runA sb k hk h).swap
def kJ (κ:KeyKind) (A B M:List Keyed):Prop:=M.Perm (A++B)∧SL κ M
theorem LoI.done (I:LoI κ A B L ia ib) (sa:SL κ A) (sb:SL κ B) (h:∀ x∈A.drop ia,∀ y∈B.drop ib,Le κ x y):kJ κ A B (L++A.drop ia++B.drop ib):=by
 refine ⟨?_,?_⟩
 ·have e1:=List.take_append_drop ia A
  have e2:=List.take_append_drop ib B
  have h1:(L++A.drop ia++B.drop ib).Perm ((A.take ia++B.take ib)++(A.drop ia++B.drop ib)):=by
   rw [List.append_assoc]
   exact I.perm.append_right _
  refine h1.trans ?_
  have h2:((A.take ia++B.take ib)++(A.drop ia++B.drop ib)).Perm ((A.take ia++A.drop ia)++(B.take ib++B.drop ib)):=by
   rw [List.append_assoc,List.append_assoc]
   refine List.Perm.append_left _ ?_
   rw [← List.append_assoc,← List.append_assoc]
   exact List.perm_append_comm.append_right _
  rw [e1,e2] at h2
  exact h2
 ·refine List.pairwise_append.mpr ⟨List.pairwise_append.mpr ⟨I.srt,sa.drop,I.ba⟩,sb.drop,fun x hx y hy=>?_⟩
  rcases List.mem_append.mp hx with hx | hx
  ·exact I.bb x hx y hy
  ·exact h x hx y hy
theorem LoI.last (I:LoI κ A B L ia ib) (sa:SL κ A) (sb:SL κ B) (h:∀ x∈B.drop ib,∀ y∈A.drop ia,Le κ x y):kJ κ A B (L++B.drop ib++A.drop ia):=by
 obtain ⟨h1,h2⟩:=I.swap.done sb sa h
 exact ⟨h1.trans List.perm_append_comm,h2⟩
end
theorem qr {a:Array Keyed} {i j:Nat}:(a.extract i j).toList=(a.toList.drop i).take (j - i):=by
 simp
theorem J5 {a:Array Keyed} {i:Nat}:(a.extract i a.size).toList=a.toList.drop i:=by
 rw [qr,List.take_of_length_le (by rw [List.length_drop];simp)]
abbrev LoT:Type:=Option (Array Keyed)×Array Keyed×Nat×Nat×Nat×Nat×Nat
abbrev qI (a b out:Array Keyed) (ia ib:Nat):Array Keyed:=out++a.extract ia a.size++b.extract ib b.size
abbrev yE (a b out:Array Keyed) (ia ib:Nat):Array Keyed:=out++b.extract ib b.size++a.extract ia a.size
def jbC (a b out:Array Keyed) (ia ib mg ac bc:Nat):StateT SortSt Sem (ForInStep LoT):=do
 let x ← elem' a ia
 if ia+1+1 == a.size then return .done (some (yE a b (out.push x) (ia+1) ib),out.push x,ia+1,ib,mg,ac,bc)
 else if (decide (ac < 7) && decide (bc < 7))=true then return .done (none,out.push x,ia+1,ib,mg,ac,bc)
 else return .yield (none,out.push x,ia+1,ib,mg,ac,bc)
def jaF (a b out:Array Keyed) (ia ib mg ac k:Nat):StateT SortSt Sem (ForInStep LoT):=
 if k > 0 then
  if ib+k == b.size then return .done (some (qI a b (out++b.extract ib (ib+k)) ia (ib+k)),out++b.extract ib (ib+k),ia,ib+k,mg,ac,k)
  else jbC a b (out++b.extract ib (ib+k)) ia (ib+k) mg ac k
 else jbC a b out ia ib mg ac k
def Y7 (a b out:Array Keyed) (ia ib mg ac bc:Nat):StateT SortSt Sem (ForInStep LoT):=do
 let y ← elem' b ib
 if ib+1 == b.size then return .done (some (qI a b (out.push y) ia (ib+1)),out.push y,ia,ib+1,mg,ac,bc)
 else do
  let x ← elem' a ia
  let r ← qm true x b (ib+1) (b.size - (ib+1)) 0
  match r with
  | some k=>jaF a b (out.push y) ia (ib+1) mg ac k
  | _=>return .done (some (qI a b (out.push y) ia (ib+1)),out.push y,ia,ib+1,mg,ac,bc)
def jbB (a b out:Array Keyed) (ia ib mg ac bc:Nat):StateT SortSt Sem (ForInStep LoT):=do
 kP mg
 let y ← elem' b ib
 let r ← qm false y a ia (a.size - ia) 0
 match r with
 | some k=>
  if k > 0 then
   if ia+k+1 == a.size then return .done (some (yE a b (out++a.extract ia (ia+k)) (ia+k) ib),out++a.extract ia (ia+k),ia+k,ib,mg,k,bc)
   else if ia+k == a.size then return .done (some (qI a b (out++a.extract ia (ia+k)) (ia+k) ib),out++a.extract ia (ia+k),ia+k,ib,mg,k,bc)
   else Y7 a b (out++a.extract ia (ia+k)) (ia+k) ib mg k bc
  else Y7 a b out ia ib mg k bc
 | _=>return .done (some (qI a b out ia ib),out,ia,ib,mg,ac,bc)
abbrev jaW:Type:=Option (Array Keyed)×Array Keyed×Nat×Nat×Nat×Nat
def jeb (a b:Array Keyed) (mg:Nat) (c:jaW):StateT SortSt Sem (ForInStep jaW):=do
 let y ← elem' b c.2.2.2.1
 let x ← elem' a c.2.2.1
 let r ← lt' y x
 match r with
 | some bWins=>
  if bWins=true then do
   let y ← elem' b c.2.2.2.1
   if c.2.2.2.1+1 == b.size then return .done (some (qI a b (c.2.1.push y) c.2.2.1 (c.2.2.2.1+1)),c.2.1.push y,c.2.2.1,c.2.2.2.1+1,0,c.2.2.2.2.2+1)
   else if c.2.2.2.2.2+1 ≥ mg then return .done (none,c.2.1.push y,c.2.2.1,c.2.2.2.1+1,0,c.2.2.2.2.2+1)
   else return .yield (none,c.2.1.push y,c.2.2.1,c.2.2.2.1+1,0,c.2.2.2.2.2+1)
  else do
   let x ← elem' a c.2.2.1
   if c.2.2.1+1+1 == a.size then return .done (some (yE a b (c.2.1.push x) (c.2.2.1+1) c.2.2.2.1),c.2.1.push x,c.2.2.1+1,c.2.2.2.1,c.2.2.2.2.1+1,0)
   else if c.2.2.2.2.1+1 ≥ mg then return .done (none,c.2.1.push x,c.2.2.1+1,c.2.2.2.1,c.2.2.2.2.1+1,0)
   else return .yield (none,c.2.1.push x,c.2.2.1+1,c.2.2.2.1,c.2.2.2.2.1+1,0)
 | _=>return .done (some (qI a b c.2.1 c.2.2.1 c.2.2.2.1),c.2.1,c.2.2.1,c.2.2.2.1,c.2.2.2.2.1,c.2.2.2.2.2)
abbrev jaX:Type:=Option (Array Keyed)×Array Keyed×Nat×Nat×Nat
def Y6 (a b:Array Keyed) (c:jaX):StateT SortSt Sem (ForInStep jaX):=do
 let d ← forIn [0:a.size+b.size] ((none,c.2.1,c.2.2.1,c.2.2.2.1,0,0):jaW) fun _ d=>jeb a b c.2.2.2.2 d
 match d.1 with
 | some r=>return .done (some r,d.2.1,d.2.2.1,d.2.2.2.1,c.2.2.2.2)
 | none=>do
  rule "list.sort.gallop"
  let e ← forIn [0:a.size+b.size] ((none,d.2.1,d.2.2.1,d.2.2.2.1,c.2.2.2.2+1,d.2.2.2.2.1,d.2.2.2.2.2):LoT) fun _ e=>
   if e.2.2.2.2.1 > 1 then jbB a b e.2.1 e.2.2.1 e.2.2.2.1 (e.2.2.2.2.1 - 1) e.2.2.2.2.2.1 e.2.2.2.2.2.2
   else jbB a b e.2.1 e.2.2.1 e.2.2.2.1 e.2.2.2.2.1 e.2.2.2.2.2.1 e.2.2.2.2.2.2
  match e.1 with
  | some r=>return .done (some r,e.2.1,e.2.2.1,e.2.2.2.1,e.2.2.2.2.1)
  | none=>do
   kP (e.2.2.2.2.1+1)
   return .yield (none,e.2.1,e.2.2.1,e.2.2.2.1,e.2.2.2.2.1+1)
set_option maxHeartbeats 4000000 in
theorem ZY (a b:Array Keyed):Jb a b=(do
 rule "list.sort.merge-lo"
 let y ← elem' b 0
 if 1 == b.size then return qI a b #[y] 0 1
 else if 0+1 == a.size then return yE a b #[y] 0 1
 else do
  let s ← get
  let c ← forIn [0:a.size+b.size] ((none,#[y],0,1,gallopOf s):jaX) fun _ c=>Y6 a b c
  match c.1 with
  | some r=>pure r
  | none=>unsupported "internal:list.sort.merge-bound"):=by
 have e0:Jb a b=((_:StateT SortSt Sem Unit) >>= (_:Unit→StateT SortSt Sem (Array Keyed))):=rfl
 rw [e0]
 congr 1;funext u
 dsimp only
 congr 1;funext y
 congr 1
 congr 1
 congr 1;funext s
 congr 1
 rotate_left
 ·funext c
  obtain ⟨c1,c2,c3,c4,c5⟩:=c
  cases c1 <;> rfl
 congr 1
 funext x c
 unfold Y6
 congr 1
 funext d
 obtain ⟨d1,d2,d3,d4,d5,d6⟩:=d
 cases d1 with
 | some r=>rfl
 | none=>
  dsimp only
  congr 1;funext _
  congr 1
  funext e
  obtain ⟨e1,e2,e3,e4,e5,e6,e7⟩:=e
  cases e1 <;> rfl
section
variable {prog:Program} {w:World} {A:Around} {E:Value→Shared→Prop} {s:Shared} {κ:KeyKind} {knd:SortKind} {a b:Array Keyed}
theorem zg {l:Array Keyed} {i:Nat} {y:Keyed} (h:y∈l.toList.drop i):∃ j,∃ h:j < l.size,i≤j∧y=l[j]:=by
 obtain ⟨n,hn,rfl⟩:=List.mem_iff_getElem.mp h
 rw [List.length_drop] at hn
 refine ⟨i+n,by simp at hn;omega,by omega,?_⟩
 rw [List.getElem_drop,Array.getElem_toList]
theorem zA {l:Array Keyed} (h:SL κ l.toList) {i j:Nat} (hi:i < l.size) (hj:j < l.size) (hij:i≤j):Le κ l[i] l[j]:=by
 rcases Nat.lt_or_ge i j with k | k
 ·have:=List.pairwise_iff_getElem.mp h i j (by simpa using hi) (by simpa using hj) k
  rw [Array.getElem_toList,Array.getElem_toList] at this
  exact this
 ·have:i=j:=by omega
  subst this
  exact KeyOrd.kle_refl _
structure MC (κ:KeyKind) (a b:Array Keyed):Prop where
 ka:∀ i (h:i < a.size),kB κ a[i]
 kb:∀ i (h:i < b.size),kB κ b[i]
 sa:SL κ a.toList
 sb:SL κ b.toList
 last:∀ j (h:j < b.size) (h':a.size - 1 < a.size),Le κ b[j] a[a.size - 1]
structure Alive (κ:KeyKind) (a b:Array Keyed) (N:Nat) (out:Array Keyed) (ia ib:Nat):Prop where
 inv:LoI κ a.toList b.toList out.toList ia ib
 la:ia+1 < a.size
 lb:ib < b.size
 many:N≤ia+ib
def PL (κ:KeyKind) (a b:Array Keyed) (st:SortSt) (N:Nat) (r:ForInStep LoT) (st':SortSt):Prop:=(∃ g,st'=kS st g)∧match r with
 | .done c=>(match c.1 with | some m=>kJ κ a.toList b.toList m.toList | none=>Alive κ a b N c.2.1 c.2.2.1 c.2.2.2.1)
 | .yield c=>c.1=none∧Alive κ a b N c.2.1 c.2.2.1 c.2.2.2.1
theorem jcz {out:Array Keyed} {ia ib:Nat}:(qI a b out ia ib).toList=out.toList++a.toList.drop ia++b.toList.drop ib:=by
 unfold qI
 rw [Array.toList_append,Array.toList_append,J5,J5]
theorem jco {out:Array Keyed} {ia ib:Nat}:(yE a b out ia ib).toList=out.toList++b.toList.drop ib++a.toList.drop ia:=by
 unfold yE
 rw [Array.toList_append,Array.toList_append,J5,J5]
theorem MC.fin {out:Array Keyed} {ia ib:Nat} (C:MC κ a b) (I:LoI κ a.toList b.toList out.toList ia ib) (h:ia=a.size∨ib=b.size):kJ κ a.toList b.toList (qI a b out ia ib).toList:=by
 rw [jcz]
 refine I.done C.sa C.sb fun x hx y hy=>?_
 rcases h with rfl | rfl
 ·rw [List.drop_eq_nil_of_le (by simp)] at hx;cases hx
 ·rw [List.drop_eq_nil_of_le (by simp)] at hy;cases hy
theorem MC.fin2 {out:Array Keyed} {ia ib:Nat} (C:MC κ a b) (I:LoI κ a.toList b.toList out.toList ia ib) (h:ia+1=a.size):kJ κ a.toList b.toList (yE a b out ia ib).toList:=by
 rw [jco]
 refine I.last C.sa C.sb fun x hx y hy=>?_
 obtain ⟨j,hj,_,rfl⟩:=zg hx
 obtain ⟨i,hi,h1,rfl⟩:=zg hy
 have:i=a.size - 1:=by omega
 subst this
 exact C.last j hj hi
theorem qO {out:Array Keyed} {x:Keyed}:(out.push x).toList=out.toList++[x]:=by simp
theorem MC.pushA {out:Array Keyed} {ia ib:Nat} (C:MC κ a b) (I:LoI κ a.toList b.toList out.toList ia ib) (hi:ia < a.size) (h:∀ j (hj:j < b.size),ib≤j→Le κ a[ia] b[j]):LoI κ a.toList b.toList (out.push a[ia]).toList (ia+1) ib:=by
 have:=I.pushA C.sa (by simpa using hi) fun y hy=>by
  obtain ⟨j,hj,h1,rfl⟩:=zg hy
  rw [Array.getElem_toList]
  exact h j hj h1
 rw [Array.getElem_toList] at this
 rw [qO]
 exact this
theorem MC.pushB {out:Array Keyed} {ia ib:Nat} (C:MC κ a b) (I:LoI κ a.toList b.toList out.toList ia ib) (hi:ib < b.size) (h:∀ j (hj:j < a.size),ia≤j→Le κ b[ib] a[j]):LoI κ a.toList b.toList (out.push b[ib]).toList ia (ib+1):=by
 have:=I.pushB C.sb (by simpa using hi) fun y hy=>by
  obtain ⟨j,hj,h1,rfl⟩:=zg hy
  rw [Array.getElem_toList]
  exact h j hj h1
 rw [Array.getElem_toList] at this
 rw [qO]
 exact this
theorem MC.runA {out:Array Keyed} {ia ib k:Nat} (C:MC κ a b) (I:LoI κ a.toList b.toList out.toList ia ib) (hk:ia+k≤a.size) (h:∀ i (hi:i < a.size),ia≤i→i < ia+k→∀ j (hj:j < b.size),ib≤j→Le κ a[i] b[j]):LoI κ a.toList b.toList (out++a.extract ia (ia+k)).toList (ia+k) ib:=by
 have:=I.runA C.sa k (by simpa using hk) fun i hi h1 h2 y hy=>by
  obtain ⟨j,hj,h3,rfl⟩:=zg hy
  rw [Array.getElem_toList]
  exact h i (by simpa using hi) h1 h2 j hj h3
 rw [Array.toList_append,qr,Nat.add_sub_cancel_left]
 exact this
theorem MC.runB {out:Array Keyed} {ia ib k:Nat} (C:MC κ a b) (I:LoI κ a.toList b.toList out.toList ia ib) (hk:ib+k≤b.size) (h:∀ i (hi:i < b.size),ib≤i→i < ib+k→∀ j (hj:j < a.size),ia≤j→Le κ b[i] a[j]):LoI κ a.toList b.toList (out++b.extract ib (ib+k)).toList ia (ib+k):=by
 have:=I.runB C.sb k (by simpa using hk) fun i hi h1 h2 y hy=>by
  obtain ⟨j,hj,h3,rfl⟩:=zg hy
  rw [Array.getElem_toList]
  exact h i (by simpa using hi) h1 h2 j hj h3
 rw [Array.toList_append,qr,Nat.add_sub_cancel_left]
 exact this
variable {st:SortSt} {N:Nat}
theorem j6 {l:Array Keyed} {i:Nat} {Q:Keyed→SortSt→Prop} (hi:i < l.size) (h:Q l[i] st):wpS (model prog w) A E s (elem' l i) Q st:=by
 rw [elem'_eq,getElem?_pos l i hi]
 exact wpS_pure h
theorem yc {left:Bool} {key:Keyed} {arr:Array Keyed} {base n hint:Nat} {Q:Option Nat→SortSt→Prop} (hO:LtAt prog w A E s knd κ) (hk:kindOf st=knd) (hx:kB κ key) (hn:base+n≤arr.size) (hh:hint < n) (hy:∀ i (h:i < arr.size),kB κ arr[i])
  (hs:∀ i j (hi:i < arr.size) (hj:j < arr.size),base≤i→i≤j→j < base+n→Le κ arr[i] arr[j])
  (h:∀ k,k≤n→(∀ i (hi:i < arr.size),base≤i→i < base+k→bey κ left key arr[i]=true)→(∀ i (hi:i < arr.size),base+k≤i→i < base+n→bey κ left key arr[i]=false)→Q (some k) st):wpS (model prog w) A E s (qm left key arr base n hint) Q st:=by
 refine jai (κ:=κ) hO hk hx hn hh hy (fun i=>if h:base+i < arr.size then bey κ left key arr[base+i] else false) (fun i hi _=>by rw [dif_pos hi]) (fun i j hij hj hb'=>?_) fun k hk=>?_
 ·rw [dif_pos (by omega)] at hb' ⊢
  have l1:=hs (base+i) (base+j) (by omega) (by omega) (by omega) (by omega) (by omega)
  cases left with
  | true=>exact KeyOrd.klt_of_kle_of_klt l1 (show κ.klt _ _ from hb')
  | false=>
   have hb2:κ.blt (kq κ key) (kq κ arr[base+j])=false:=by simpa [bey] using hb'
   have:κ.blt (kq κ key) (kq κ arr[base+i])=false:=KeyOrd.kle_trans l1 (show κ.kle _ _ from hb2)
   simpa [bey] using this
 ·obtain ⟨k1,k2,k3⟩:=hk
  refine h k k1 (fun i hi g1 g2=>?_) fun i hi g1 g2=>?_
  ·have:=k2 (i - base) (by omega)
   dsimp only at this
   have e:base+(i - base)=i:=by omega
   simp only [e] at this
   rw [dif_pos hi] at this
   exact this
  ·have:=k3 (i - base) (by omega) (by omega)
   dsimp only at this
   have e:base+(i - base)=i:=by omega
   simp only [e] at this
   rw [dif_pos hi] at this
   exact this
theorem jaR {key x:Keyed} (h:bey κ true key x=true):Le κ x key:=KeyOrd.kle_of_klt (show κ.klt _ _ from h)
theorem jaS {key x:Keyed} (h:bey κ true key x=false):Le κ key x:=h
theorem jaT {key x:Keyed} (h:bey κ false key x=true):Le κ x key:=by
 have:κ.blt (kq κ key) (kq κ x)=false:=by simpa [bey] using h
 exact this
theorem jaU {key x:Keyed} (h:bey κ false key x=false):κ.klt (kq κ key) (kq κ x):=by
 have:κ.blt (kq κ key) (kq κ x)=true:=by simpa [bey] using h
 exact this
theorem Zs (C:MC κ a b) {out:Array Keyed} {ia ib mg ac bc g:Nat} (I:LoI κ a.toList b.toList out.toList ia ib) (ha:ia+1 < a.size) (hb:ib < b.size) (hN:N≤ia+1+ib) (h:∀ j (hj:j < b.size),ib≤j→Le κ a[ia] b[j]) :
  wpS (model prog w) A E s (jbC a b out ia ib mg ac bc) (PL κ a b st N) (kS st g):=by
 unfold jbC
 refine wpS_bind (j6 (by omega) ?_)
 have I2:=C.pushA I (by omega) h
 by_cases h1:ia+1+1=a.size
 ·rw [if_pos (by simpa using h1)]
  exact wpS_pure ⟨⟨g,rfl⟩,C.fin2 I2 h1⟩
 ·rw [if_neg (by simpa using h1)]
  split
  ·exact wpS_pure ⟨⟨g,rfl⟩,I2,(by show ia+1+1 < a.size;omega),hb,hN⟩
  ·exact wpS_pure ⟨⟨g,rfl⟩,rfl,I2,(by show ia+1+1 < a.size;omega),hb,hN⟩
theorem jbZ (C:MC κ a b) {out:Array Keyed} {ia ib mg ac k g:Nat} (I:LoI κ a.toList b.toList out.toList ia ib) (ha:ia+1 < a.size) (hb:ib < b.size) (hN:N≤ia+1+ib) (hk:ib+k≤b.size)
  (hlt:∀ i (hi:i < b.size),ib≤i→i < ib+k→Le κ b[i] a[ia]) (hge:∀ j (hj:j < b.size),ib+k≤j→Le κ a[ia] b[j]) :
  wpS (model prog w) A E s (jaF a b out ia ib mg ac k) (PL κ a b st N) (kS st g):=by
 unfold jaF
 by_cases h0:k > 0
 ·rw [if_pos h0]
  have I2:=C.runB I hk fun i hi h1 h2 j hj h3=>KeyOrd.kle_trans (hlt i hi h1 h2) (zA C.sa (by omega) hj h3)
  by_cases h1:ib+k=b.size
  ·rw [if_pos (by simpa using h1)]
   exact wpS_pure ⟨⟨g,rfl⟩,C.fin I2 (.inr h1)⟩
  ·rw [if_neg (by simpa using h1)]
   exact Zs C I2 ha (by omega) (by omega) hge
 ·rw [if_neg h0]
  have:k=0:=by omega
  subst this
  exact Zs C I ha hb hN hge
theorem Ya (hO:LtAt prog w A E s knd κ) (hkd:kindOf st=knd) (C:MC κ a b) {out:Array Keyed} {ia ib mg ac bc g:Nat} (I:LoI κ a.toList b.toList out.toList ia ib) (ha:ia+1 < a.size) (hb:ib < b.size) (hN:N≤ia+ib) (h:∀ j (hj:j < a.size),ia≤j→Le κ b[ib] a[j]) :
  wpS (model prog w) A E s (Y7 a b out ia ib mg ac bc) (PL κ a b st N) (kS st g):=by
 unfold Y7
 refine wpS_bind (j6 hb ?_)
 have I2:=C.pushB I hb h
 by_cases h1:ib+1=b.size
 ·rw [if_pos (by simpa using h1)]
  exact wpS_pure ⟨⟨g,rfl⟩,C.fin I2 (.inr h1)⟩
 ·rw [if_neg (by simpa using h1)]
  have ha':ia < a.size:=by omega
  refine wpS_bind (j6 ha' ?_)
  refine wpS_bind (yc (κ:=κ) hO hkd (C.ka _ ha') (by omega) (by omega) C.kb (fun i j hi hj _ hij _=>zA C.sb hi hj hij) fun k k1 k2 k3=>?_)
  exact jbZ C I2 ha (by omega) (by omega) (by omega) (fun i hi g1 g2=>jaR (k2 i hi g1 g2)) fun j hj g1=>jaS (k3 j hj g1 (by omega))
theorem jcO (hO:LtAt prog w A E s knd κ) (hkd:kindOf st=knd) (C:MC κ a b) {out:Array Keyed} {ia ib mg ac bc g:Nat} (L:Alive κ a b N out ia ib):wpS (model prog w) A E s (jbB a b out ia ib mg ac bc) (PL κ a b st N) (kS st g):=by
 obtain ⟨I,ha,hb,hN⟩:=L
 unfold jbB
 rw [kL]
 refine wpS_bind (wpS_modify ?_)
 refine wpS_bind (j6 hb ?_)
 refine wpS_bind (yc (κ:=κ) hO hkd (C.kb _ hb) (by omega) (by omega) C.ka (fun i j hi hj _ hij _=>zA C.sa hi hj hij) fun k k1 k2 k3=>?_)
 ·have le:∀ i (hi:i < a.size),ia≤i→i < ia+k→Le κ a[i] b[ib]:=fun i hi g1 g2=>jaT (k2 i hi g1 g2)
  have gt:∀ i (hi:i < a.size),ia+k≤i→Le κ b[ib] a[i]:=fun i hi g1=>KeyOrd.kle_of_klt (jaU (k3 i hi g1 (by omega)))
  dsimp only
  by_cases h0:k > 0
  ·rw [if_pos h0]
   have I2:=C.runA I (k:=k) (by omega) fun i hi g1 g2 j hj g3=>KeyOrd.kle_trans (le i hi g1 g2) (zA C.sb hb hj g3)
   by_cases h1:ia+k+1=a.size
   ·rw [if_pos (by simpa using h1)]
    exact wpS_pure ⟨⟨mg,rfl⟩,C.fin2 I2 h1⟩
   ·rw [if_neg (by simpa using h1)]
    by_cases h2:ia+k=a.size
    ·rw [if_pos (by simpa using h2)]
     exact wpS_pure ⟨⟨mg,rfl⟩,C.fin I2 (.inl h2)⟩
    ·rw [if_neg (by simpa using h2)]
     exact Ya (st:=st) (g:=mg) hO hkd C I2 (by omega) hb (by omega) gt
  ·rw [if_neg h0]
   have:k=0:=by omega
   subst this
   exact Ya (st:=st) (g:=mg) hO hkd C I ha hb hN gt
theorem Alive.le {M:Nat} {out:Array Keyed} {ia ib:Nat} (h:Alive κ a b N out ia ib) (hm:M≤N):Alive κ a b M out ia ib:=⟨h.inv,h.la,h.lb,Nat.le_trans hm h.many⟩
def PL1 (κ:KeyKind) (a b:Array Keyed) (st:SortSt) (N:Nat) (r:ForInStep jaW) (st':SortSt):Prop:=st'=st∧match r with
 | .done c=>(match c.1 with | some m=>kJ κ a.toList b.toList m.toList | none=>Alive κ a b N c.2.1 c.2.2.1 c.2.2.2.1)
 | .yield c=>c.1=none∧Alive κ a b N c.2.1 c.2.2.1 c.2.2.2.1
theorem jcN (hO:LtAt prog w A E s knd κ) (hkd:kindOf st=knd) (C:MC κ a b) {mg:Nat} {c:jaW} (L:Alive κ a b N c.2.1 c.2.2.1 c.2.2.2.1):wpS (model prog w) A E s (jeb a b mg c) (PL1 κ a b st (N+1)) st:=by
 obtain ⟨r,out,ia,ib,ac,bc⟩:=c
 obtain ⟨I,ha,hb,hN⟩:=L
 dsimp only at I ha hb hN
 unfold jeb
 dsimp only
 have ha':ia < a.size:=by omega
 refine wpS_bind (j6 hb ?_)
 refine wpS_bind (j6 ha' ?_)
 refine wpS_bind (YM hO hkd (C.kb _ hb) (C.ka _ ha') ?_)
 dsimp only
 cases hw:κ.blt (kq κ b[ib]) (kq κ a[ia]) with
 | true=>
  simp only [if_true]
  refine wpS_bind (j6 hb ?_)
  have I2:=C.pushB I hb fun j hj h1=>KeyOrd.kle_trans (KeyOrd.kle_of_klt (show κ.klt _ _ from hw)) (zA C.sa ha' hj h1)
  by_cases h1:ib+1=b.size
  ·rw [if_pos (by simpa using h1)]
   exact wpS_pure ⟨rfl,C.fin I2 (.inr h1)⟩
  ·rw [if_neg (by simpa using h1)]
   split
   ·exact wpS_pure ⟨rfl,I2,ha,(by show ib+1 < b.size;omega),(by show N+1≤ia+(ib+1);omega)⟩
   ·exact wpS_pure ⟨rfl,rfl,I2,ha,(by show ib+1 < b.size;omega),(by show N+1≤ia+(ib+1);omega)⟩
 | false=>
  simp only [Bool.false_eq_true,if_false]
  refine wpS_bind (j6 ha' ?_)
  have I2:=C.pushA I ha' fun j hj h1=>KeyOrd.kle_trans (show κ.kle _ _ from hw) (zA C.sb hb hj h1)
  by_cases h1:ia+1+1=a.size
  ·rw [if_pos (by simpa using h1)]
   exact wpS_pure ⟨rfl,C.fin2 I2 h1⟩
  ·rw [if_neg (by simpa using h1)]
   split
   ·exact wpS_pure ⟨rfl,I2,(by show ia+1+1 < a.size;omega),hb,(by show N+1≤ia+1+ib;omega)⟩
   ·exact wpS_pure ⟨rfl,rfl,I2,(by show ia+1+1 < a.size;omega),hb,(by show N+1≤ia+1+ib;omega)⟩
def PL0 (κ:KeyKind) (a b:Array Keyed) (st:SortSt) (N:Nat) (r:ForInStep jaX) (st':SortSt):Prop:=(∃ g,st'=kS st g)∧match r with
 | .done c=>∃ m,c.1=some m∧kJ κ a.toList b.toList m.toList
 | .yield c=>c.1=none∧Alive κ a b N c.2.1 c.2.2.1 c.2.2.2.1
theorem jbY (hO:LtAt prog w A E s knd κ) (hkd:kindOf st=knd) (C:MC κ a b) {c:jaX} {g:Nat} (L:Alive κ a b N c.2.1 c.2.2.1 c.2.2.2.1):wpS (model prog w) A E s (Y6 a b c) (PL0 κ a b st (N+1)) (kS st g):=by
 obtain ⟨r,out,ia,ib,mg⟩:=c
 dsimp only at L
 unfold Y6
 dsimp only
 have htot:0 < a.size+b.size:=by have:=L.lb;omega
 refine wpS_bind (wpS_mono (wpS_forRange (I:=fun (x:Nat) (d:jaW) (st':SortSt)=>st'=kS st g∧d.1=none∧Alive κ a b (N+min x 1) d.2.1 d.2.2.1 d.2.2.2.1)
  (Q:=fun (d:jaW) (st':SortSt)=>st'=kS st g∧match d.1 with | some m=>kJ κ a.toList b.toList m.toList | none=>Alive κ a b (N+1) d.2.1 d.2.2.1 d.2.2.2.1) ?step ?fin ⟨rfl,rfl,L⟩) ?post)
 case fin=>
  rintro d st' ⟨rfl,hd,L'⟩
  refine ⟨rfl,?_⟩
  rw [hd]
  exact L'.le (by omega)
 case step=>
  rintro x d st' _ hx ⟨rfl,hd,L'⟩
  refine wpS_mono (jcN (st:=kS st g) hO hkd C L') fun r st2 hr=>?_
  obtain ⟨rfl,hr⟩:=hr
  cases r with
  | done e=>
   refine ⟨rfl,?_⟩
   dsimp only at hr ⊢
   cases he:e.1 with
   | some m=>rw [he] at hr;exact hr
   | none=>rw [he] at hr;exact Alive.le hr (by omega)
  | yield e=>exact ⟨rfl,hr.1,hr.2.le (by omega)⟩
 case post=>
  rintro ⟨d1,d2,d3,d4,d5,d6⟩ st' ⟨rfl,hd⟩
  cases d1 with
  | some m=>exact wpS_pure ⟨⟨g,rfl⟩,m,rfl,hd⟩
  | none=>
   dsimp only at hd ⊢
   refine wpS_bind (wpS_lift (wpAny_rule ⟨rfl,?_⟩))
   refine wpS_bind (wpS_mono (wpS_forRange (I:=fun (x:Nat) (e:LoT) (st':SortSt)=>(∃ g',st'=kS st g')∧e.1=none∧Alive κ a b (N+1) e.2.1 e.2.2.1 e.2.2.2.1)
    (Q:=fun (e:LoT) (st':SortSt)=>(∃ g',st'=kS st g')∧match e.1 with | some m=>kJ κ a.toList b.toList m.toList | none=>Alive κ a b (N+1) e.2.1 e.2.2.1 e.2.2.2.1) ?step2 ?fin2 ⟨⟨g,rfl⟩,rfl,hd⟩) ?post2)
   case fin2=>
    rintro e st' ⟨hg,he,L'⟩
    refine ⟨hg,?_⟩
    rw [he]
    exact L'
   case step2=>
    rintro x e st' _ hx ⟨⟨g',rfl⟩,he,L'⟩
    split
    all_goals
     refine wpS_mono (jcO (st:=st) hO hkd C L') fun r st2 hr=>?_
     obtain ⟨hg,hr⟩:=hr
     cases r with
     | done e=>exact ⟨hg,hr⟩
     | yield e=>exact ⟨hg,hr⟩
   case post2=>
    rintro ⟨e1,e2,e3,e4,e5,e6,e7⟩ st' ⟨⟨g',rfl⟩,he⟩
    cases e1 with
    | some m=>exact wpS_pure ⟨⟨g',rfl⟩,m,rfl,he⟩
    | none=>
     dsimp only at he ⊢
     rw [kL]
     exact wpS_bind (wpS_modify (wpS_pure ⟨⟨_,rfl⟩,rfl,he⟩))
theorem Zu {Q:Array Keyed→SortSt→Prop} (hO:LtAt prog w A E s knd κ) (hkd:kindOf st=knd) (C:MC κ a b) (ha:0 < a.size) (hb:0 < b.size) (h1:∀ i (h:i < a.size),Le κ b[0] a[i])
  (h:∀ m g,kJ κ a.toList b.toList m.toList→Q m (kS st g)):wpS (model prog w) A E s (Jb a b) Q st:=by
 rw [ZY]
 refine wpS_bind (wpS_lift (wpAny_rule ⟨rfl,?_⟩))
 refine wpS_bind (j6 hb ?_)
 have I:LoI κ a.toList b.toList (#[b[0]]:Array Keyed).toList 0 1:=by
  have I0:LoI κ a.toList b.toList (#[]:Array Keyed).toList 0 0:=⟨List.Perm.refl _,List.Pairwise.nil,fun x hx=>(by cases hx),fun x hx=>(by cases hx)⟩
  exact C.pushB I0 hb fun j hj _=>h1 j hj
 by_cases hb1:1=b.size
 ·rw [if_pos (by simpa using hb1)]
  exact wpS_pure (h _ (gallopOf st) (C.fin I (.inr hb1)))
 ·rw [if_neg (by simpa using hb1)]
  by_cases ha1:0+1=a.size
  ·rw [if_pos (by simpa using ha1)]
   exact wpS_pure (h _ (gallopOf st) (C.fin2 I ha1))
  ·rw [if_neg (by simpa using ha1)]
   refine wpS_bind (wpS_get ?_)
   refine wpS_bind (wpS_mono (wpS_forRange (I:=fun (x:Nat) (c:jaX) (st':SortSt)=>(∃ g,st'=kS st g)∧c.1=none∧Alive κ a b x c.2.1 c.2.2.1 c.2.2.2.1)
    (Q:=fun (c:jaX) (st':SortSt)=>(∃ g,st'=kS st g)∧∃ m,c.1=some m∧kJ κ a.toList b.toList m.toList) ?step ?fin ⟨⟨gallopOf st,rfl⟩,rfl,I,(by show 0+1 < a.size;omega),(by show 1 < b.size;omega),Nat.zero_le _⟩) ?post)
   case fin=>
    rintro c st' ⟨hg,hc,L⟩
    have:=L.many
    have:=L.la
    have:=L.lb
    omega
   case step=>
    rintro x c st' _ hx ⟨⟨g,rfl⟩,hc,L⟩
    refine wpS_mono (jbY (st:=st) hO hkd C L) fun r st2 hr=>?_
    obtain ⟨hg,hr⟩:=hr
    cases r with
    | done e=>exact ⟨hg,hr⟩
    | yield e=>exact ⟨hg,hr⟩
   case post=>
    rintro ⟨c1,c2⟩ st' ⟨⟨g,rfl⟩,m,hm,hg⟩
    dsimp only at hm
    subst hm
    exact wpS_pure (h m g hg)
end
section
variable {κ:KeyKind} {knd:SortKind} {A B L:List Keyed} {na nb:Nat}
structure HiI (κ:KeyKind) (A B L:List Keyed) (na nb:Nat):Prop where
 perm:L.Perm (A.drop na++B.drop nb)
 srt:L.Pairwise fun p q=>Le κ q p
 ba:∀ x∈L,∀ y∈A.take na,Le κ y x
 bb:∀ x∈L,∀ y∈B.take nb,Le κ y x
theorem HiI.swap (I:HiI κ A B L na nb):HiI κ B A L nb na:=⟨I.perm.trans List.perm_append_comm,I.srt,I.bb,I.ba⟩
theorem HiI.pushA (I:HiI κ A B L (na+1) nb) (sa:SL κ A) (hi:na < A.length) (h:∀ y∈B.take nb,Le κ y A[na]):HiI κ A B (L++[A[na]]) na nb:=by
 have et:A.take (na+1)=A.take na++[A[na]]:=by rw [List.take_succ,List.getElem?_eq_getElem hi];rfl
 refine ⟨?_,?_,fun x hx y hy=>?_,fun x hx y hy=>?_⟩
 ·rw [zy hi]
  refine (I.perm.append_right _).trans ?_
  exact List.perm_append_comm
 ·exact List.pairwise_append.mpr ⟨I.srt,List.pairwise_singleton _ _,fun x hx y hy=>by
   cases List.mem_singleton.mp hy
   exact I.ba x hx _ (by rw [et];exact List.mem_append_right _ (List.mem_singleton.mpr rfl))⟩
 ·rcases List.mem_append.mp hx with hx | hx
  ·exact I.ba x hx y (by rw [et];exact List.mem_append_left _ hy)
  ·cases List.mem_singleton.mp hx
   have:=sa.take (i:=na+1)
   rw [et] at this
   exact (List.pairwise_append.mp this).2.2 y hy _ (by simp)
 ·rcases List.mem_append.mp hx with hx | hx
  ·exact I.bb x hx y hy
  ·cases List.mem_singleton.mp hx
   exact h y hy
theorem HiI.runA (sa:SL κ A) {at_:Nat}:∀ k {L:List Keyed},HiI κ A B L (at_+k) nb→at_+k≤A.length→(∀ i (h:i < A.length),at_≤i→i < at_+k→∀ y∈B.take nb,Le κ y A[i])→HiI κ A B (L++((A.drop at_).take k).reverse) at_ nb
 | 0,L,I,_,_=>by
  rw [List.take_zero,List.reverse_nil,List.append_nil]
  exact I
 | k+1,L,I,hk,h=>by
  have hi:at_+k < A.length:=by omega
  have I2:HiI κ A B (L++[A[at_+k]]) (at_+k) nb:=HiI.pushA I sa hi (h _ hi (by omega) (by omega))
  have ih:=HiI.runA sa k I2 (by omega) fun i hi h1 h2=>h i hi h1 (by omega)
  rw [List.append_assoc] at ih
  rw [List.take_succ,List.getElem?_drop,List.getElem?_eq_getElem hi,List.reverse_append]
  exact ih
theorem HiI.done (I:HiI κ A B L na nb) (sa:SL κ A) (sb:SL κ B) (h:∀ x∈A.take na,∀ y∈B.take nb,Le κ x y):kJ κ A B (A.take na++B.take nb++L.reverse):=by
 refine ⟨?_,?_⟩
 ·have e1:=List.take_append_drop na A
  have e2:=List.take_append_drop nb B
  have h1:(A.take na++B.take nb++L.reverse).Perm ((A.take na++B.take nb)++(A.drop na++B.drop nb)):=((List.reverse_perm L).trans I.perm).append_left _
  refine h1.trans ?_
  have h2:((A.take na++B.take nb)++(A.drop na++B.drop nb)).Perm ((A.take na++A.drop na)++(B.take nb++B.drop nb)):=by
   rw [List.append_assoc,List.append_assoc]
   refine List.Perm.append_left _ ?_
   rw [← List.append_assoc,← List.append_assoc]
   exact List.perm_append_comm.append_right _
  rw [e1,e2] at h2
  exact h2
 ·refine List.pairwise_append.mpr ⟨List.pairwise_append.mpr ⟨sa.take,sb.take,h⟩,List.pairwise_reverse.mpr I.srt,fun x hx y hy=>?_⟩
  have hy':=List.mem_reverse.mp hy
  rcases List.mem_append.mp hx with hx | hx
  ·exact I.ba y hy' x hx
  ·exact I.bb y hy' x hx
theorem HiI.first (I:HiI κ A B L na nb) (sa:SL κ A) (sb:SL κ B) (h:∀ x∈B.take nb,∀ y∈A.take na,Le κ x y):kJ κ A B (B.take nb++A.take na++L.reverse):=by
 obtain ⟨h1,h2⟩:=I.swap.done sb sa h
 exact ⟨h1.trans List.perm_append_comm,h2⟩
end
abbrev qJ (a b out:Array Keyed) (na nb:Nat):Array Keyed:=a.extract 0 na++b.extract 0 nb++out.reverse
abbrev zw (a b out:Array Keyed) (na nb:Nat):Array Keyed:=b.extract 0 nb++a.extract 0 na++out.reverse
abbrev HiT:Type:=Option (Array Keyed)×Nat×Nat×Array Keyed×Nat×Nat×Nat
abbrev jaY:Type:=Option (Array Keyed)×Nat×Nat×Array Keyed×Nat×Nat
abbrev jaZ:Type:=Option (Array Keyed)×Nat×Nat×Array Keyed×Nat
def jbJ (a b:Array Keyed) (na nb:Nat) (out:Array Keyed) (mg ac bc:Nat):StateT SortSt Sem (ForInStep HiT):=do
 let x ← elem' a (na - 1)
 if na - 1 == 0 then return .done (some (qJ a b (out.push x) (na - 1) nb),na - 1,nb,out.push x,mg,ac,bc)
 else if (decide (ac < 7) && decide (bc < 7))=true then return .done (none,na - 1,nb,out.push x,mg,ac,bc)
 else return .yield (none,na - 1,nb,out.push x,mg,ac,bc)
def jaJ (a b:Array Keyed) (na nb:Nat) (out:Array Keyed) (mg ac at_:Nat):StateT SortSt Sem (ForInStep HiT):=
 if nb - at_ > 0 then
  if at_ == 1 then return .done (some (zw a b (out++(b.extract at_ nb).reverse) na at_),na,at_,out++(b.extract at_ nb).reverse,mg,ac,nb - at_)
  else if at_ == 0 then return .done (some (qJ a b (out++(b.extract at_ nb).reverse) na at_),na,at_,out++(b.extract at_ nb).reverse,mg,ac,nb - at_)
  else jbJ a b na at_ (out++(b.extract at_ nb).reverse) mg ac (nb - at_)
 else jbJ a b na nb out mg ac (nb - at_)
def Zd (a b:Array Keyed) (na nb:Nat) (out:Array Keyed) (mg ac bc:Nat):StateT SortSt Sem (ForInStep HiT):=do
 let y ← elem' b (nb - 1)
 if nb - 1 == 1 then return .done (some (zw a b (out.push y) na (nb - 1)),na,nb - 1,out.push y,mg,ac,bc)
 else do
  let x ← elem' a (na - 1)
  let r ← qm true x b 0 (nb - 1) (nb - 1 - 1)
  match r with
  | some at_=>jaJ a b na (nb - 1) (out.push y) mg ac at_
  | _=>return .done (some (qJ a b (out.push y) na (nb - 1)),na,nb - 1,out.push y,mg,ac,bc)
def jbI (a b:Array Keyed) (na nb:Nat) (out:Array Keyed) (mg ac bc:Nat):StateT SortSt Sem (ForInStep HiT):=do
 kP mg
 let y ← elem' b (nb - 1)
 let r ← qm false y a 0 na (na - 1)
 match r with
 | some at_=>
  if na - at_ > 0 then
   if at_ == 0 then return .done (some (qJ a b (out++(a.extract at_ na).reverse) at_ nb),at_,nb,out++(a.extract at_ na).reverse,mg,na - at_,bc)
   else Zd a b at_ nb (out++(a.extract at_ na).reverse) mg (na - at_) bc
  else Zd a b na nb out mg (na - at_) bc
 | _=>return .done (some (qJ a b out na nb),na,nb,out,mg,ac,bc)
def jel (a b:Array Keyed) (mg:Nat) (c:jaY):StateT SortSt Sem (ForInStep jaY):=do
 let y ← elem' b (c.2.2.1 - 1)
 let x ← elem' a (c.2.1 - 1)
 let r ← lt' y x
 match r with
 | some aWins=>
  if aWins=true then do
   let x ← elem' a (c.2.1 - 1)
   if c.2.1 - 1 == 0 then return .done (some (qJ a b (c.2.2.2.1.push x) (c.2.1 - 1) c.2.2.1),c.2.1 - 1,c.2.2.1,c.2.2.2.1.push x,c.2.2.2.2.1+1,0)
   else if c.2.2.2.2.1+1 ≥ mg then return .done (none,c.2.1 - 1,c.2.2.1,c.2.2.2.1.push x,c.2.2.2.2.1+1,0)
   else return .yield (none,c.2.1 - 1,c.2.2.1,c.2.2.2.1.push x,c.2.2.2.2.1+1,0)
  else do
   let y ← elem' b (c.2.2.1 - 1)
   if c.2.2.1 - 1 == 1 then return .done (some (zw a b (c.2.2.2.1.push y) c.2.1 (c.2.2.1 - 1)),c.2.1,c.2.2.1 - 1,c.2.2.2.1.push y,0,c.2.2.2.2.2+1)
   else if c.2.2.2.2.2+1 ≥ mg then return .done (none,c.2.1,c.2.2.1 - 1,c.2.2.2.1.push y,0,c.2.2.2.2.2+1)
   else return .yield (none,c.2.1,c.2.2.1 - 1,c.2.2.2.1.push y,0,c.2.2.2.2.2+1)
 | _=>return .done (some (qJ a b c.2.2.2.1 c.2.1 c.2.2.1),c.2.1,c.2.2.1,c.2.2.2.1,c.2.2.2.2.1,c.2.2.2.2.2)
def Zc (a b:Array Keyed) (c:jaZ):StateT SortSt Sem (ForInStep jaZ):=do
 let d ← forIn [0:a.size+b.size] ((none,c.2.1,c.2.2.1,c.2.2.2.1,0,0):jaY) fun _ d=>jel a b c.2.2.2.2 d
 match d.1 with
 | some r=>return .done (some r,d.2.1,d.2.2.1,d.2.2.2.1,c.2.2.2.2)
 | none=>do
  rule "list.sort.gallop"
  let e ← forIn [0:a.size+b.size] ((none,d.2.1,d.2.2.1,d.2.2.2.1,c.2.2.2.2+1,d.2.2.2.2.1,d.2.2.2.2.2):HiT) fun _ e=>
   if e.2.2.2.2.1 > 1 then jbI a b e.2.1 e.2.2.1 e.2.2.2.1 (e.2.2.2.2.1 - 1) e.2.2.2.2.2.1 e.2.2.2.2.2.2
   else jbI a b e.2.1 e.2.2.1 e.2.2.2.1 e.2.2.2.2.1 e.2.2.2.2.2.1 e.2.2.2.2.2.2
  match e.1 with
  | some r=>return .done (some r,e.2.1,e.2.2.1,e.2.2.2.1,e.2.2.2.2.1)
  | none=>do
   kP (e.2.2.2.2.1+1)
   return .yield (none,e.2.1,e.2.2.1,e.2.2.2.1,e.2.2.2.2.1+1)
set_option maxHeartbeats 4000000 in
theorem ZZ (a b:Array Keyed):Jc a b=(do
 rule "list.sort.merge-hi"
 let y ← elem' a (a.size - 1)
 if a.size - 1 == 0 then return qJ a b #[y] (a.size - 1) b.size
 else if b.size == 1 then return zw a b #[y] (a.size - 1) b.size
 else do
  let s ← get
  let c ← forIn [0:a.size+b.size] ((none,a.size - 1,b.size,#[y],gallopOf s):jaZ) fun _ c=>Zc a b c
  match c.1 with
  | some r=>pure r
  | none=>unsupported "internal:list.sort.merge-bound"):=by
 have e0:Jc a b=((_:StateT SortSt Sem Unit) >>= (_:Unit→StateT SortSt Sem (Array Keyed))):=rfl
 rw [e0]
 congr 1;funext u
 dsimp only
 congr 1;funext y
 congr 1
 congr 1
 congr 1;funext s
 congr 1
 rotate_left
 ·funext c
  obtain ⟨c1,c2,c3,c4,c5⟩:=c
  cases c1 <;> rfl
 congr 1
 funext x c
 unfold Zc
 congr 1
 funext d
 obtain ⟨d1,d2,d3,d4,d5,d6⟩:=d
 cases d1 with
 | some r=>rfl
 | none=>
  dsimp only
  congr 1;funext _
  congr 1
  funext e
  obtain ⟨e1,e2,e3,e4,e5,e6,e7⟩:=e
  cases e1 <;> rfl
section
variable {prog:Program} {w:World} {A:Around} {E:Value→Shared→Prop} {s:Shared} {κ:KeyKind} {knd:SortKind} {a b:Array Keyed}
theorem zf {l:Array Keyed} {n:Nat} {y:Keyed} (h:y∈l.toList.take n):∃ j,∃ h:j < l.size,j < n∧y=l[j]:=by
 obtain ⟨i,hi,rfl⟩:=List.mem_iff_getElem.mp h
 rw [List.length_take] at hi
 refine ⟨i,by simp at hi;omega,by omega,?_⟩
 rw [List.getElem_take,Array.getElem_toList]
theorem Ji {l:Array Keyed} {n:Nat}:(l.extract 0 n).toList=l.toList.take n:=by
 rw [qr,List.drop_zero,Nat.sub_zero]
theorem Z9 {out:Array Keyed} {na nb:Nat}:(qJ a b out na nb).toList=a.toList.take na++b.toList.take nb++out.toList.reverse:=by
 unfold qJ
 rw [Array.toList_append,Array.toList_append,Ji,Ji,Array.toList_reverse]
theorem Zf {out:Array Keyed} {na nb:Nat}:(zw a b out na nb).toList=b.toList.take nb++a.toList.take na++out.toList.reverse:=by
 unfold zw
 rw [Array.toList_append,Array.toList_append,Ji,Ji,Array.toList_reverse]
structure MD (κ:KeyKind) (a b:Array Keyed):Prop where
 ka:∀ i (h:i < a.size),kB κ a[i]
 kb:∀ i (h:i < b.size),kB κ b[i]
 sa:SL κ a.toList
 sb:SL κ b.toList
 first:∀ i (h:i < a.size) (h':0 < b.size),Le κ b[0] a[i]
structure AliveH (κ:KeyKind) (a b:Array Keyed) (N:Nat) (out:Array Keyed) (na nb:Nat):Prop where
 inv:HiI κ a.toList b.toList out.toList na nb
 la:0 < na
 la2:na≤a.size
 lb:1 < nb
 lb2:nb≤b.size
 many:N+na+nb≤a.size+b.size
theorem MD.fin {out:Array Keyed} {na nb:Nat} (C:MD κ a b) (I:HiI κ a.toList b.toList out.toList na nb) (h:na=0∨nb=0):kJ κ a.toList b.toList (qJ a b out na nb).toList:=by
 rw [Z9]
 refine I.done C.sa C.sb fun x hx y hy=>?_
 rcases h with rfl | rfl
 ·cases hx
 ·cases hy
theorem MD.fin2 {out:Array Keyed} {na nb:Nat} (C:MD κ a b) (I:HiI κ a.toList b.toList out.toList na nb) (h:nb=1):kJ κ a.toList b.toList (zw a b out na nb).toList:=by
 rw [Zf]
 refine I.first C.sa C.sb fun x hx y hy=>?_
 obtain ⟨j,hj,g1,rfl⟩:=zf hx
 obtain ⟨i,hi,g2,rfl⟩:=zf hy
 have:j=0:=by omega
 subst this
 exact C.first i hi hj
theorem MD.pushA {out:Array Keyed} {na nb:Nat} (C:MD κ a b) (I:HiI κ a.toList b.toList out.toList na nb) (h0:0 < na) (hi:na - 1 < a.size) (h:∀ j (hj:j < b.size),j < nb→Le κ b[j] a[na - 1]):HiI κ a.toList b.toList (out.push a[na - 1]).toList (na - 1) nb:=by
 obtain ⟨n,rfl⟩:∃ n,na=n+1:=⟨na - 1,by omega⟩
 have:=I.pushA C.sa (by simpa using hi) fun y hy=>by
  obtain ⟨j,hj,h1,rfl⟩:=zf hy
  rw [Array.getElem_toList]
  exact h j hj h1
 rw [Array.getElem_toList] at this
 rw [qO]
 exact this
theorem MD.pushB {out:Array Keyed} {na nb:Nat} (C:MD κ a b) (I:HiI κ a.toList b.toList out.toList na nb) (h0:0 < nb) (hi:nb - 1 < b.size) (h:∀ j (hj:j < a.size),j < na→Le κ a[j] b[nb - 1]):HiI κ a.toList b.toList (out.push b[nb - 1]).toList na (nb - 1):=by
 obtain ⟨n,rfl⟩:∃ n,nb=n+1:=⟨nb - 1,by omega⟩
 have:=I.swap.pushA C.sb (by simpa using hi) fun y hy=>by
  obtain ⟨j,hj,h1,rfl⟩:=zf hy
  rw [Array.getElem_toList]
  exact h j hj h1
 rw [Array.getElem_toList] at this
 rw [qO]
 exact this.swap
theorem MD.runA {out:Array Keyed} {na nb at_:Nat} (C:MD κ a b) (I:HiI κ a.toList b.toList out.toList na nb) (hk:at_≤na) (hn:na≤a.size) (h:∀ i (hi:i < a.size),at_≤i→i < na→∀ j (hj:j < b.size),j < nb→Le κ b[j] a[i]):HiI κ a.toList b.toList (out++(a.extract at_ na).reverse).toList at_ nb:=by
 obtain ⟨k,rfl⟩:∃ k,na=at_+k:=⟨na - at_,by omega⟩
 have:=HiI.runA C.sa k I (by simpa using hn) fun i hi h1 h2 y hy=>by
  obtain ⟨j,hj,h3,rfl⟩:=zf hy
  rw [Array.getElem_toList]
  exact h i (by simpa using hi) h1 h2 j hj h3
 rw [Array.toList_append,Array.toList_reverse,qr,Nat.add_sub_cancel_left]
 exact this
theorem MD.runB {out:Array Keyed} {na nb at_:Nat} (C:MD κ a b) (I:HiI κ a.toList b.toList out.toList na nb) (hk:at_≤nb) (hn:nb≤b.size) (h:∀ i (hi:i < b.size),at_≤i→i < nb→∀ j (hj:j < a.size),j < na→Le κ a[j] b[i]):HiI κ a.toList b.toList (out++(b.extract at_ nb).reverse).toList na at_:=by
 obtain ⟨k,rfl⟩:∃ k,nb=at_+k:=⟨nb - at_,by omega⟩
 have:=HiI.runA C.sb k I.swap (by simpa using hn) fun i hi h1 h2 y hy=>by
  obtain ⟨j,hj,h3,rfl⟩:=zf hy
  rw [Array.getElem_toList]
  exact h i (by simpa using hi) h1 h2 j hj h3
 rw [Array.toList_append,Array.toList_reverse,qr,Nat.add_sub_cancel_left]
 exact this.swap
variable {st:SortSt} {N:Nat}
def PH (κ:KeyKind) (a b:Array Keyed) (st:SortSt) (N:Nat) (r:ForInStep HiT) (st':SortSt):Prop:=(∃ g,st'=kS st g)∧match r with
 | .done c=>(match c.1 with | some m=>kJ κ a.toList b.toList m.toList | none=>AliveH κ a b N c.2.2.2.1 c.2.1 c.2.2.1)
 | .yield c=>c.1=none∧AliveH κ a b N c.2.2.2.1 c.2.1 c.2.2.1
theorem Zt (C:MD κ a b) {out:Array Keyed} {na nb mg ac bc g:Nat} (I:HiI κ a.toList b.toList out.toList na nb) (ha:0 < na) (ha2:na≤a.size) (hb:1 < nb) (hb2:nb≤b.size) (hN:N+na+nb≤a.size+b.size+1) (h:∀ j (hj:j < b.size),j < nb→Le κ b[j] (a[na - 1]'(by omega))) :
  wpS (model prog w) A E s (jbJ a b na nb out mg ac bc) (PH κ a b st N) (kS st g):=by
 unfold jbJ
 refine wpS_bind (j6 (by omega) ?_)
 have I2:=C.pushA I ha (by omega) h
 by_cases h1:na - 1=0
 ·rw [if_pos (by simpa using h1)]
  exact wpS_pure ⟨⟨g,rfl⟩,C.fin I2 (.inl h1)⟩
 ·rw [if_neg (by simpa using h1)]
  have L:AliveH κ a b N (out.push (a[na - 1]'(by omega))) (na - 1) nb:=⟨I2,by omega,by omega,hb,hb2,by omega⟩
  split
  ·exact wpS_pure ⟨⟨g,rfl⟩,L⟩
  ·exact wpS_pure ⟨⟨g,rfl⟩,rfl,L⟩
theorem jb1 (C:MD κ a b) {out:Array Keyed} {na nb mg ac at_ g:Nat} (I:HiI κ a.toList b.toList out.toList na nb) (ha:0 < na) (ha2:na≤a.size) (hb:1 < nb) (hb2:nb≤b.size) (hN:N+na+nb≤a.size+b.size+1) (hk:at_≤nb)
  (hlt:∀ i (hi:i < b.size),i < at_→Le κ b[i] (a[na - 1]'(by omega))) (hge:∀ j (hj:j < b.size),at_≤j→j < nb→Le κ (a[na - 1]'(by omega)) b[j]) :
  wpS (model prog w) A E s (jaJ a b na nb out mg ac at_) (PH κ a b st N) (kS st g):=by
 unfold jaJ
 by_cases h0:nb - at_ > 0
 ·rw [if_pos h0]
  have I2:=C.runB I (at_:=at_) (by omega) hb2 fun i hi h1 h2 j hj h3=>KeyOrd.kle_trans (zA C.sa hj (by omega) (by omega)) (hge i hi h1 h2)
  by_cases h1:at_=1
  ·rw [if_pos (by simpa using h1)]
   exact wpS_pure ⟨⟨g,rfl⟩,C.fin2 I2 h1⟩
  ·rw [if_neg (by simpa using h1)]
   by_cases h2:at_=0
   ·rw [if_pos (by simpa using h2)]
    exact wpS_pure ⟨⟨g,rfl⟩,C.fin I2 (.inr h2)⟩
   ·rw [if_neg (by simpa using h2)]
    exact Zt C I2 ha ha2 (by omega) (by omega) (by omega) fun j hj h3=>hlt j hj h3
 ·rw [if_neg h0]
  exact Zt C I ha ha2 hb hb2 hN fun j hj h3=>hlt j hj (by omega)
theorem Yb (hO:LtAt prog w A E s knd κ) (hkd:kindOf st=knd) (C:MD κ a b) {out:Array Keyed} {na nb mg ac bc g:Nat} (I:HiI κ a.toList b.toList out.toList na nb) (ha:0 < na) (ha2:na≤a.size) (hb:1 < nb) (hb2:nb≤b.size) (hN:N+na+nb≤a.size+b.size)
  (h:∀ j (hj:j < a.size),j < na→Le κ a[j] (b[nb - 1]'(by omega))):wpS (model prog w) A E s (Zd a b na nb out mg ac bc) (PH κ a b st N) (kS st g):=by
 unfold Zd
 refine wpS_bind (j6 (by omega) ?_)
 have I2:=C.pushB I (by omega) (by omega) h
 by_cases h1:nb - 1=1
 ·rw [if_pos (by simpa using h1)]
  exact wpS_pure ⟨⟨g,rfl⟩,C.fin2 I2 h1⟩
 ·rw [if_neg (by simpa using h1)]
  refine wpS_bind (j6 (by omega) ?_)
  refine wpS_bind (yc (κ:=κ) hO hkd (C.ka _ (by omega)) (by omega) (by omega) C.kb (fun i j hi hj _ hij _=>zA C.sb hi hj hij) fun k k1 k2 k3=>?_)
  exact jb1 C I2 ha ha2 (by omega) (by omega) (by omega) k1 (fun i hi g2=>jaR (k2 i hi (Nat.zero_le _) (by omega))) fun j hj g1 g2=>jaS (k3 j hj (by omega) (by omega))
theorem jcQ (hO:LtAt prog w A E s knd κ) (hkd:kindOf st=knd) (C:MD κ a b) {out:Array Keyed} {na nb mg ac bc g:Nat} (L:AliveH κ a b N out na nb):wpS (model prog w) A E s (jbI a b na nb out mg ac bc) (PH κ a b st N) (kS st g):=by
 obtain ⟨I,ha,ha2,hb,hb2,hN⟩:=L
 unfold jbI
 rw [kL]
 refine wpS_bind (wpS_modify ?_)
 refine wpS_bind (j6 (by omega) ?_)
 refine wpS_bind (yc (κ:=κ) hO hkd (C.kb _ (by omega)) (by omega) (by omega) C.ka (fun i j hi hj _ hij _=>zA C.sa hi hj hij) fun k k1 k2 k3=>?_)
 have le:∀ i (hi:i < a.size),i < k→Le κ a[i] (b[nb - 1]'(by omega)):=fun i hi g2=>jaT (k2 i hi (Nat.zero_le _) (by omega))
 have gt:∀ i (hi:i < a.size),k≤i→i < na→Le κ (b[nb - 1]'(by omega)) a[i]:=fun i hi g1 g2=>KeyOrd.kle_of_klt (jaU (k3 i hi (by omega) (by omega)))
 dsimp only
 by_cases h0:na - k > 0
 ·rw [if_pos h0]
  have I2:=C.runA I (at_:=k) (by omega) ha2 fun i hi g1 g2 j hj g3=>KeyOrd.kle_trans (zA C.sb hj (by omega) (by omega)) (gt i hi g1 g2)
  by_cases h1:k=0
  ·rw [if_pos (by simpa using h1)]
   exact wpS_pure ⟨⟨mg,rfl⟩,C.fin I2 (.inl h1)⟩
  ·rw [if_neg (by simpa using h1)]
   exact Yb (st:=st) (g:=mg) hO hkd C I2 (by omega) (by omega) hb hb2 (by omega) fun j hj g1=>le j hj g1
 ·rw [if_neg h0]
  exact Yb (st:=st) (g:=mg) hO hkd C I ha ha2 hb hb2 hN fun j hj g1=>le j hj (by omega)
theorem AliveH.le {M:Nat} {out:Array Keyed} {na nb:Nat} (h:AliveH κ a b N out na nb) (hm:M≤N):AliveH κ a b M out na nb:=⟨h.inv,h.la,h.la2,h.lb,h.lb2,by have:=h.many;omega⟩
def PH1 (κ:KeyKind) (a b:Array Keyed) (st:SortSt) (N:Nat) (r:ForInStep jaY) (st':SortSt):Prop:=st'=st∧match r with
 | .done c=>(match c.1 with | some m=>kJ κ a.toList b.toList m.toList | none=>AliveH κ a b N c.2.2.2.1 c.2.1 c.2.2.1)
 | .yield c=>c.1=none∧AliveH κ a b N c.2.2.2.1 c.2.1 c.2.2.1
theorem jcP (hO:LtAt prog w A E s knd κ) (hkd:kindOf st=knd) (C:MD κ a b) {mg:Nat} {c:jaY} (L:AliveH κ a b N c.2.2.2.1 c.2.1 c.2.2.1):wpS (model prog w) A E s (jel a b mg c) (PH1 κ a b st (N+1)) st:=by
 obtain ⟨r,na,nb,out,ac,bc⟩:=c
 obtain ⟨I,ha,ha2,hb,hb2,hN⟩:=L
 dsimp only at I ha ha2 hb hb2 hN
 unfold jel
 dsimp only
 have ha':na - 1 < a.size:=by omega
 have hb':nb - 1 < b.size:=by omega
 refine wpS_bind (j6 hb' ?_)
 refine wpS_bind (j6 ha' ?_)
 refine wpS_bind (YM hO hkd (C.kb _ hb') (C.ka _ ha') ?_)
 dsimp only
 cases hw:κ.blt (kq κ b[nb - 1]) (kq κ a[na - 1]) with
 | true=>
  simp only [if_true]
  refine wpS_bind (j6 ha' ?_)
  have I2:=C.pushA I ha ha' fun j hj h1=>KeyOrd.kle_trans (zA C.sb hj hb' (by omega)) (KeyOrd.kle_of_klt (show κ.klt _ _ from hw))
  by_cases h1:na - 1=0
  ·rw [if_pos (by simpa using h1)]
   exact wpS_pure ⟨rfl,C.fin I2 (.inl h1)⟩
  ·rw [if_neg (by simpa using h1)]
   have L2:AliveH κ a b (N+1) (out.push a[na - 1]) (na - 1) nb:=⟨I2,by omega,by omega,hb,hb2,by omega⟩
   split
   ·exact wpS_pure ⟨rfl,L2⟩
   ·exact wpS_pure ⟨rfl,rfl,L2⟩
 | false=>
  simp only [Bool.false_eq_true,if_false]
  refine wpS_bind (j6 hb' ?_)
  have I2:=C.pushB I (by omega) hb' fun j hj h1=>KeyOrd.kle_trans (zA C.sa hj ha' (by omega)) (show κ.kle _ _ from hw)
  by_cases h1:nb - 1=1
  ·rw [if_pos (by simpa using h1)]
   exact wpS_pure ⟨rfl,C.fin2 I2 h1⟩
  ·rw [if_neg (by simpa using h1)]
   have L2:AliveH κ a b (N+1) (out.push b[nb - 1]) na (nb - 1):=⟨I2,ha,ha2,by omega,by omega,by omega⟩
   split
   ·exact wpS_pure ⟨rfl,L2⟩
   ·exact wpS_pure ⟨rfl,rfl,L2⟩
def PH0 (κ:KeyKind) (a b:Array Keyed) (st:SortSt) (N:Nat) (r:ForInStep jaZ) (st':SortSt):Prop:=(∃ g,st'=kS st g)∧match r with
 | .done c=>∃ m,c.1=some m∧kJ κ a.toList b.toList m.toList
 | .yield c=>c.1=none∧AliveH κ a b N c.2.2.2.1 c.2.1 c.2.2.1
theorem jb0 (hO:LtAt prog w A E s knd κ) (hkd:kindOf st=knd) (C:MD κ a b) {c:jaZ} {g:Nat} (L:AliveH κ a b N c.2.2.2.1 c.2.1 c.2.2.1):wpS (model prog w) A E s (Zc a b c) (PH0 κ a b st (N+1)) (kS st g):=by
 obtain ⟨r,na,nb,out,mg⟩:=c
 dsimp only at L
 unfold Zc
 dsimp only
 have htot:0 < a.size+b.size:=by have:=L.lb;have:=L.lb2;omega
 refine wpS_bind (wpS_mono (wpS_forRange (I:=fun (x:Nat) (d:jaY) (st':SortSt)=>st'=kS st g∧d.1=none∧AliveH κ a b (N+min x 1) d.2.2.2.1 d.2.1 d.2.2.1)
  (Q:=fun (d:jaY) (st':SortSt)=>st'=kS st g∧match d.1 with | some m=>kJ κ a.toList b.toList m.toList | none=>AliveH κ a b (N+1) d.2.2.2.1 d.2.1 d.2.2.1) ?step ?fin ⟨rfl,rfl,L⟩) ?post)
 case fin=>
  rintro d st' ⟨rfl,hd,L'⟩
  refine ⟨rfl,?_⟩
  rw [hd]
  exact L'.le (by omega)
 case step=>
  rintro x d st' _ hx ⟨rfl,hd,L'⟩
  refine wpS_mono (jcP (st:=kS st g) hO hkd C L') fun r st2 hr=>?_
  obtain ⟨rfl,hr⟩:=hr
  cases r with
  | done e=>
   refine ⟨rfl,?_⟩
   dsimp only at hr ⊢
   cases he:e.1 with
   | some m=>rw [he] at hr;exact hr
   | none=>rw [he] at hr;exact AliveH.le hr (by omega)
  | yield e=>exact ⟨rfl,hr.1,hr.2.le (by omega)⟩
 case post=>
  rintro ⟨d1,d2,d3,d4,d5,d6⟩ st' ⟨rfl,hd⟩
  cases d1 with
  | some m=>exact wpS_pure ⟨⟨g,rfl⟩,m,rfl,hd⟩
  | none=>
   dsimp only at hd ⊢
   refine wpS_bind (wpS_lift (wpAny_rule ⟨rfl,?_⟩))
   refine wpS_bind (wpS_mono (wpS_forRange (I:=fun (x:Nat) (e:HiT) (st':SortSt)=>(∃ g',st'=kS st g')∧e.1=none∧AliveH κ a b (N+1) e.2.2.2.1 e.2.1 e.2.2.1)
    (Q:=fun (e:HiT) (st':SortSt)=>(∃ g',st'=kS st g')∧match e.1 with | some m=>kJ κ a.toList b.toList m.toList | none=>AliveH κ a b (N+1) e.2.2.2.1 e.2.1 e.2.2.1) ?step2 ?fin2 ⟨⟨g,rfl⟩,rfl,hd⟩) ?post2)
   case fin2=>
    rintro e st' ⟨hg,he,L'⟩
    refine ⟨hg,?_⟩
    rw [he]
    exact L'
   case step2=>
    rintro x e st' _ hx ⟨⟨g',rfl⟩,he,L'⟩
    split
    all_goals
     refine wpS_mono (jcQ (st:=st) hO hkd C L') fun r st2 hr=>?_
     obtain ⟨hg,hr⟩:=hr
     cases r with
     | done e=>exact ⟨hg,hr⟩
     | yield e=>exact ⟨hg,hr⟩
   case post2=>
    rintro ⟨e1,e2,e3,e4,e5,e6,e7⟩ st' ⟨⟨g',rfl⟩,he⟩
    cases e1 with
    | some m=>exact wpS_pure ⟨⟨g',rfl⟩,m,rfl,he⟩
    | none=>
     dsimp only at he ⊢
     rw [kL]
     exact wpS_bind (wpS_modify (wpS_pure ⟨⟨_,rfl⟩,rfl,he⟩))
theorem Zv {Q:Array Keyed→SortSt→Prop} (hO:LtAt prog w A E s knd κ) (hkd:kindOf st=knd) (C:MD κ a b) (ha:0 < a.size) (hb:0 < b.size) (h1:∀ j (h:j < b.size),Le κ b[j] (a[a.size - 1]'(by omega)))
  (h:∀ m g,kJ κ a.toList b.toList m.toList→Q m (kS st g)):wpS (model prog w) A E s (Jc a b) Q st:=by
 rw [ZZ]
 refine wpS_bind (wpS_lift (wpAny_rule ⟨rfl,?_⟩))
 refine wpS_bind (j6 (by omega) ?_)
 have I:HiI κ a.toList b.toList (#[a[a.size - 1]'(by omega)]:Array Keyed).toList (a.size - 1) b.size:=by
  have I0:HiI κ a.toList b.toList (#[]:Array Keyed).toList a.size b.size:=⟨by rw [List.drop_eq_nil_of_le (by simp),List.drop_eq_nil_of_le (by simp)];exact List.Perm.refl _,List.Pairwise.nil,fun x hx=>(by cases hx),fun x hx=>(by cases hx)⟩
  exact C.pushA I0 ha (by omega) fun j hj _=>h1 j hj
 by_cases hb1:a.size - 1=0
 ·rw [if_pos (by simpa using hb1)]
  exact wpS_pure (h _ (gallopOf st) (C.fin I (.inl hb1)))
 ·rw [if_neg (by simpa using hb1)]
  by_cases ha1:b.size=1
  ·rw [if_pos (by simpa using ha1)]
   exact wpS_pure (h _ (gallopOf st) (C.fin2 I ha1))
  ·rw [if_neg (by simpa using ha1)]
   refine wpS_bind (wpS_get ?_)
   refine wpS_bind (wpS_mono (wpS_forRange (I:=fun (x:Nat) (c:jaZ) (st':SortSt)=>(∃ g,st'=kS st g)∧c.1=none∧AliveH κ a b x c.2.2.2.1 c.2.1 c.2.2.1)
    (Q:=fun (c:jaZ) (st':SortSt)=>(∃ g,st'=kS st g)∧∃ m,c.1=some m∧kJ κ a.toList b.toList m.toList) ?step ?fin ⟨⟨gallopOf st,rfl⟩,rfl,I,(by show 0 < a.size - 1;omega),(by show a.size - 1≤a.size;omega),(by show 1 < b.size;omega),Nat.le_refl _,(by show 0+(a.size - 1)+b.size≤_;omega)⟩) ?post)
   case fin=>
    rintro c st' ⟨hg,hc,L⟩
    have:=L.many
    have:=L.la
    have:=L.lb
    omega
   case step=>
    rintro x c st' _ hx ⟨⟨g,rfl⟩,hc,L⟩
    refine wpS_mono (jb0 (st:=st) hO hkd C L) fun r st2 hr=>?_
    obtain ⟨hg,hr⟩:=hr
    cases r with
    | done e=>exact ⟨hg,hr⟩
    | yield e=>exact ⟨hg,hr⟩
   case post=>
    rintro ⟨c1,c2⟩ st' ⟨⟨g,rfl⟩,m,hm,hg⟩
    dsimp only at hm
    subst hm
    exact wpS_pure (h m g hg)
end
def kC (sa:Nat) (M:List Keyed) (arr:Array Keyed):Array Keyed:=M.zipIdx.foldl (fun a (p,j)=>a.setIfInBounds (sa+j) p) arr
def jhY (arr:Array Keyed) (sa na sb nb:Nat):StateT SortSt Sem Bool:=do
 let m ← if na≤nb then Jb (arr.extract sa sb) (arr.extract sb (sb+nb)) else Jc (arr.extract sa sb) (arr.extract sb (sb+nb))
 modify fun s=>setArr s (kC sa m.toList (arrOf s))
 return (failedOf (← get)).isNone
def jg3 (arr:Array Keyed) (sa na sb nb:Nat):StateT SortSt Sem Bool:=
 if (na == 0)=true then pure true else do
  let x ← elem' arr (sa+na - 1)
  match ← qm true x arr sb nb (nb - 1) with
  | some m=>if (m == 0)=true then pure true else jhY arr sa na sb m
  | _=>pure false
def jhZ (arr:Array Keyed) (sa na sb nb:Nat):StateT SortSt Sem Bool:=do
 let y ← elem' arr sb
 match ← qm false y arr sa na 0 with
 | some k=>jg3 arr (sa+k) (na - k) sb nb
 | _=>pure false
theorem Zr (sa:Nat):∀ (M:List Keyed) (n:Nat) (arr:Array Keyed),sa+n+M.length≤arr.size→
  ((M.zipIdx n).foldl (fun a (p,j)=>a.setIfInBounds (sa+j) p) arr).toList=arr.toList.take (sa+n)++M++arr.toList.drop (sa+n+M.length)
 | [],n,arr,h=>by simp
 | x :: M,n,arr,h=>by
  rw [List.length_cons] at h
  rw [List.zipIdx_cons,List.foldl_cons]
  have ih:=Zr sa M (n+1) (arr.setIfInBounds (sa+n) x) (by rw [Array.size_setIfInBounds];omega)
  have hl:sa+n < arr.toList.length:=by rw [Array.length_toList];omega
  have e:(arr.setIfInBounds (sa+n) x).toList=(arr.toList.take (sa+n)++[x])++arr.toList.drop (sa+n+1):=by
   rw [Array.toList_setIfInBounds,List.set_eq_take_append_cons_drop,if_pos hl,List.append_assoc]
   rfl
  have l1:(arr.toList.take (sa+n)++[x]).length=sa+n+1:=by
   rw [List.length_append,List.length_take]
   show min _ _+1=_
   omega
  rw [ih,e]
  have e1:sa+(n+1)=sa+n+1:=rfl
  rw [e1,List.take_left' l1,List.drop_append,l1]
  have e2:List.drop (sa+n+1+M.length) (arr.toList.take (sa+n)++[x])=[]:=List.drop_eq_nil_of_le (by omega)
  have e3:sa+n+1+M.length - (sa+n+1)=M.length:=by omega
  rw [e2,e3,List.drop_drop,List.length_cons]
  have e4:sa+n+1+M.length=sa+n+(M.length+1):=by omega
  rw [e4]
  simp
theorem Kf {sa:Nat} {M:List Keyed} {arr:Array Keyed} (h:sa+M.length≤arr.size):(kC sa M arr).toList=arr.toList.take sa++M++arr.toList.drop (sa+M.length):=Zr sa M 0 arr h
theorem yK {sa:Nat} {M:List Keyed} {arr:Array Keyed} (h:sa+M.length≤arr.size) (k:Nat):(kC sa M arr)[k]?=if sa≤k∧k < sa+M.length then M[k - sa]? else arr[k]?:=by
 rw [← Array.getElem?_toList,Kf h]
 have hl:(arr.toList.take sa).length=sa:=by rw [List.length_take,Array.length_toList];omega
 by_cases h1:k < sa
 ·rw [if_neg (by omega),List.append_assoc,List.getElem?_append_left (by omega),List.getElem?_take,if_pos h1,Array.getElem?_toList]
 ·by_cases h2:k < sa+M.length
  ·rw [if_pos ⟨by omega,h2⟩,List.append_assoc,List.getElem?_append_right (by omega),hl,List.getElem?_append_left (by omega)]
  ·rw [if_neg (by omega),List.append_assoc,List.getElem?_append_right (by omega),hl,List.getElem?_append_right (by omega),List.getElem?_drop,Array.getElem?_toList]
   congr 1
   omega
theorem jah {sa:Nat} {M:List Keyed} {arr:Array Keyed} (h:sa+M.length≤arr.size) (hp:M.Perm ((arr.toList.drop sa).take M.length)):(kC sa M arr).Perm arr:=by
 rw [Array.perm_iff_toList_perm,Kf h]
 have e:arr.toList=arr.toList.take sa++(arr.toList.drop sa).take M.length++arr.toList.drop (sa+M.length):=by
  rw [List.append_assoc,← List.drop_drop,List.take_append_drop,List.take_append_drop]
 refine List.Perm.trans ?_ (List.Perm.of_eq e.symm)
 exact (hp.append_left _).append_right _
section
variable {prog:Program} {w:World} {A:Around} {E:Value→Shared→Prop} {s:Shared} {κ:KeyKind} {knd:SortKind} {st:SortSt} {arr:Array Keyed}
def Seg (κ:KeyKind) (arr:Array Keyed) (lo hi:Nat):Prop:=∀ i j,lo≤i→i≤j→j < hi→κ.kle (KK κ arr i) (KK κ arr j)
theorem Js {i:Nat} (h:i < arr.size):KK κ arr i=kq κ arr[i]:=by
 unfold KK kq
 rw [getElem?_pos arr i h]
theorem jdr {lo hi:Nat} (h:Seg κ arr lo hi) (hh:hi≤arr.size):SL κ (arr.extract lo hi).toList:=by
 refine List.pairwise_iff_getElem.mpr ?_
 intro i j hi' hj' hij
 have e1:(arr.extract lo hi).toList.length=hi - lo:=by simp;omega
 rw [Array.getElem_toList,Array.getElem_toList,Array.getElem_extract,Array.getElem_extract]
 have:=h (lo+i) (lo+j) (by omega) (by omega) (by omega)
 rw [Js (by omega),Js (by omega)] at this
 exact this
theorem jeK {Q:PUnit→SortSt→Prop} {st st2:SortSt} (h:Q ⟨⟩ st2):wpS (model prog w) A E s (set st2:StateT SortSt Sem PUnit) Q st:=by
 unfold wpS;rw [StateT.run_set];exact wpAny_pure ⟨rfl,h⟩
abbrev jb6 (st:SortSt) (arr:Array Keyed) (pend:Array (Nat×Nat×Nat)) (g:Nat):SortSt:=SortSt.mk' (kindOf st) arr pend g (failedOf st)
theorem Zw {Q:Bool→SortSt→Prop} {i sa na pw nb pw':Nat} (hO:LtAt prog w A E s knd κ) (hk:kindOf st=knd) (hf:failedOf st=none) (hy:∀ i (h:i < (arrOf st).size),kB κ (arrOf st)[i]) (hp1:(pendingOf st)[i]?=some (sa,na,pw)) (hp2:(pendingOf st)[i+1]?=some (sa+na,nb,pw'))
  (h0:0 < na) (h1:0 < nb) (hz:sa+na+nb≤(arrOf st).size) (S1:Seg κ (arrOf st) sa (sa+na)) (S2:Seg κ (arrOf st) (sa+na) (sa+na+nb))
  (h:∀ arr' g,arr'.Perm (arrOf st)→Seg κ arr' sa (sa+na+nb)→(∀ k,k < sa∨sa+na+nb≤k→arr'[k]?=(arrOf st)[k]?)→Q true (jb6 st arr' (((pendingOf st).setIfInBounds i (sa,na+nb,pw)).eraseIdxIfInBounds (i+1)) g)) :
  wpS (model prog w) A E s (mergeAt' i) Q st:=by
 have e0:mergeAt' i=((get:StateT SortSt Sem SortSt) >>= (_:SortSt→StateT SortSt Sem Bool)):=rfl
 rw [e0]
 refine wpS_bind (wpS_get ?_)
 rw [hp1,hp2]
 show wpS _ _ _ _ (set (setPending st (((pendingOf st).setIfInBounds i (sa,na+nb,pw)).eraseIdxIfInBounds (i+1))) >>= fun _=>jhZ (arrOf st) sa na (sa+na) nb) Q st
 refine wpS_bind (jeK ?_)
 unfold jhZ
 refine wpS_bind (j6 (by omega) ?_)
 generalize hP:((pendingOf st).setIfInBounds i (sa,na+nb,pw)).eraseIdxIfInBounds (i+1)=P at *
 have seg1:∀ i j (hi:i < (arrOf st).size) (hj:j < (arrOf st).size),sa≤i→i≤j→j < sa+na→Le κ (arrOf st)[i] (arrOf st)[j]:=fun i j hi hj g1 g2 g3=>by
  have:=S1 i j g1 g2 g3
  rw [Js hi,Js hj] at this
  exact this
 have seg2:∀ i j (hi:i < (arrOf st).size) (hj:j < (arrOf st).size),sa+na≤i→i≤j→j < sa+na+nb→Le κ (arrOf st)[i] (arrOf st)[j]:=fun i j hi hj g1 g2 g3=>by
  have:=S2 i j g1 g2 g3
  rw [Js hi,Js hj] at this
  exact this
 refine wpS_bind (yc (st:=setPending st P) (κ:=κ) hO hk (hy _ (by omega)) (by omega) h0 hy seg1 fun k k1 k2 k3=>?_)
 have kk:∀ i (hi:i < (arrOf st).size),KK κ (arrOf st) i=kq κ (arrOf st)[i]:=fun i hi=>Js hi
 have F1:∀ i,sa≤i→i < sa+k→κ.kle (KK κ (arrOf st) i) (KK κ (arrOf st) (sa+na)):=fun i g1 g2=>by
  rw [kk i (by omega),kk (sa+na) (by omega)]
  exact jaT (k2 i (by omega) g1 g2)
 show wpS _ _ _ _ (jg3 (arrOf st) (sa+k) (na - k) (sa+na) nb) Q _
 unfold jg3
 by_cases hk0:na - k=0
 ·rw [if_pos (by simpa using hk0)]
  refine wpS_pure (h (arrOf st) (gallopOf st) (Array.Perm.refl _) (fun i j g1 g2 g3=>?_) fun _ _=>rfl)
  by_cases hj:j < sa+na
  ·exact S1 i j g1 g2 hj
  ·by_cases hi:i < sa+na
   ·exact KeyOrd.kle_trans (F1 i g1 (by omega)) (S2 (sa+na) j (by omega) (by omega) g3)
   ·exact S2 i j (by omega) g2 g3
 ·rw [if_neg (by simpa using hk0)]
  have eix:sa+k+(na - k) - 1=sa+na - 1:=by omega
  rw [eix]
  refine wpS_bind (j6 (by omega) ?_)
  refine wpS_bind (yc (st:=setPending st P) (κ:=κ) hO hk (hy _ (by omega)) (by omega) (by omega) hy seg2 fun m m1 m2 m3=>?_)
  have F2:∀ j,sa+na+m≤j→j < sa+na+nb→κ.kle (KK κ (arrOf st) (sa+na - 1)) (KK κ (arrOf st) j):=fun j g1 g2=>by
   rw [kk j (by omega),kk (sa+na - 1) (by omega)]
   exact jaS (m3 j (by omega) g1 g2)
  dsimp only
  by_cases hm0:m=0
  ·rw [if_pos (by simpa using hm0)]
   refine wpS_pure (h (arrOf st) (gallopOf st) (Array.Perm.refl _) (fun i j g1 g2 g3=>?_) fun _ _=>rfl)
   by_cases hj:j < sa+na
   ·exact S1 i j g1 g2 hj
   ·by_cases hi:i < sa+na
    ·exact KeyOrd.kle_trans (S1 i (sa+na - 1) g1 (by omega) (by omega)) (F2 j (by omega) g3)
    ·exact S2 i j (by omega) g2 g3
  ·rw [if_neg (by simpa using hm0)]
   unfold jhY
   have sx:((arrOf st).extract (sa+k) (sa+na)).size=na - k:=by simp;omega
   have sy:((arrOf st).extract (sa+na) (sa+na+m)).size=m:=by simp;omega
   have SX:SL κ ((arrOf st).extract (sa+k) (sa+na)).toList:=jdr (fun i j g1 g2 g3=>S1 i j (by omega) g2 g3) (by omega)
   have SY:SL κ ((arrOf st).extract (sa+na) (sa+na+m)).toList:=jdr (fun i j g1 g2 g3=>S2 i j g1 g2 (by omega)) (by omega)
   have fin:∀ (M:Array Keyed) (g:Nat),kJ κ ((arrOf st).extract (sa+k) (sa+na)).toList ((arrOf st).extract (sa+na) (sa+na+m)).toList M.toList→Q true (jb6 st (kC (sa+k) M.toList (arrOf st)) P g):=by
    rintro M g ⟨hperm,hsl⟩
    have hlen:M.toList.length=na - k+m:=by
     rw [hperm.length_eq,List.length_append,Array.length_toList,Array.length_toList,sx,sy]
    have hb:sa+k+M.toList.length≤(arrOf st).size:=by omega
    have eXY:((arrOf st).extract (sa+k) (sa+na)).toList++((arrOf st).extract (sa+na) (sa+na+m)).toList=((arrOf st).toList.drop (sa+k)).take M.toList.length:=by
     rw [qr,qr,hlen,List.take_add,List.drop_drop]
     have e1:sa+na - (sa+k)=na - k:=by omega
     have e2:sa+na+m - (sa+na)=m:=by omega
     have e3:sa+k+(na - k)=sa+na:=by omega
     rw [e1,e2,e3]
    rw [eXY] at hperm
    have zone:∀ i,sa+k≤i→i < sa+na+m→∃ p,sa+k≤p∧p < sa+na+m∧KK κ (kC (sa+k) M.toList (arrOf st)) i=KK κ (arrOf st) p:=fun i g1 g2=>by
     have hi:i - (sa+k) < M.toList.length:=by omega
     have hw:=yK hb i
     rw [if_pos ⟨g1,by omega⟩,List.getElem?_eq_getElem hi] at hw
     have hmem:=hperm.mem_iff.mp (List.getElem_mem hi)
     obtain ⟨q,hq,eq⟩:=List.mem_iff_getElem.mp hmem
     have hq':q < M.toList.length:=by
      have:=hq
      rw [List.length_take] at this
      omega
     refine ⟨sa+k+q,by omega,by omega,KK_congr ?_⟩
     rw [hw,← eq,List.getElem_take,List.getElem_drop,Array.getElem_toList,getElem?_pos (arrOf st) (sa+k+q) (by omega)]
    have off:∀ i,i < sa+k∨sa+na+m≤i→(kC (sa+k) M.toList (arrOf st))[i]?=(arrOf st)[i]?:=fun i g1=>by
     rw [yK hb,if_neg (by omega)]
    have offK:∀ i,i < sa+k∨sa+na+m≤i→KK κ (kC (sa+k) M.toList (arrOf st)) i=KK κ (arrOf st) i:=fun i g1=>KK_congr (off i g1)
    refine h _ g (jah hb hperm) (fun i j g1 g2 g3=>?_) fun i g1=>off i (by omega)
    by_cases zi:i < sa+k
    ·rw [offK i (.inl zi)]
     by_cases zj:j < sa+k
     ·rw [offK j (.inl zj)]
      exact S1 i j g1 g2 (by omega)
     ·by_cases zj2:j < sa+na+m
      ·obtain ⟨p,p1,p2,ep⟩:=zone j (by omega) zj2
       rw [ep]
       by_cases hp:p < sa+na
       ·exact S1 i p g1 (by omega) hp
       ·exact KeyOrd.kle_trans (F1 i g1 zi) (S2 (sa+na) p (by omega) (by omega) (by omega))
      ·rw [offK j (.inr (by omega))]
       exact KeyOrd.kle_trans (F1 i g1 zi) (S2 (sa+na) j (by omega) (by omega) g3)
    ·by_cases zi2:i < sa+na+m
     ·by_cases zj2:j < sa+na+m
      ·have hi:i - (sa+k) < M.toList.length:=by omega
       have hj:j - (sa+k) < M.toList.length:=by omega
       have wi:=yK hb i
       have wj:=yK hb j
       rw [if_pos ⟨by omega,by omega⟩,List.getElem?_eq_getElem hi] at wi
       rw [if_pos ⟨by omega,by omega⟩,List.getElem?_eq_getElem hj] at wj
       have ki:KK κ (kC (sa+k) M.toList (arrOf st)) i=kq κ (M.toList[i - (sa+k)]):=by unfold KK kq;rw [wi]
       have kj:KK κ (kC (sa+k) M.toList (arrOf st)) j=kq κ (M.toList[j - (sa+k)]):=by unfold KK kq;rw [wj]
       rw [ki,kj]
       rcases Nat.lt_or_ge i j with hlt | hge
       ·exact List.pairwise_iff_getElem.mp hsl _ _ hi hj (by omega)
       ·have:i=j:=by omega
        subst this
        exact KeyOrd.kle_refl _
      ·obtain ⟨p,p1,p2,ep⟩:=zone i (by omega) zi2
       rw [ep,offK j (.inr (by omega))]
       by_cases hp:p < sa+na
       ·exact KeyOrd.kle_trans (S1 p (sa+na - 1) (by omega) (by omega) (by omega)) (F2 j (by omega) g3)
       ·exact S2 p j (by omega) (by omega) g3
     ·rw [offK i (.inr (by omega)),offK j (.inr (by omega))]
      exact S2 i j (by omega) g2 g3
   have kX:∀ i (h:i < ((arrOf st).extract (sa+k) (sa+na)).size),kB κ ((arrOf st).extract (sa+k) (sa+na))[i]:=fun i hi=>by
    rw [Array.getElem_extract];exact hy _ _
   have kY:∀ i (h:i < ((arrOf st).extract (sa+na) (sa+na+m)).size),kB κ ((arrOf st).extract (sa+na) (sa+na+m))[i]:=fun i hi=>by
    rw [Array.getElem_extract];exact hy _ _
   have lastF:∀ j (hj:j < ((arrOf st).extract (sa+na) (sa+na+m)).size) (h':((arrOf st).extract (sa+k) (sa+na)).size - 1 < ((arrOf st).extract (sa+k) (sa+na)).size),Le κ ((arrOf st).extract (sa+na) (sa+na+m))[j] ((arrOf st).extract (sa+k) (sa+na))[((arrOf st).extract (sa+k) (sa+na)).size - 1]:=fun j hj h'=>by
    rw [Array.getElem_extract,Array.getElem_extract]
    have e:sa+k+(((arrOf st).extract (sa+k) (sa+na)).size - 1)=sa+na - 1:=by omega
    have:=jaR (m2 (sa+na+j) (by omega) (by omega) (by omega))
    simp only [e]
    exact this
   have firstF:∀ i (hi:i < ((arrOf st).extract (sa+k) (sa+na)).size) (h':0 < ((arrOf st).extract (sa+na) (sa+na+m)).size),Le κ ((arrOf st).extract (sa+na) (sa+na+m))[0] ((arrOf st).extract (sa+k) (sa+na))[i]:=fun i hi h'=>by
    rw [Array.getElem_extract,Array.getElem_extract]
    exact KeyOrd.kle_of_klt (jaU (k3 (sa+k+i) (by omega) (by omega) (by omega)))
   split
   ·refine wpS_bind (Zu (st:=setPending st P) hO hk ⟨kX,kY,SX,SY,lastF⟩ (by omega) (by omega) (fun i hi=>firstF i hi (by omega)) fun M g hM=>?_)
    refine wpS_bind (wpS_modify ?_)
    refine wpS_bind (wpS_get ?_)
    refine wpS_pure ?_
    have:=fin M g hM
    have ef:(failedOf (jb6 st (kC (sa+k) M.toList (arrOf st)) P g)).isNone=true:=by show (failedOf st).isNone=true;rw [hf];rfl
    show Q (failedOf (jb6 st (kC (sa+k) M.toList (arrOf st)) P g)).isNone _
    rw [ef]
    exact this
   ·refine wpS_bind (Zv (st:=setPending st P) hO hk ⟨kX,kY,SX,SY,firstF⟩ (by omega) (by omega) (fun j hj=>lastF j hj (by omega)) fun M g hM=>?_)
    refine wpS_bind (wpS_modify ?_)
    refine wpS_bind (wpS_get ?_)
    refine wpS_pure ?_
    have:=fin M g hM
    have ef:(failedOf (jb6 st (kC (sa+k) M.toList (arrOf st)) P g)).isNone=true:=by show (failedOf st).isNone=true;rw [hf];rfl
    show Q (failedOf (jb6 st (kC (sa+k) M.toList (arrOf st)) P g)).isNone _
    rw [ef]
    exact this
end
def jfZ (lo a nrem:Nat):StateT SortSt Sem AscSt:=
 forIn [a:nrem] ((none,a):AscSt) fun _ c=>do
  let x ← ltAt' (lo+c.snd) (lo+c.snd - 1)
  match x with
  | some smaller=>if smaller=true then pure (ForInStep.done (none,c.snd)) else pure (ForInStep.yield (none,c.snd+1))
  | _=>pure (ForInStep.done (some none,c.snd))
def ja4 (lo n nrem:Nat):StateT SortSt Sem (Option Nat):=do
 reverseSlice' lo (lo+n)
 let c ← jfZ lo n nrem
 match c.fst with
 | some r=>pure r
 | none=>pure (some c.snd)
def jeq (lo n nrem:Nat):StateT SortSt Sem DescSt:=
 forIn [n:nrem] ((none,n,0):DescSt) fun _ c=>do
  let x ← ltAt' (lo+c.snd.fst) (lo+c.snd.fst - 1)
  match x with
  | some smaller=>
   if smaller=true then
    if c.snd.snd > 0 then do
     reverseSlice' (lo+c.snd.fst - (c.snd.snd+1)) (lo+c.snd.fst)
     pure (ForInStep.yield (none,c.snd.fst+1,0))
    else pure (ForInStep.yield (none,c.snd.fst+1,0))
   else do
    let x ← ltAt' (lo+c.snd.fst - 1) (lo+c.snd.fst)
    match x with
    | some larger=>
     if larger=true then pure (ForInStep.done (none,c.snd.fst,c.snd.snd))
     else pure (ForInStep.yield (none,c.snd.fst+1,c.snd.snd+1))
    | _=>pure (ForInStep.done (some none,c.snd.fst,c.snd.snd))
  | _=>pure (ForInStep.done (some none,c.snd.fst,c.snd.snd))
def jbw (lo n nrem:Nat):StateT SortSt Sem (Option Nat):=do
 liftM (rule "list.sort.descending-run")
 let c ← jeq lo (n+1) nrem
 match c.fst with
 | some r=>pure r
 | none=>
  if c.snd.snd > 0 then do
   reverseSlice' (lo+c.snd.fst - (c.snd.snd+1)) (lo+c.snd.fst)
   ja4 lo c.snd.fst nrem
  else ja4 lo c.snd.fst nrem
theorem Zi (lo nrem:Nat):countRun' lo nrem=(do
  let c ← jfZ lo 1 nrem
  match c.fst with
  | some r=>pure r
  | none=>
   if (c.snd == nrem)=true then pure (some c.snd)
   else if c.snd > 1 then do
    let x ← ltAt' lo (lo+c.snd - 1)
    match x with
    | some rose=>if rose=true then pure (some c.snd) else do
      reverseSlice' lo (lo+c.snd)
      jbw lo c.snd nrem
    | _=>pure none
   else jbw lo c.snd nrem):=by
 rw [countRun'_eq]
 dsimp only
 unfold jbw ja4 jeq jfZ
 congr 1
 funext c
 obtain ⟨r,n⟩:=c
 cases r with
 | some r=>rfl
 | none=>
  dsimp only
  split
  ·rfl
  ·split
   ·congr 1
    funext x
    cases x with
    | none=>rfl
    | some rose=>
     dsimp only
     split
     ·rfl
     ·congr 1
      funext _r
      congr 1
      funext u1
      congr 1
      congr 1
      funext d
      obtain ⟨d1,d2,d3⟩:=d
      cases d1 with
      | some _=>rfl
      | none=>
       dsimp only
       split
       ·congr 1
        funext u2
        congr 1
        funext u3
        congr 1
        funext e
        obtain ⟨e1,e2⟩:=e
        cases e1 <;> rfl
       ·congr 1
        funext u3
        congr 1
        funext e
        obtain ⟨e1,e2⟩:=e
        cases e1 <;> rfl
   ·congr 1
    funext u1
    congr 1
    congr 1
    funext d
    obtain ⟨d1,d2,d3⟩:=d
    cases d1 with
    | some _=>rfl
    | none=>
     dsimp only
     split
     ·congr 1
      funext u2
      congr 1
      funext u3
      congr 1
      funext e
      obtain ⟨e1,e2⟩:=e
      cases e1 <;> rfl
     ·congr 1
      funext u3
      congr 1
      funext e
      obtain ⟨e1,e2⟩:=e
      cases e1 <;> rfl
section
variable {prog:Program} {w:World} {A:Around} {E:Value→Shared→Prop} {s:Shared} {a₀ ar0:Array Keyed} {κ:KeyKind} {knd:SortKind} {P:Array (Nat×Nat×Nat)} {lo:Nat}
structure TB (knd:SortKind) (a₀:Array Keyed) (P:Array (Nat×Nat×Nat)) (lo:Nat) (ar0:Array Keyed) (st:SortSt):Prop where
 perm:(arrOf st).Perm a₀
 kind:kindOf st=knd
 failed:failedOf st=none
 pend:pendingOf st=P
 low:∀ k,k < lo→(arrOf st)[k]?=ar0[k]?
theorem TB.size {st:SortSt} (h:TB knd a₀ P lo ar0 st):(arrOf st).size=a₀.size:=h.perm.size_eq
theorem TB.setArr {st:SortSt} (h:TB knd a₀ P lo ar0 st) {xs:Array Keyed} (hp:xs.Perm (arrOf st)) (hl:∀ k,k < lo→xs[k]?=(arrOf st)[k]?):TB knd a₀ P lo ar0 (setArr st xs):=
 ⟨hp.trans h.perm,h.kind,h.failed,h.pend,fun k hk=>(hl k hk).trans (h.low k hk)⟩
theorem TB.mir {st:SortSt} (h:TB knd a₀ P lo ar0 st) {i j:Nat} (hi:lo≤i) (hj:j≤a₀.size):TB knd a₀ P lo ar0 (PyProof.Rows.setArr st (mirror (arrOf st) i j ((j - i) / 2))):=
 h.setArr (mirror_perm _ _ _ _) fun k hk=>by rw [getElem?_mirror_all (by rw [h.size];exact hj),if_neg (by omega)]
theorem TB.key {st:SortSt} (T:TB knd a₀ P lo ar0 st) (keys:KeysOf κ a₀) {i:Nat} (below:i < a₀.size):∃ li:i < (arrOf st).size,kB κ ((arrOf st)[i]):=
 ⟨by rw [T.size];exact below,keys _ ((Array.perm_iff_toList_perm.mp T.perm).mem_iff.mp (Array.getElem_mem_toList _))⟩
theorem jb2 {st:SortSt} {i j:Nat} {x y:Keyed} {Q:Option Bool→SortSt→Prop} (hx:(arrOf st)[i]?=some x) (hy:(arrOf st)[j]?=some y) (h:wpS (model prog w) A E s (lt' x y) Q st):wpS (model prog w) A E s (ltAt' i j) Q st:=by
 rw [ltAt'_eq]
 refine wpS_bind (wpS_get ?_)
 dsimp only
 rw [elem'_eq,hx]
 refine wpS_bind (wpS_pure ?_)
 rw [elem'_eq,hy]
 exact wpS_bind (wpS_pure h)
theorem yL {st:SortSt} {i j:Nat} {Q:Option Bool→SortSt→Prop} (hO:LtAt prog w A E s knd κ) (T:TB knd a₀ P lo ar0 st) (keys:KeysOf κ a₀) (bi:i < a₀.size) (bj:j < a₀.size) (q:Q (some (κ.blt (KK κ (arrOf st) i) (KK κ (arrOf st) j))) st) :
  wpS (model prog w) A E s (ltAt' i j) Q st:=by
 obtain ⟨li,hx⟩:=T.key keys bi
 obtain ⟨lj,hy⟩:=T.key keys bj
 rw [Js li,Js lj] at q
 exact jb2 (getElem?_pos _ i li) (getElem?_pos _ j lj) (hO _ _ _ _ T.kind hx hy q)
def Dsg (κ:KeyKind) (arr:Array Keyed) (lo hi:Nat):Prop:=∀ i j,lo≤i→i≤j→j < hi→κ.kle (KK κ arr j) (KK κ arr i)
theorem grown {R:Nat→Nat→Prop} (refl:∀ i,R i i) (trans:∀ i j k,R i j→R j k→R i k) {lo top:Nat} (low:lo < top) (old:∀ i j,lo≤i→i≤j→j < top→R i j) (new:R (top - 1) top):∀ i j,lo≤i→i≤j→j < top+1→R i j:=fun i j a b c=>by
 rcases Nat.lt_or_ge j top with d | d
 ·exact old i j a b d
 have ej:j=top:=by omega
 rcases Nat.lt_or_ge i j with f | f
 ·rw [ej];exact trans _ _ _ (old i (top - 1) a (by omega) (by omega)) new
 ·rw [show i=j by omega];exact refl j
theorem Seg.grow {arr:Array Keyed} {lo top:Nat} (low:lo < top) (g:Seg κ arr lo top) (n:κ.kle (KK κ arr (top - 1)) (KK κ arr top)):Seg κ arr lo (top+1):=
 grown (R:=fun i j=>κ.kle (KK κ arr i) (KK κ arr j)) (fun _=>KeyOrd.kle_refl _) (fun _ _ _=>KeyOrd.kle_trans) low g n
theorem Dsg.grow {arr:Array Keyed} {lo top:Nat} (low:lo < top) (g:Dsg κ arr lo top) (n:κ.kle (KK κ arr top) (KK κ arr (top - 1))):Dsg κ arr lo (top+1):=
 grown (R:=fun i j=>κ.kle (KK κ arr j) (KK κ arr i)) (fun _=>KeyOrd.kle_refl _) (fun _ _ _ a b=>KeyOrd.kle_trans b a) low g n
theorem Seg.one {arr:Array Keyed} {lo:Nat}:Seg κ arr lo (lo+1):=fun i j a b c=>by rw [show i=j by omega];exact KeyOrd.kle_refl _
theorem Dsg.one {arr:Array Keyed} {lo:Nat}:Dsg κ arr lo (lo+1):=fun i j a b c=>by rw [show i=j by omega];exact KeyOrd.kle_refl _
theorem Dsg.like {arr ys:Array Keyed} {lo hi:Nat} (g:Dsg κ arr lo hi) (e:∀ k,KK κ ys k=KK κ arr k):Dsg κ ys lo hi:=fun i j a b c=>by rw [e i,e j];exact g i j a b c
abbrev jeF (knd:SortKind) (a₀:Array Keyed) (κ:KeyKind) (P:Array (Nat×Nat×Nat)) (lo:Nat) (ar0:Array Keyed) (nrem:Nat) (Q:Option Nat→SortSt→Prop):Prop:=
 ∀ (m:Nat) (sn:SortSt),TB knd a₀ P lo ar0 sn→1≤m→m≤nrem→Seg κ (arrOf sn) lo (lo+m)→Q (some m) sn
theorem Zx {st:SortSt} {a nrem:Nat} {Q:AscSt→SortSt→Prop} (hO:LtAt prog w A E s knd κ) (keys:KeysOf κ a₀) (room:lo+nrem≤a₀.size) (pos:0 < a) (le:a≤nrem) (T:TB knd a₀ P lo ar0 st) (G:Seg κ (arrOf st) lo (lo+a))
  (q:∀ n,a≤n→n≤nrem→Seg κ (arrOf st) lo (lo+n)→(n < nrem→κ.klt (KK κ (arrOf st) (lo+n)) (KK κ (arrOf st) (lo+n - 1)))→Q (none,n) st):wpS (model prog w) A E s (jfZ lo a nrem) Q st:=by
 refine wpS_forRange (I:=fun n c sn=>sn=st∧c=(none,n)∧Seg κ (arrOf st) lo (lo+n)) (fun n c sn an bn J=>?_) (fun c sn J=>?_) ⟨rfl,rfl,G⟩
 ·obtain ⟨rfl,rfl,Gn⟩:=J
  refine wpS_bind (yL hO T keys (i:=lo+n) (j:=lo+n - 1) (by omega) (by omega) ?_)
  cases c:κ.blt (KK κ (arrOf sn) (lo+n)) (KK κ (arrOf sn) (lo+n - 1)) with
  | true=>exact wpS_pure (q n an (Nat.le_of_lt bn) Gn fun _=>c)
  | false=>exact wpS_pure ⟨rfl,rfl,Seg.grow (top:=lo+n) (by omega) Gn c⟩
 ·obtain ⟨rfl,rfl,Gn⟩:=J
  have e:max a nrem=nrem:=by omega
  rw [e] at Gn ⊢
  exact q nrem le (Nat.le_refl _) Gn fun z=>absurd z (Nat.lt_irrefl _)
theorem Yc {st:SortSt} {n nrem:Nat} {Q:Option Nat→SortSt→Prop} (hO:LtAt prog w A E s knd κ) (keys:KeysOf κ a₀) (room:lo+nrem≤a₀.size) (pos:0 < n) (le:n≤nrem) (T:TB knd a₀ P lo ar0 st) (D:Dsg κ (arrOf st) lo (lo+n))
  (q:jeF knd a₀ κ P lo ar0 nrem Q):wpS (model prog w) A E s (ja4 lo n nrem) Q st:=by
 have T1:=T.mir (i:=lo) (j:=lo+n) (Nat.le_refl _) (by omega)
 have z:lo+n≤(arrOf st).size:=by rw [T.size];omega
 refine wpS_bind (wpS_reverse (wpS_bind (Zx hO keys room pos le T1 (fun i j a b c=>?_) fun m am bm Gm _=>wpS_pure (q m _ T1 (by omega) bm Gm))))
 have em:=fun k=>KK_mirror (κ:=κ) (i:=lo) z k
 have ei:=em i
 have ej:=em j
 rw [if_pos ⟨a,by omega⟩] at ei
 rw [if_pos ⟨by omega,c⟩] at ej
 exact ei ▸ ej ▸ D (lo+(lo+n) - 1 - j) (lo+(lo+n) - 1 - i) (by omega) (by omega) (by omega)
def jhn (κ:KeyKind) (arr:Array Keyed) (top neq:Nat):Prop:=∀ k,top - (neq+1)≤k→k < top→KK κ arr k=KK κ arr (top - 1)
theorem jb3 {st:SortSt} {n nrem:Nat} {Q:DescSt→SortSt→Prop} (hO:LtAt prog w A E s knd κ) (keys:KeysOf κ a₀) (room:lo+nrem≤a₀.size) (pos:0 < n) (le:n≤nrem) (T:TB knd a₀ P lo ar0 st) (D:Dsg κ (arrOf st) lo (lo+n))
  (q:∀ m neq sn,TB knd a₀ P lo ar0 sn→n≤m→m≤nrem→Dsg κ (arrOf sn) lo (lo+m)→neq < m→jhn κ (arrOf sn) (lo+m) neq→Q (none,m,neq) sn):wpS (model prog w) A E s (jeq lo n nrem) Q st:=by
 have flat0:∀ (arr:Array Keyed) (t:Nat),jhn κ arr t 0:=fun arr t k a b=>by rw [show k=t - 1 by omega]
 refine wpS_forRange (I:=fun m c sn=>∃ neq,c=(none,m,neq)∧TB knd a₀ P lo ar0 sn∧Dsg κ (arrOf sn) lo (lo+m)∧neq < m∧jhn κ (arrOf sn) (lo+m) neq) (fun m c sn am bm J=>?_) (fun c sn J=>?_) ⟨0,rfl,T,D,pos,flat0 _ _⟩
 ·obtain ⟨neq,rfl,Tn,Dn,ln,fl⟩:=J
  have z:lo+m≤(arrOf sn).size:=by rw [Tn.size];omega
  refine wpS_bind (yL hO Tn keys (i:=lo+m) (j:=lo+m - 1) (by omega) (by omega) ?_)
  cases c:κ.blt (KK κ (arrOf sn) (lo+m)) (KK κ (arrOf sn) (lo+m - 1)) with
  | true=>
   have D1:=Dsg.grow (top:=lo+m) (by omega) Dn (KeyOrd.kle_of_klt (show κ.klt _ _ from c))
   have T1:=Tn.mir (i:=lo+m - (neq+1)) (j:=lo+m) (by omega) (by omega)
   by_cases more:neq > 0
   ·show wpS _ _ _ _ (if neq > 0 then _ else _) _ _
    rw [if_pos more]
    exact wpS_bind (wpS_reverse (wpS_pure ⟨0,rfl,T1,D1.like (KK_mirror_equal z fl),by omega,flat0 _ _⟩))
   ·show wpS _ _ _ _ (if neq > 0 then _ else _) _ _
    rw [if_neg more]
    exact wpS_pure ⟨0,rfl,Tn,D1,by omega,flat0 _ _⟩
  | false=>
   show wpS _ _ _ _ (ltAt' (lo+m - 1) (lo+m) >>= _) _ _
   refine wpS_bind (yL hO Tn keys (i:=lo+m - 1) (j:=lo+m) (by omega) (by omega) ?_)
   cases d:κ.blt (KK κ (arrOf sn) (lo+m - 1)) (KK κ (arrOf sn) (lo+m)) with
   | true=>exact wpS_pure (q m neq sn Tn am (by omega) Dn ln fl)
   | false=>
    have eq:KK κ (arrOf sn) (lo+m)=KK κ (arrOf sn) (lo+m - 1):=KeyOrd.kle_antisymm d c
    refine wpS_pure ⟨neq+1,rfl,Tn,Dsg.grow (top:=lo+m) (by omega) Dn d,by omega,fun k a b=>?_⟩
    show _=KK κ (arrOf sn) (lo+m)
    rcases Nat.lt_or_ge k (lo+m) with f | f
    ·rw [eq];exact fl k (by omega) f
    ·rw [show k=lo+m by omega]
 ·obtain ⟨neq,rfl,Tn,Dn,ln,fl⟩:=J
  have e:max n nrem=nrem:=by omega
  rw [e] at Dn ln fl ⊢
  exact q nrem neq sn Tn le (Nat.le_refl _) Dn ln fl
theorem Yd {st:SortSt} {n nrem:Nat} {Q:Option Nat→SortSt→Prop} (hO:LtAt prog w A E s knd κ) (keys:KeysOf κ a₀) (room:lo+nrem≤a₀.size) (le:n+1≤nrem) (T:TB knd a₀ P lo ar0 st) (D:Dsg κ (arrOf st) lo (lo+n+1))
  (q:jeF knd a₀ κ P lo ar0 nrem Q):wpS (model prog w) A E s (jbw lo n nrem) Q st:=by
 refine wpS_bind (wpS_lift (wpAny_rule ⟨rfl,wpS_bind (jb3 hO keys room (Nat.succ_pos n) le T D fun m neq sn Tn am bm Dn ln fl=>?_)⟩))
 have z:lo+m≤(arrOf sn).size:=by rw [Tn.size];omega
 have m0:0 < m:=by omega
 have T1:=Tn.mir (i:=lo+m - (neq+1)) (j:=lo+m) (by omega) (by omega)
 show wpS _ _ _ _ (if neq > 0 then _ else _) _ _
 split
 ·exact wpS_bind (wpS_reverse (Yc (n:=m) hO keys room m0 bm T1 (Dn.like (KK_mirror_equal z fl)) q))
 ·exact Yc (n:=m) hO keys room m0 bm Tn Dn q
theorem jaj {st:SortSt} {nrem:Nat} {Q:Option Nat→SortSt→Prop} (hO:LtAt prog w A E s knd κ) (keys:KeysOf κ a₀) (room:lo+nrem≤a₀.size) (pos:1≤nrem) (T:TB knd a₀ P lo ar0 st)
  (q:jeF knd a₀ κ P lo ar0 nrem Q):wpS (model prog w) A E s (countRun' lo nrem) Q st:=by
 rw [Zi]
 refine wpS_bind (Zx hO keys room Nat.one_pos pos T Seg.one fun n an bn Gn ends=>?_)
 show wpS _ _ _ _ (if (n == nrem)=true then _ else if n > 1 then _ else _) _ _
 by_cases all:n=nrem
 ·rw [if_pos (beq_iff_eq.mpr all)]
  exact wpS_pure (q n st T an bn Gn)
 rw [if_neg (fun z=>all (beq_iff_eq.mp z))]
 have falls:=ends (by omega)
 have z:lo+n≤(arrOf st).size:=by rw [T.size];omega
 by_cases more:n > 1
 ·rw [if_pos more]
  refine wpS_bind (yL hO T keys (i:=lo) (j:=lo+n - 1) (by omega) (by omega) ?_)
  cases c:κ.blt (KK κ (arrOf st) lo) (KK κ (arrOf st) (lo+n - 1)) with
  | true=>exact wpS_pure (q n st T an bn Gn)
  | false=>
   have alike:∀ k,lo≤k→k < lo+n→KK κ (arrOf st) k=KK κ (arrOf st) (lo+n - 1):=fun k a b=>
    KeyOrd.kle_antisymm (Gn k (lo+n - 1) a (by omega) (by omega)) (KeyOrd.kle_trans (show κ.kle _ _ from c) (Gn lo k (Nat.le_refl _) a b))
   have D0:Dsg κ (arrOf st) lo (lo+n):=fun i j a b d=>by rw [alike i a (by omega),alike j (by omega) d];exact KeyOrd.kle_refl _
   show wpS _ _ _ _ (reverseSlice' lo (lo+n) >>= _) _ _
   exact wpS_bind (wpS_reverse (Yd hO keys room (by omega) (T.mir (Nat.le_refl _) (by omega)) ((D0.grow (by omega) (KeyOrd.kle_of_klt falls)).like (KK_mirror_equal z alike)) q))
 ·rw [if_neg more]
  have e:n=1:=by omega
  subst e
  exact Yd hO keys room (by omega) T (Dsg.one.grow (by omega) (KeyOrd.kle_of_klt falls)) q
theorem jcR {st:SortSt} {n ok:Nat} {Q:Bool→SortSt→Prop} (hO:LtAt prog w A E s knd κ) (keys:KeysOf κ a₀) (room:lo+n≤a₀.size) (le:ok≤n) (T:TB knd a₀ P lo ar0 st) (G:Seg κ (arrOf st) lo (lo+ok))
  (q:∀ sn,TB knd a₀ P lo ar0 sn→Seg κ (arrOf sn) lo (lo+n)→Q true sn):wpS (model prog w) A E s (binarySort' lo n ok) Q st:=by
 rw [binarySort'_eq]
 refine wpS_bind (wpS_mono (wpS_forRange (I:=fun k c sn=>c=(none,())∧TB knd a₀ P lo ar0 sn∧Seg κ (arrOf sn) lo (lo+min k n)) (Q:=fun c sn=>c=(none,())∧TB knd a₀ P lo ar0 sn∧Seg κ (arrOf sn) lo (lo+n)) (fun k c sn ak bk J=>?_) (fun c sn J=>?_) ⟨rfl,T,fun i j a b c=>?_⟩) fun c sn J=>?_)
 ·obtain ⟨rfl,Tn,Gn⟩:=J
  have e:min k n=k:=by omega
  rw [e] at Gn
  have z:lo+k < (arrOf sn).size:=by rw [Tn.size];omega
  refine wpS_bind (wpS_mono (wpS_forRange (I:=fun y d sm=>sm=sn∧∃ l r,d=(none,l,r)∧l≤r∧r≤k∧r - l+y≤k∧(∀ i,lo≤i→i < lo+l→κ.kle (KK κ (arrOf sn) i) (KK κ (arrOf sn) (lo+k)))∧∀ i,lo+r≤i→i < lo+k→κ.klt (KK κ (arrOf sn) (lo+k)) (KK κ (arrOf sn) i))
   (Q:=fun d sm=>sm=sn∧∃ l,d=(none,l,l)∧l≤k∧(∀ i,lo≤i→i < lo+l→κ.kle (KK κ (arrOf sn) i) (KK κ (arrOf sn) (lo+k)))∧∀ i,lo+l≤i→i < lo+k→κ.klt (KK κ (arrOf sn) (lo+k)) (KK κ (arrOf sn) i))
   (fun y d sm ay bY J=>?_) (fun d sm J=>?_) ⟨rfl,0,k,rfl,Nat.zero_le _,Nat.le_refl _,by omega,fun i a b=>by omega,fun i a b=>by omega⟩) fun d sm J=>?_)
  ·obtain ⟨rfl,l,r,rfl,lr,rk,fuel,below,above⟩:=J
   show wpS _ _ _ _ (if l ≥ r then _ else _) _ _
   by_cases meet:l ≥ r
   ·rw [if_pos meet]
    have e:l=r:=by omega
    subst e
    exact wpS_pure ⟨rfl,l,rfl,rk,below,above⟩
   rw [if_neg meet]
   refine wpS_bind (yL hO Tn keys (i:=lo+k) (j:=lo+(l+r) / 2) (by omega) (by omega) ?_)
   cases c:κ.blt (KK κ (arrOf sm) (lo+k)) (KK κ (arrOf sm) (lo+(l+r) / 2)) with
   | true=>exact wpS_pure ⟨rfl,l,(l+r) / 2,rfl,by omega,by omega,by omega,below,fun i a b=>KeyOrd.klt_of_klt_of_kle (show κ.klt _ _ from c) (Gn _ i (by omega) a b)⟩
   | false=>exact wpS_pure ⟨rfl,(l+r) / 2+1,r,rfl,by omega,rk,by omega,fun i a b=>KeyOrd.kle_trans (Gn i _ a (by omega) (by omega)) (show κ.kle _ _ from c),above⟩
  ·obtain ⟨rfl,l,r,rfl,lr,rk,fuel,below,above⟩:=J
   have e:l=r:=by omega
   subst e
   exact ⟨rfl,l,rfl,rk,below,above⟩
  ·obtain ⟨rfl,l,rfl,lk,below,above⟩:=J
   show wpS _ _ _ _ (moveDown' (lo+k) (lo+l) >>= fun _=>pure (ForInStep.yield (none,()))) _ _
   rw [moveDown'_eq]
   have steps:lo+k - (lo+l)≤lo+k:=Nat.sub_le _ _
   have land:lo+k - (lo+k - (lo+l))=lo+l:=by omega
   refine wpS_bind (wpS_modify (wpS_pure ⟨rfl,Tn.setArr (bubble_perm _ _ _) (fun i a=>?_),fun i j a b c=>?_⟩))
   ·rw [getElem?_bubble z _ steps,if_neg (by omega),if_neg (by omega)]
   have e1:min (k+1) n=k+1:=by omega
   rw [e1] at c
   have at_:=fun p=>KK_bubble (κ:=κ) z steps p
   rw [land] at at_
   have ki:=at_ i
   have kj:=at_ j
   show κ.kle (KK κ (bubble (arrOf sm) (lo+k) (lo+k - (lo+l))) i) (KK κ (bubble (arrOf sm) (lo+k) (lo+k - (lo+l))) j)
   rw [ki,kj]
   rcases Nat.lt_trichotomy i (lo+l) with f | f | f
   ·rw [if_neg (Nat.ne_of_lt f),if_neg (by omega)]
    rcases Nat.lt_trichotomy j (lo+l) with g | g | g
    ·rw [if_neg (Nat.ne_of_lt g),if_neg (by omega)]
     exact Gn i j a b (by omega)
    ·rw [if_pos g]
     exact below i a f
    ·rw [if_neg (Nat.ne_of_gt g),if_pos ⟨g,by omega⟩]
     exact Gn i (j - 1) a (by omega) (by omega)
   ·rw [if_pos f]
    rcases Nat.lt_or_ge i j with g | g
    ·rw [if_neg (by omega),if_pos (by omega)]
     exact KeyOrd.kle_of_klt (above (j - 1) (by omega) (by omega))
    ·rw [if_pos (by omega)]
     exact KeyOrd.kle_refl _
   ·rw [if_neg (Nat.ne_of_gt f),if_pos ⟨f,by omega⟩,if_neg (by omega),if_pos (by omega)]
    exact Gn (i - 1) (j - 1) (by omega) (by omega) (by omega)
 ·obtain ⟨rfl,Tn,Gn⟩:=J
  have e:min (max (max ok 1) n) n=n:=by omega
  rw [e] at Gn
  exact ⟨rfl,Tn,Gn⟩
 ·rcases Nat.eq_zero_or_pos ok with e | e
  ·rw [show i=j by omega];exact KeyOrd.kle_refl _
  ·exact G i j a b (by omega)
 ·obtain ⟨rfl,Tn,Gn⟩:=J
  exact wpS_pure (q sn Tn Gn)
end
section
variable {prog:Program} {w:World} {A:Around} {E:Value→Shared→Prop} {s:Shared} {a₀:Array Keyed} {κ:KeyKind} {knd:SortKind}
def qe (κ:KeyKind) (arr:Array Keyed):Nat→List (Nat×Nat×Nat)→Nat→Prop
 | lo,[],hi=>lo=hi
 | lo,p :: r,hi=>p.1=lo∧0 < p.2.1∧Seg κ arr lo (lo+p.2.1)∧qe κ arr (lo+p.2.1) r hi
theorem qz {arr:Array Keyed}:∀ {p q:List (Nat×Nat×Nat)} {lo hi:Nat},qe κ arr lo (p++q) hi↔∃ mid,qe κ arr lo p mid∧qe κ arr mid q hi
 | [],q,lo,hi=>by
  show qe κ arr lo q hi↔∃ mid,lo=mid∧qe κ arr mid q hi
  constructor
  ·intro h;exact ⟨lo,rfl,h⟩
  ·rintro ⟨_,rfl,h⟩;exact h
 | x :: p,q,lo,hi=>by
  have ih:=qz (arr:=arr) (p:=p) (q:=q) (lo:=lo+x.2.1) (hi:=hi)
  show (x.1=lo∧0 < x.2.1∧Seg κ arr lo (lo+x.2.1)∧qe κ arr (lo+x.2.1) (p++q) hi)↔∃ mid,(x.1=lo∧0 < x.2.1∧Seg κ arr lo (lo+x.2.1)∧qe κ arr (lo+x.2.1) p mid)∧qe κ arr mid q hi
  rw [ih]
  constructor
  ·rintro ⟨h1,h2,h3,mid,h4,h5⟩;exact ⟨mid,⟨h1,h2,h3,h4⟩,h5⟩
  ·rintro ⟨mid,⟨h1,h2,h3,h4⟩,h5⟩;exact ⟨h1,h2,h3,mid,h4,h5⟩
theorem zV {arr:Array Keyed}:∀ {p:List (Nat×Nat×Nat)} {lo hi:Nat},qe κ arr lo p hi→lo+p.length≤hi
 | [],lo,hi,h=>by have:lo=hi:=h;simp;omega
 | x :: p,lo,hi,h=>by
  obtain ⟨_,h2,_,h4⟩:=h
  have:=zV h4
  rw [List.length_cons]
  omega
theorem qU {arr arr':Array Keyed}:∀ {p:List (Nat×Nat×Nat)} {lo hi:Nat},(∀ k,lo≤k→k < hi→arr'[k]?=arr[k]?)→qe κ arr lo p hi→qe κ arr' lo p hi
 | [],lo,hi,_,h=>h
 | x :: p,lo,hi,e,h=>by
  obtain ⟨h1,h2,h3,h4⟩:=h
  have hl:=zV h4
  refine ⟨h1,h2,fun i j g1 g2 g3=>?_,qU (fun k g1 g2=>e k (by omega) g2) h4⟩
  rw [KK_congr (e i g1 (by omega)),KK_congr (e j (by omega) (by omega))]
  exact h3 i j g1 g2 g3
structure SInv (knd:SortKind) (κ:KeyKind) (a₀:Array Keyed) (hi:Nat) (st:SortSt):Prop where
 perm:(arrOf st).Perm a₀
 kind:kindOf st=knd
 failed:failedOf st=none
 chain:qe κ (arrOf st) 0 (pendingOf st).toList hi
theorem jde {α:Type} {l:List α} {i:Nat} (h:i+1 < l.length):l=l.take i++l[i] :: l[i+1] :: l.drop (i+2):=by
 have e1:=List.take_append_drop i l
 rw [List.drop_eq_getElem_cons (by omega),List.drop_eq_getElem_cons h] at e1
 exact e1.symm
theorem ZX {α:Type} {P:Array α} {i:Nat} {v:α} (h:i+1 < P.size):((P.setIfInBounds i v).eraseIdxIfInBounds (i+1)).toList=P.toList.take i++v :: P.toList.drop (i+2):=by
 have hl:i+1 < P.toList.length:=by simpa using h
 have e:=jde hl
 have e1:((P.setIfInBounds i v).eraseIdxIfInBounds (i+1)).toList=(P.toList.set i v).eraseIdx (i+1):=by
  simp
 rw [e1]
 have lt:(P.toList.take i).length=i:=by rw [List.length_take];omega
 have e2:P.toList.set i v=P.toList.take i++v :: P.toList[i+1] :: P.toList.drop (i+2):=by
  conv=>lhs;rw [e]
  rw [List.set_append_right _ _ (by omega),lt,Nat.sub_self]
  rfl
 rw [e2,List.eraseIdx_append_of_length_le (by omega),lt]
 have:i+1 - i=1:=by omega
 rw [this]
 rfl
theorem Kg {st:SortSt} {Q:Bool→SortSt→Prop} {i hi:Nat} (hO:LtAt prog w A E s knd κ) (h0:KeysOf κ a₀) (S:SInv knd κ a₀ hi st) (hz:hi≤a₀.size) (h1:i+1 < (pendingOf st).size)
  (h:∀ st',SInv knd κ a₀ hi st'→(pendingOf st').size+1=(pendingOf st).size→(∀ k,hi≤k→(arrOf st')[k]?=(arrOf st)[k]?)→Q true st'):wpS (model prog w) A E s (mergeAt' i) Q st:=by
 have hl:i+1 < (pendingOf st).toList.length:=by simpa using h1
 have C:=S.chain
 have eP:=jde hl
 rw [eP] at C
 obtain ⟨mid,c1,c2⟩:=qz.mp C
 obtain ⟨s1,l1,g1,c2⟩:=c2
 obtain ⟨s2,l2,g2,c3⟩:=c2
 have sz:(arrOf st).size=a₀.size:=S.perm.size_eq
 have hc3:=zV c3
 have ht:(pendingOf st)[i]?=some (mid,(pendingOf st).toList[i].2.1,(pendingOf st).toList[i].2.2):=by
  rw [← Array.getElem?_toList,List.getElem?_eq_getElem (by omega),← s1]
 have ht2:(pendingOf st)[i+1]?=some (mid+(pendingOf st).toList[i].2.1,(pendingOf st).toList[i+1].2.1,(pendingOf st).toList[i+1].2.2):=by
  rw [← Array.getElem?_toList,List.getElem?_eq_getElem hl,← s2]
 refine Zw hO S.kind S.failed (fun j hj=>?_) ht ht2 l1 l2 (by omega) g1 g2 fun arr' g hp hs ho=>?_
 ·exact h0 _ ((Array.perm_iff_toList_perm.mp S.perm).mem_iff.mp (by simp))
 ·have el:=ZX (v:=(mid,(pendingOf st).toList[i].2.1+(pendingOf st).toList[i+1].2.1,(pendingOf st).toList[i].2.2)) h1
  refine h _ ⟨hp.trans S.perm,S.kind,S.failed,?_⟩ ?_ fun k hk=>ho k (.inr (by omega))
  ·show qe κ arr' 0 _ hi
   show qe κ arr' 0 (((pendingOf st).setIfInBounds i (mid,(pendingOf st).toList[i].2.1+(pendingOf st).toList[i+1].2.1,(pendingOf st).toList[i].2.2)).eraseIdxIfInBounds (i+1)).toList hi
   rw [el]
   have hmid:=zV c1
   refine qz.mpr ⟨mid,qU (fun k _ g2=>ho k (.inl g2)) c1,rfl,?_,?_,?_⟩
   ·show 0 < _+_
    omega
   ·rw [← Nat.add_assoc]
    exact hs
   ·rw [← Nat.add_assoc]
    exact qU (fun k g1 _=>ho k (.inr g1)) c3
  ·show (((pendingOf st).setIfInBounds i (mid,(pendingOf st).toList[i].2.1+(pendingOf st).toList[i+1].2.1,(pendingOf st).toList[i].2.2)).eraseIdxIfInBounds (i+1)).size+1=_
   rw [← Array.length_toList,el,List.length_append,List.length_cons,List.length_take,List.length_drop,Array.length_toList]
   omega
theorem JL {arr:Array Keyed}:∀ {p q:List (Nat×Nat×Nat)} {lo hi:Nat},p.map (fun z=>(z.1,z.2.1))=q.map (fun z=>(z.1,z.2.1))→qe κ arr lo p hi→qe κ arr lo q hi
 | [],[],_,_,_,h=>h
 | [],_ :: _,_,_,e,_=>by simp at e
 | _ :: _,[],_,_,e,_=>by simp at e
 | x :: p,y :: q,lo,hi,e,h=>by
  rw [List.map_cons,List.map_cons] at e
  injection e with e1 e2
  have e3:x.1=y.1:=(Prod.mk.inj e1).1
  have e4:x.2.1=y.2.1:=(Prod.mk.inj e1).2
  obtain ⟨h1,h2,h3,h4⟩:=h
  rw [e4] at h2 h3 h4
  exact ⟨e3.symm.trans h1,h2,h3,JL e2 h4⟩
theorem KD {P:Array (Nat×Nat×Nat)} {i:Nat} {f:Nat×Nat×Nat→Nat×Nat×Nat} (hf:∀ z,(f z).1=z.1∧(f z).2.1=z.2.1):P.toList.map (fun z=>(z.1,z.2.1))=(P.modify i f).toList.map (fun z=>(z.1,z.2.1)):=by
 refine List.ext_getElem? fun k=>?_
 rw [List.getElem?_map,List.getElem?_map,Array.getElem?_toList,Array.getElem?_toList,Array.getElem?_modify]
 split
 ·cases P[k]? with
  | none=>rfl
  | some z=>
   obtain ⟨h1,h2⟩:=hf z
   show some (z.1,z.2.1)=some ((f z).1,(f z).2.1)
   rw [h1,h2]
 ·rfl
theorem SInv.push {st:SortSt} {lo n:Nat} (S:SInv knd κ a₀ lo st) (h:Seg κ (arrOf st) lo (lo+n)) (hn:0 < n):SInv knd κ a₀ (lo+n) (setPending st ((pendingOf st).push (lo,n,0))):=by
 refine ⟨S.perm,S.kind,S.failed,?_⟩
 show qe κ (arrOf st) 0 ((pendingOf st).push (lo,n,0)).toList (lo+n)
 rw [Array.toList_push]
 exact qz.mpr ⟨lo,S.chain,rfl,hn,h,rfl⟩
theorem wpS_sortAll {st:SortSt} {Q:Unit→SortSt→Prop} (hO:LtAt prog w A E s knd κ) (h0:KeysOf κ a₀) (S:SInv knd κ a₀ 0 st) (h1:1≤a₀.size)
  (q:∀ sn,(arrOf sn).Perm a₀→failedOf sn=none→SortedToK κ (arrOf sn) a₀.size→Q () sn):wpS (model prog w) A E s sortRuns' Q st:=by
 rw [sortRuns'_eq]
 refine wpS_bind (wpS_get ?_)
 dsimp only
 rw [S.perm.size_eq]
 generalize minRun' a₀.size a₀.size 0=mr
 refine wpS_bind (wpS_mono (wpS_forRange (I:=fun (x:Nat) (c:Option Unit×Nat) (st':SortSt)=>c.1=none∧x≤c.2∧c.2≤a₀.size∧SInv knd κ a₀ c.2 st')
  (Q:=fun (c:Option Unit×Nat) (st':SortSt)=>c.1=none∧SInv knd κ a₀ a₀.size st') ?step ?fin ⟨rfl,Nat.le_refl _,Nat.zero_le _,S⟩) ?post)
 case fin=>
  rintro ⟨c1,lo⟩ st' ⟨hc,g1,g2,S'⟩
  dsimp only at hc g1 g2 S'
  have:lo=a₀.size:=by omega
  subst this
  exact ⟨hc,S'⟩
 case step=>
  rintro x ⟨c1,lo⟩ st' _ hx ⟨hc,g1,g2,S'⟩
  dsimp only at hc g1 g2 S' ⊢
  subst hc
  by_cases hge:lo ≥ a₀.size
  ·rw [if_pos hge]
   have:lo=a₀.size:=by omega
   subst this
   exact wpS_pure ⟨rfl,S'⟩
  ·rw [if_neg hge]
   have T0:TB knd a₀ (pendingOf st') lo (arrOf st') st':=⟨S'.perm,S'.kind,S'.failed,rfl,fun _ _=>rfl⟩
   refine wpS_bind (jaj hO h0 (by omega) (by omega) T0 fun m st2 T2 hm1 hm2 hs2=>?_)
   dsimp only
   have back:∀ {st2:SortSt},TB knd a₀ (pendingOf st') lo (arrOf st') st2→SInv knd κ a₀ lo st2:=fun {st2} T2=>by
    refine ⟨T2.perm,T2.kind,T2.failed,?_⟩
    rw [T2.pend]
    exact qU (fun k _ g=>T2.low k g) S'.chain
   split
   ·refine wpS_bind (wpS_lift (wpAny_rule ⟨rfl,?_⟩))
    refine wpS_bind (jcR hO h0 (n:=min (a₀.size - lo) mr) (by omega) (by omega) T2 hs2 fun st3 T3 hs3=>?_)
    simp only [Bool.not_true,Bool.false_eq_true,if_false]
    have hn1:0 < min (a₀.size - lo) mr:=by omega
    have hn2:lo+min (a₀.size - lo) mr≤a₀.size:=by omega
    generalize min (a₀.size - lo) mr=n at *
    have S3:=back T3
    have G3:=hs3
    refine wpS_bind (wpS_get ?_)
    cases hbk:(pendingOf st3).back? with
    | none=>
     dsimp only
     exact wpS_bind (wpS_modify (wpS_pure ⟨rfl,by show x+1≤lo+n;omega,hn2,S3.push G3 hn1⟩))
    | some z=>
     obtain ⟨s1,n1,p1⟩:=z
     dsimp only
     generalize power' a₀.size (2 * s1+n1) (2 * s1+n1+n1+n) a₀.size=pw
     refine wpS_bind (wpS_mono (wpS_forRange (I:=fun (_:Nat) (c:Option Unit×Unit) (st4:SortSt)=>c=(none,())∧SInv knd κ a₀ lo st4∧Seg κ (arrOf st4) lo (lo+n))
      (Q:=fun (c:Option Unit×Unit) (st4:SortSt)=>c=(none,())∧SInv knd κ a₀ lo st4∧Seg κ (arrOf st4) lo (lo+n)) ?step2 (fun _ _ hh=>hh) ⟨rfl,S3,G3⟩) ?post2)
     case step2=>
      rintro y c st4 _ hy ⟨rfl,S4,G4⟩
      refine wpS_bind (wpS_get ?_)
      by_cases h2:(pendingOf st4).size > 1
      ·rw [if_pos h2,getElem?_pos (pendingOf st4) ((pendingOf st4).size - 2) (by omega)]
       generalize (pendingOf st4)[(pendingOf st4).size - 2]=z
       obtain ⟨z1,z2,z3⟩:=z
       dsimp only
       split
       ·exact wpS_pure ⟨rfl,S4,G4⟩
       ·refine wpS_bind (Kg hO h0 S4 (by omega) (by omega) fun st5 S5 _ ho=>?_)
        simp only [Bool.not_true,Bool.false_eq_true,if_false]
        refine wpS_pure ⟨rfl,S5,fun i j q1 q2 q3=>?_⟩
        rw [KK_congr (ho i q1),KK_congr (ho j (by omega))]
        exact G4 i j q1 q2 q3
      ·rw [if_neg h2]
       exact wpS_pure ⟨rfl,S4,G4⟩
     case post2=>
      rintro c st4 ⟨rfl,S4,G4⟩
      dsimp only
      refine wpS_bind (wpS_modify (wpS_bind (wpS_modify (wpS_pure ⟨rfl,by show x+1≤lo+n;omega,hn2,?_⟩))))
      refine SInv.push (st:=setPending st4 ((pendingOf st4).modify ((pendingOf st4).size - 1) fun z=>(z.1,z.2.1,pw))) ⟨S4.perm,S4.kind,S4.failed,?_⟩ G4 hn1
      exact JL (KD fun z=>⟨rfl,rfl⟩) S4.chain
   ·have hn1:0 < m:=by omega
    have hn2:lo+m≤a₀.size:=by omega
    have S3:=back T2
    have G3:=hs2
    refine wpS_bind (wpS_get ?_)
    cases hbk:(pendingOf st2).back? with
    | none=>
     dsimp only
     exact wpS_bind (wpS_modify (wpS_pure ⟨rfl,by show x+1≤lo+m;omega,hn2,S3.push G3 hn1⟩))
    | some z=>
     obtain ⟨s1,n1,p1⟩:=z
     dsimp only
     generalize power' a₀.size (2 * s1+n1) (2 * s1+n1+n1+m) a₀.size=pw
     refine wpS_bind (wpS_mono (wpS_forRange (I:=fun (_:Nat) (c:Option Unit×Unit) (st4:SortSt)=>c=(none,())∧SInv knd κ a₀ lo st4∧Seg κ (arrOf st4) lo (lo+m))
      (Q:=fun (c:Option Unit×Unit) (st4:SortSt)=>c=(none,())∧SInv knd κ a₀ lo st4∧Seg κ (arrOf st4) lo (lo+m)) ?step3 (fun _ _ hh=>hh) ⟨rfl,S3,G3⟩) ?post3)
     case step3=>
      rintro y c st4 _ hy ⟨rfl,S4,G4⟩
      refine wpS_bind (wpS_get ?_)
      by_cases h2:(pendingOf st4).size > 1
      ·rw [if_pos h2,getElem?_pos (pendingOf st4) ((pendingOf st4).size - 2) (by omega)]
       generalize (pendingOf st4)[(pendingOf st4).size - 2]=z
       obtain ⟨z1,z2,z3⟩:=z
       dsimp only
       split
       ·exact wpS_pure ⟨rfl,S4,G4⟩
       ·refine wpS_bind (Kg hO h0 S4 (by omega) (by omega) fun st5 S5 _ ho=>?_)
        simp only [Bool.not_true,Bool.false_eq_true,if_false]
        refine wpS_pure ⟨rfl,S5,fun i j q1 q2 q3=>?_⟩
        rw [KK_congr (ho i q1),KK_congr (ho j (by omega))]
        exact G4 i j q1 q2 q3
      ·rw [if_neg h2]
       exact wpS_pure ⟨rfl,S4,G4⟩
     case post3=>
      rintro c st4 ⟨rfl,S4,G4⟩
      dsimp only
      refine wpS_bind (wpS_modify (wpS_bind (wpS_modify (wpS_pure ⟨rfl,by show x+1≤lo+m;omega,hn2,?_⟩))))
      refine SInv.push (st:=setPending st4 ((pendingOf st4).modify ((pendingOf st4).size - 1) fun z=>(z.1,z.2.1,pw))) ⟨S4.perm,S4.kind,S4.failed,?_⟩ G4 hn1
      exact JL (KD fun z=>⟨rfl,rfl⟩) S4.chain
 case post=>
  rintro ⟨c1,lo⟩ st' ⟨hc,S'⟩
  dsimp only at hc ⊢
  subst hc
  dsimp only
  have hp:=zV S'.chain
  rw [Array.length_toList] at hp
  refine wpS_bind (wpS_mono (wpS_forRange (I:=fun (x:Nat) (c:Option Unit×Unit) (st4:SortSt)=>c=(none,())∧SInv knd κ a₀ a₀.size st4∧(pendingOf st4).size+x≤a₀.size)
   (Q:=fun (c:Option Unit×Unit) (st4:SortSt)=>c=(none,())∧SInv knd κ a₀ a₀.size st4∧(pendingOf st4).size≤1) ?step4 ?fin4 ⟨rfl,S',by omega⟩) ?post4)
  case fin4=>
   rintro c st4 ⟨rfl,S4,hz⟩
   exact ⟨rfl,S4,by omega⟩
  case step4=>
   rintro x c st4 _ hx ⟨rfl,S4,hz⟩
   refine wpS_bind (wpS_get ?_)
   by_cases h2:(pendingOf st4).size≤1
   ·rw [if_pos h2]
    exact wpS_pure ⟨rfl,S4,h2⟩
   ·rw [if_neg h2]
    have hix:∀ c:Prop,[Decidable c]→(if c then (pendingOf st4).size - 2 - 1 else (pendingOf st4).size - 2)+1 < (pendingOf st4).size:=fun c _=>by split <;> omega
    refine wpS_bind (Kg hO h0 S4 (Nat.le_refl _) (hix _) fun st5 S5 hs5 _=>?_)
    simp only [Bool.not_true,Bool.false_eq_true,if_false]
    exact wpS_pure ⟨rfl,S5,by omega⟩
  case post4=>
   rintro c st4 ⟨rfl,S4,hz⟩
   dsimp only
   refine wpS_pure (q st4 S4.perm S4.failed ?_)
   have C:=S4.chain
   have hl:(pendingOf st4).toList.length≤1:=by rw [Array.length_toList];exact hz
   generalize (pendingOf st4).toList=L at *
   match L,C,hl with
   | [],C,_=>
    have:(0:Nat)=a₀.size:=C
    omega
   | [p],C,_=>
    obtain ⟨_,_,g3,g4⟩:=C
    have g4:0+p.2.1=a₀.size:=g4
    rw [g4] at g3
    exact fun i j hij hj=>g3 i j (Nat.zero_le _) hij hj
end
end Tm
namespace L2
open PySem PySem.Spec PyProof.Rows PySem.W
section
variable {s:Shared}
theorem KG {A:Around}:∀ {xs ys:List D} {us vs:List Value},TrAtL s.heap xs us→TrAtL s.heap ys vs→CmpL xs ys→(∀ x∈xs,∀ (y:D) (u v:Value),TrAt s.heap x u→TrAt s.heap y v→SeqAt.EqAt A s u v (dEq x y))→(∀ x∈xs,∀ (y:D) (u v:Value),TrAt s.heap x u→TrAt s.heap y v→Cmp x y→jcG A s u v (dLt x y))→LexAt A s xs ys us vs
 | [],ys,us,vs,hx,hy,_,_,_=>by
  have:=hy.length
  unfold TrAtL at hx
  subst hx
  exact .nilL this
 | x :: xs,[],us,vs,hx,hy,_,_,_=>by
  have:=hx.length
  unfold TrAtL at hy
  subst hy
  exact .nilR this
 | x :: xs,y :: ys,us,vs,hx,hy,hc,he,hl=>by
  unfold TrAtL at hx hy
  obtain ⟨u,ur,rfl,h1,h2⟩:=hx
  obtain ⟨v,vr,rfl,g1,g2⟩:=hy
  unfold CmpL at hc
  exact .cons h2.length g2.length (he x List.mem_cons_self y u v h1 g1) (fun e=>KG h2 g2 (hc.1 e) (fun z hz=>he z (List.mem_cons_of_mem _ hz)) fun z hz=>hl z (List.mem_cons_of_mem _ hz)) fun e=>hl x List.mem_cons_self y u v h1 g1 (hc.2 e)
theorem yj {ds:List D} {d:D} (h:d∈ds):d.depth≤D.depthL ds:=by
 obtain ⟨i,hi,rfl⟩:=List.mem_iff_getElem.mp h
 exact D.depthL_get (List.getElem?_eq_getElem hi)
theorem jeW:∀ (n:Nat) (A:Around) (d d':D) (u v:Value),d.depth≤n→A.units+n < cLine→TrAt s.heap d u→TrAt s.heap d' v→Cmp d d'→jcG A s u v (dLt d d'):=by
 intro n
 induction n with
 | zero=>
  intro A d d' u v hd hA hx hy hc
  cases d with
  | int i=>
   cases d' with
   | int j=>unfold TrAt at hx hy;obtain ⟨t,rfl⟩:=hx;obtain ⟨t',rfl⟩:=hy;unfold dLt;exact jdw A s i t j t'
   | str j=>unfold Cmp at hc;exact hc.elim
   | tup j=>unfold Cmp at hc;exact hc.elim
  | str i=>
   cases d' with
   | str j=>unfold TrAt at hx hy;obtain ⟨t,rfl⟩:=hx;obtain ⟨t',rfl⟩:=hy;unfold dLt;exact jdv A s i t j t'
   | int j=>unfold Cmp at hc;exact hc.elim
   | tup j=>unfold Cmp at hc;exact hc.elim
  | tup ds=>unfold D.depth at hd;omega
 | succ n ih=>
  intro A d d' u v hd hA hx hy hc
  cases d with
  | int i=>exact ih A (.int i) d' u v (by unfold D.depth;omega) (by omega) hx hy hc
  | str i=>exact ih A (.str i) d' u v (by unfold D.depth;omega) (by omega) hx hy hc
  | tup ds=>
   cases d' with
   | int j=>unfold Cmp at hc;exact hc.elim
   | str j=>unfold Cmp at hc;exact hc.elim
   | tup es=>
    unfold TrAt at hx hy
    unfold Cmp at hc
    unfold D.depth at hd
    obtain ⟨a,its,rfl,ta,hxs⟩:=hx
    obtain ⟨b,its2,rfl,tb,hys⟩:=hy
    have l1:ds.length=its.size:=by have:=hxs.length;simpa using this
    have l2:es.length=its2.size:=by have:=hys.length;simpa using this
    unfold dLt
    intro prog w E Q h
    have hL:LexAt A.in1 s ds es its.toList its2.toList:=KG hxs hys hc (fun x hx y u v h1 h2=>jbM n A.in1 x y u v (by have:=yj hx;omega) (by show A.units+1+n < cLine;omega) h1 h2) (fun x hx y u v h1 h2 h3=>ih A.in1 x y u v (by have:=yj hx;omega) (by show A.units+1+n < cLine;omega) h1 h2 h3)
    obtain ⟨⟨cls,dd,data,sl⟩,ho,hcl,m,hd1⟩:=ta
    obtain ⟨⟨cls2,dd2,data2,sl2⟩,ho2,hcl2,m2,hd2⟩:=tb
    simp only at hcl hd1 hcl2 hd2
    subst hcl hd1 hcl2 hd2
    exact richCompare_meets_room (op:=.Lt) ⟨_,ho,rfl⟩ ⟨_,ho2,rfl⟩ PySem.F.slot_tuple_lt PySem.F.entry_tuple_lt (PySem.F.args_tuple_lt_2 _ _) (Zz a b its its2 m m2 dd dd2 sl sl2 ds es l1 l2)
     ⟨ho,ho2,hL,show Value.bool (dLtL ds es)≠Value.notImplemented∧Q (.bool (dLtL ds es)) s from ⟨(fun x=>nomatch x),h⟩⟩ (by omega)
end
section
variable {prog:Program} {w:World} {A:Around} {E:Value→Shared→Prop} {s:Shared}
theorem jc3 {b:Bool} {Q:Bool→Shared→Prop} (h:Q b s):wpAny (model prog w) A (truthOfDropped (.bool b)) Q E s:=by
 unfold truthOfDropped
 show wpAny (model prog w) A (truthy (.bool b)) Q E s
 first | exact wpAny_pure h | exact wpAny_truthy_bool h | (unfold truthy;exact wpAny_pure h)
theorem jgT {u v:Value} {r:Bool} {Q:Bool→Shared→Prop} (hl:jcG A s u v r) (h:Q r s):wpAny (model prog w) A (oneLt' false u v) Q E s:=by
 rw [oneLt'_eq]
 simp only [Bool.false_eq_true,if_false]
 exact wpAny_bind (hl prog w _ _ (jc3 h))
theorem jcr {n m:Nat} {Q:Bool→Shared→Prop}:∀ {xs ys:List D} {us vs:List Value} (i:Nat),LexAt A s xs ys us vs→xs.length+m=ys.length+n→Q (dLtL xs ys) s→KatLex prog w A false (decide (n < m)) Q (us.zip vs) i s:=by
 intro xs ys us vs i h
 induction h generalizing i with
 | @nilL ys vs e=>
  intro hl q
  rw [List.zip_nil_left]
  refine kat_nil ?_
  cases ys with
  | nil=>
   simp only [List.length_nil] at hl
   unfold dLtL at q
   rw [decide_eq_false (by omega)];exact q
  | cons c u=>
   simp only [List.length_nil,List.length_cons] at hl
   unfold dLtL at q
   rw [decide_eq_true (by omega)];exact q
 | @nilR xs vs e=>
  intro hl q
  rw [List.zip_nil_right]
  refine kat_nil ?_
  cases xs with
  | nil=>
   simp only [List.length_nil] at hl
   unfold dLtL at q
   rw [decide_eq_false (by omega)];exact q
  | cons c u=>
   simp only [List.length_nil,List.length_cons] at hl
   unfold dLtL at q
   rw [decide_eq_false (by omega)];exact q
 | @cons x y xs ys u v us vs e1 e2 he hy hn ih=>
  intro hl q
  rw [List.zip_cons_cons]
  rw [zm] at q
  simp only [List.length_cons] at hl
  refine kat_cons (he prog w _ _ ?_)
  cases hE:dEq x y with
  | true=>
   rw [if_pos hE] at q
   exact kat_yes (ih hE (i+1) (by omega) q)
  | false=>
   rw [if_neg (by rw [hE];exact Bool.false_ne_true)] at q
   exact kat_no (jgT (hn hE) q)
structure Trees (L:List D) (n:Nat):Prop where
 cmp:∀ d∈L,∀ e∈L,Cmp d e
 dep:∀ d∈L,d.depth≤n
 tup:∀ d∈L,∃ ds,d=.tup ds
open Classical in
noncomputable def yd (h:Heap) (L:List D) (v:Value):Option D:=if x:∃ d,d∈L∧TrAt h d v then some (choose x) else none
theorem Kj {h:Heap} {L:List D} {v:Value} {d:D} (hd:d∈L) (ht:TrAt h d v):yd h L v=some d:=by
 unfold yd
 have x:∃ d,d∈L∧TrAt h d v:=⟨d,hd,ht⟩
 rw [dif_pos x]
 rw [jao (Classical.choose_spec x).2 ht]
theorem JO {h:Heap} {L:List D} {v:Value} {d:D} (e:yd h L v=some d):d∈L∧TrAt h d v:=by
 unfold yd at e
 split at e
 ·rename_i x
  injection e with e
  rw [← e]
  exact Classical.choose_spec x
 ·cases e
noncomputable def qF (h:Heap) (L:List D):PyProof.Rows.KeyKind where
 α:=D
 blt:=dLt
 irrefl:=J7
 trans:=zl
 negTrans:=jfU
 total:=Jl
 keyOf:=yd h L
 dflt:=.int 0
theorem jan {L:List D} {n:Nat} (T:Trees L n) (hA:A.units+n < cLine):Tm.LtAt prog w A E s (tuples' false) (qF s.heap L):=by
 intro st x y Q hk hx hy h
 obtain ⟨d,hd⟩:=hx
 obtain ⟨e,he⟩:=hy
 obtain ⟨d1,d2⟩:=JO hd
 obtain ⟨e1,e2⟩:=JO he
 have k1:Tm.kq (qF s.heap L) x=d:=by unfold Tm.kq;rw [hd];rfl
 have k2:Tm.kq (qF s.heap L) y=e:=by unfold Tm.kq;rw [he];rfl
 rw [k1,k2] at h
 have hc:=T.cmp d d1 e e1
 have hdp:=T.dep d d1
 obtain ⟨ds,rfl⟩:=T.tup d d1
 obtain ⟨es,rfl⟩:=T.tup e e1
 rw [lt'_eq]
 refine wpS_bind (wpS_get ?_)
 rw [hk]
 unfold TrAt at d2 e2
 obtain ⟨a,its,ea,ta,hxs⟩:=d2
 obtain ⟨b,its2,eb,tb,hys⟩:=e2
 have l1:ds.length=its.size:=by have:=hxs.length;simpa using this
 have l2:es.length=its2.size:=by have:=hys.length;simpa using this
 unfold Cmp at hc
 have hdp':D.depthL ds+1≤n:=by unfold D.depth at hdp;omega
 have hL:LexAt A s ds es its.toList its2.toList:=KG hxs hys hc (fun x hx y u v h1 h2=>jbM n A x y u v (by have:=yj hx;omega) hA h1 h2) (fun x hx y u v h1 h2 h3=>jeW n A x y u v (by have:=yj hx;omega) hA h1 h2 h3)
 obtain ⟨o,ho,hcl,m,hd1⟩:=ta
 obtain ⟨o2,ho2,hcl2,m2,hd2⟩:=tb
 rw [ea,eb]
 refine wpS_bind (wpS_lift (wpAny_attempt (kat_lt ho hd1 ho2 hd2 (jcr 0 hL (by omega) ⟨rfl,?_⟩))))
 have h:Q (some (dLt (D.tup ds) (D.tup es))) st:=h
 unfold dLt at h
 exact wpS_pure h
end
theorem Kk {h:Heap} {vs vs':List Value} (p:vs'.Perm vs):∀ {ds:List D},TrAtL h ds vs→∃ ms:List D,TrAtL h ms vs'∧ms.Perm ds:=by
 induction p with
 | nil=>intro ds x;exact ⟨ds,x,.refl _⟩
 | cons v _ ih=>
  intro ds x
  cases ds with
  | nil=>unfold TrAtL at x;cases x
  | cons d ds=>
   unfold TrAtL at x
   obtain ⟨v',r,e,h1,h2⟩:=x
   injection e with e1 e2
   subst e1 e2
   obtain ⟨ms,g1,g2⟩:=ih h2
   exact ⟨d :: ms,by unfold TrAtL;exact ⟨_,_,rfl,h1,g1⟩,g2.cons d⟩
 | swap a b l=>
  intro ds x
  cases ds with
  | nil=>unfold TrAtL at x;cases x
  | cons d ds=>
   unfold TrAtL at x
   obtain ⟨v',r,e,h1,h2⟩:=x
   injection e with e1 e2
   subst e1 e2
   cases ds with
   | nil=>unfold TrAtL at h2;cases h2
   | cons d2 ds=>
    unfold TrAtL at h2
    obtain ⟨v2,r2,e,g1,g2⟩:=h2
    injection e with e1 e2
    subst e1 e2
    refine ⟨d2 :: d :: ds,?_,.swap _ _ _⟩
    unfold TrAtL
    refine ⟨_,_,rfl,g1,?_⟩
    unfold TrAtL
    exact ⟨_,_,rfl,h1,g2⟩
 | trans p1 p2 ih1 ih2=>
  intro ds x
  obtain ⟨ms,g1,g2⟩:=ih2 x
  obtain ⟨ns,g3,g4⟩:=ih1 g1
  exact ⟨ns,g3,g4.trans g2⟩
theorem ja2 {h:Heap}:∀ {ds:List D} {vs:List Value} {v:Value},TrAtL h ds vs→v∈vs→∃ d∈ds,TrAt h d v
 | [],vs,v,x,hv=>by unfold TrAtL at x;subst x;cases hv
 | d :: ds,vs,v,x,hv=>by
  unfold TrAtL at x
  obtain ⟨u,r,rfl,h1,h2⟩:=x
  rcases List.mem_cons.mp hv with rfl | hv
  ·exact ⟨d,List.mem_cons_self,h1⟩
  ·obtain ⟨e,he,ht⟩:=ja2 h2 hv
   exact ⟨e,List.mem_cons_of_mem _ he,ht⟩
theorem ja3 {h:Heap}:∀ {ds:List D} {vs:List Value},TrAtL h ds vs→∀ (i:Nat) (d:D),ds[i]?=some d→∃ v,vs[i]?=some v∧TrAt h d v
 | [],vs,x,i,d,e=>by simp at e
 | c :: ds,vs,x,i,d,e=>by
  unfold TrAtL at x
  obtain ⟨u,r,rfl,h1,h2⟩:=x
  cases i with
  | zero=>simp only [List.getElem?_cons_zero,Option.some.injEq] at e;subst e;exact ⟨u,rfl,h1⟩
  | succ i=>exact ja3 h2 i d (by simpa using e)
theorem YT {h:Heap} {ds:List D} {vs:List Value} (I:TrAtL h ds vs) {xs:Array Keyed} (hp:xs.Perm (pairsOf vs)) (hs:SortedToK (qF h ds) xs (pairsOf vs).size) :
  ∃ ms,TrAtL h ms (xs.map (·.2)).toList∧ms.Perm ds∧ms.Pairwise (fun a b=>dLt b a=false):=by
 have hl:xs.toList.Perm (vs.zip vs):=by rw [← pairsOf_toList];exact Array.perm_iff_toList_perm.mp hp
 have hmem:∀ p,p∈xs.toList→p.1=p.2∧p.1∈vs:=fun p hp'=>mem_zip_self (hl.mem_iff.mp hp')
 have e:(xs.map (·.2)).toList.Perm vs:=by
  rw [Array.toList_map]
  have:=hl.map (·.2)
  rwa [List.map_snd_zip (Nat.le_refl _)] at this
 obtain ⟨ms,h1,h2⟩:=Kk e I
 refine ⟨ms,h1,h2,?_⟩
 have key:∀ i d,ms[i]?=some d→KK (qF h ds) xs i=d:=by
  intro i d hd
  obtain ⟨v,hv,ht⟩:=ja3 h1 i d hd
  rw [Array.toList_map,List.getElem?_map,Array.getElem?_toList] at hv
  unfold KK
  cases hx:xs[i]? with
  | none=>rw [hx] at hv;cases hv
  | some p=>
   rw [hx] at hv
   injection hv with hv
   have hm:p∈xs.toList:=by
    rw [← Array.getElem?_toList] at hx
    exact List.mem_of_getElem? hx
   have e1:p.1=v:=by rw [(hmem p hm).1];exact hv
   show (yd h ds p.1).getD _=d
   rw [e1,Kj (h2.mem_iff.mp (List.mem_of_getElem? hd)) ht]
   rfl
 have hlen:ms.length=(pairsOf vs).size:=by
  rw [h1.length,e.length_eq,pairsOf_size]
 rw [List.pairwise_iff_getElem]
 intro i j hi hj hij
 have:=hs i j (Nat.le_of_lt hij) (by omega)
 rw [key i _ (List.getElem?_eq_getElem hi),key j _ (List.getElem?_eq_getElem hj)] at this
 exact this
structure SortT (ds:List D) (n:Nat):Prop extends Trees ds n where
 fst:∀ d∈ds,∃ es r,d=.tup (.tup es :: r)
section
variable {prog:Program} {w:World} {A:Around} {E:Value→Shared→Prop} {s:Shared}
theorem Ki {h:Heap}:∀ {ds:List D} {vs:List Value},TrAtL h ds vs→(∀ d∈ds,∃ es r,d=.tup (.tup es :: r))→∃ fs,KatTups h vs fs∧fs.length=vs.length∧∀ v∈fs,∃ a o,v=Value.ref a∧h.get? a=some o∧o.cls=.type "tuple"
 | [],vs,x,_=>by unfold TrAtL at x;subst x;exact ⟨[],KatTups.nil,rfl,fun v hv=>absurd hv (by simp)⟩
 | d :: ds,vs,x,hd=>by
  unfold TrAtL at x
  obtain ⟨v,r,rfl,h1,h2⟩:=x
  obtain ⟨fs,g1,g2,g3⟩:=Ki h2 fun e he=>hd e (List.mem_cons_of_mem _ he)
  obtain ⟨es,rr,rfl⟩:=hd d List.mem_cons_self
  unfold TrAt at h1
  obtain ⟨a,its,rfl,⟨o,ho,hc,n,hdt⟩,hL⟩:=h1
  unfold TrAtL at hL
  obtain ⟨f,fr,ef,hf,_⟩:=hL
  unfold TrAt at hf
  obtain ⟨b,its2,rfl,⟨o2,ho2,hc2,_⟩,_⟩:=hf
  refine ⟨.ref b :: fs,KatTups.cons ho hc hdt ?_ g1,by simp [g2],fun v hv=>?_⟩
  ·rw [← Array.getElem?_toList,ef];rfl
  ·rcases List.mem_cons.mp hv with rfl | hv
   ·exact ⟨b,o2,rfl,ho2,hc2⟩
   ·exact g3 v hv
theorem jaG {ds:List D} {vs:List Value} {Q:SortKind→Shared→Prop} (hx:TrAtL s.heap ds vs) (hf:∀ d∈ds,∃ es r,d=.tup (.tup es :: r)) (hp:0 < vs.length) (q:Q (tuples' false) s):wpAny (model prog w) A (keyKind' vs.toArray) Q E s:=by
 obtain ⟨fs,g1,g2,g3⟩:=Ki hx hf
 refine kat_kind (T:=.type "tuple") g1 (by omega) (fun v hv=>?_) (by decide) (by simpa using q)
 obtain ⟨a,o,rfl,ho,hc⟩:=g3 v hv
 intro A' Q' E' s' k q'
 exact wpAny_typeOf (s:=s') ⟨o,k _ _ ho,hc⟩ q'
theorem jau {l:Addr} {vs:List Value} {ds:List D} {ep n:Nat} {P:Fin→Shared→Prop} (at_:s.heap.get? l=some (seqObj "list" vs.toArray ep)) (I:TrAtL s.heap ds vs) (S:SortT ds n) (hA:A.units+n < cLine) (most:vs.length≤1000) (two:2≤vs.length)
  (q:∀ (out:Array Value) (ms:List D),out.toList.Perm vs→TrAtL s.heap ms out.toList→ms.Perm ds→ms.Pairwise (fun a b=>dLt b a=false)→P (.done (.ret .none)) { s with heap:=sortedHeap s.heap l vs out }):wpAny (model prog w) A (Builtin.«list.sort» ⟨[.ref l],[]⟩) P E s:=by
 have lt:l < s.heap.objs.size:=Heap.lt_size at_
 obtain ⟨v,u,r,rfl⟩:∃ v u r,vs=v :: u :: r:=match vs,two with | v :: u :: r,_=>⟨v,u,r,rfl⟩
 have two':¬ (v :: u :: r).toArray.size < 2:=by show ¬ (v :: u :: r).length < 2;omega
 generalize hvs:v :: u :: r=vs at *
 rw [list_sort_plain]
 refine wpAny_bind (listItems_at at_ rfl (wpAny_bind (listUpdate_at at_ rfl ?_)))
 have bare:∃ e1,(s.heap.update l (Obj.mapSeq fun _=>#[])).get? l=some (seqObj "list" #[] e1):=⟨_,get?_update_seq at_ (fun _=>#[])⟩
 obtain ⟨e1,bare⟩:=bare
 refine wpAny_bind (seqEpoch_at bare rfl (wpAny_bind (wpAny_newTuple (wpAny_bind (wpAny_newList (wpAny_holding ?_))))))
 have still:(((s.heap.update l (Obj.mapSeq fun _=>#[])).push (seqObj "tuple" vs.toArray 0)).push (seqObj "list" #[] 0)).get? l=some (seqObj "list" #[] e1):=by
  have z1:(s.heap.update l (Obj.mapSeq fun _=>#[])).objs.size=s.heap.objs.size:=Heap.size_update ..
  rw [Heap.get?_push_ne,Heap.get?_push_ne]
  ·exact bare
  ·rw [z1];exact Nat.ne_of_lt lt
  ·rw [size_push',z1];exact Nat.ne_of_lt (Nat.lt_succ_of_lt lt)
 have kp:∀ a xs,s.heap.IsTuple a xs→(((s.heap.update l (Obj.mapSeq fun _=>#[])).push (seqObj "tuple" vs.toArray 0)).push (seqObj "list" #[] 0)).IsTuple a xs:=by
  rintro a xs ⟨o,ho,hc,m,hd⟩
  have nal:a≠l:=by
   rintro rfl
   rw [at_] at ho
   cases ho
   injection hc with hc
   exact absurd hc (by decide)
  refine ⟨o,Heap.get?_push_of_some _ (Heap.get?_push_of_some _ ?_),hc,m,hd⟩
  rw [Heap.get?_update_other _ _ (Ne.symm nal)]
  exact ho
 have I':=I.kept kp
 show wpAny (model prog w) A _ P E ({ s with heap:=((s.heap.update l (Obj.mapSeq fun _=>#[])).push (seqObj "tuple" vs.toArray 0)).push (seqObj "list" #[] 0) }:Shared)
 generalize hs':({ s with heap:=((s.heap.update l (Obj.mapSeq fun _=>#[])).push (seqObj "tuple" vs.toArray 0)).push (seqObj "list" #[] 0) }:Shared)=s'
 have I2:TrAtL s'.heap ds vs:=by rw [← hs'];exact I'
 dsimp only
 rw [if_neg two',if_neg two']
 refine wpAny_bind (jaG I2 S.fst (by omega) ?_)
 have keys:KeysOf (qF s'.heap ds) (pairsOf vs):=by
  intro p hp
  rw [pairsOf_toList] at hp
  obtain ⟨d,hd,ht⟩:=ja2 I2 (mem_zip_self hp).2
  exact ⟨d,Kj hd ht⟩
 have still':s'.heap.get? l=some (seqObj "list" #[] e1):=by rw [← hs'];exact still
 refine wpAny_bind (wpAny_mono (Tm.wpS_sortAll (st:=SortSt.mk' (tuples' false) (pairsOf vs) #[] 7 none) (jan S.toTrees hA) keys ⟨Array.Perm.refl _,rfl,rfl,rfl⟩ (by rw [pairsOf_size];omega) (Q:=fun _ sn=>(arrOf sn).Perm (pairsOf vs)∧failedOf sn=none∧SortedToK (qF s'.heap ds) (arrOf sn) (pairsOf vs).size) fun sn a b c=>⟨a,b,c⟩) (fun o sh J=>?_) fun _ _ e=>e)
 obtain ⟨⟨⟩,sn⟩:=o
 obtain ⟨rfl,perm,none_,up⟩:=J
 obtain ⟨ms,h1,h2,h3⟩:=YT I2 perm up
 have fits:((arrOf sn).map (·.2)).size≤sizeLine:=by
  rw [Array.size_map,perm.size_eq,pairsOf_size]
  exact Nat.le_trans most (by rw [sizeLine_eq];decide)
 dsimp only
 refine wpAny_bind (seqEpoch_at still' rfl (wpAny_bind (listUpdate_at still' rfl ?_ (hsz2:=Nat.le_succ_of_le fits))))
 rw [none_]
 simp only [bne_self_eq_false,Bool.false_eq_true,if_false]
 have e2:(((arrOf sn).map (·.2)).toList).Perm vs:=by
  have hl:(arrOf sn).toList.Perm (vs.zip vs):=by rw [← pairsOf_toList];exact Array.perm_iff_toList_perm.mp perm
  rw [Array.toList_map]
  have:=hl.map (·.2)
  rwa [List.map_snd_zip (Nat.le_refl _)] at this
 obtain ⟨ms',h1',h2'⟩:=Kk e2 I
 have em:ms'=ms:=trL_inj (h1'.kept kp) (by rw [← hs'] at h1;exact h1)
 rw [em] at h1'
 rw [← hs']
 exact wpAny_pure (q _ ms e2 h1' h2 h3)
end
section
variable {prog:Program} {w:World} {A:Around} {E:Value→Shared→Prop} {s:Shared}
theorem jdm {l:Addr} {vs:List Value} {ep:Nat} {P:Fin→Shared→Prop} (at_:s.heap.get? l=some (seqObj "list" vs.toArray ep)) (few:vs.length < 2)
  (q:P (.done (.ret .none)) { s with heap:=sortedHeap s.heap l vs vs.toArray }):wpAny (model prog w) A (Builtin.«list.sort» ⟨[.ref l],[]⟩) P E s:=by
 have lt:l < s.heap.objs.size:=Heap.lt_size at_
 have two':vs.toArray.size < 2:=by show vs.length < 2;omega
 rw [list_sort_plain]
 refine wpAny_bind (listItems_at at_ rfl (wpAny_bind (listUpdate_at at_ rfl ?_)))
 have bare:∃ e1,(s.heap.update l (Obj.mapSeq fun _=>#[])).get? l=some (seqObj "list" #[] e1):=⟨_,get?_update_seq at_ (fun _=>#[])⟩
 obtain ⟨e1,bare⟩:=bare
 refine wpAny_bind (seqEpoch_at bare rfl (wpAny_bind (wpAny_newTuple (wpAny_bind (wpAny_newList (wpAny_holding ?_))))))
 have still:(((s.heap.update l (Obj.mapSeq fun _=>#[])).push (seqObj "tuple" vs.toArray 0)).push (seqObj "list" #[] 0)).get? l=some (seqObj "list" #[] e1):=by
  have z1:(s.heap.update l (Obj.mapSeq fun _=>#[])).objs.size=s.heap.objs.size:=Heap.size_update ..
  rw [Heap.get?_push_ne,Heap.get?_push_ne]
  ·exact bare
  ·rw [z1];exact Nat.ne_of_lt lt
  ·rw [size_push',z1];exact Nat.ne_of_lt (Nat.lt_succ_of_lt lt)
 show wpAny (model prog w) A _ P E ({ s with heap:=((s.heap.update l (Obj.mapSeq fun _=>#[])).push (seqObj "tuple" vs.toArray 0)).push (seqObj "list" #[] 0) }:Shared)
 dsimp only
 rw [if_pos two',if_pos two']
 refine wpAny_bind (wpAny_pure (wpAny_bind (wpAny_pure ?_)))
 dsimp only
 have eA:Array.map (fun x=>x.2) (arrOf (SortSt.mk' general' (vs.toArray.zip vs.toArray) #[] 7 none))=vs.toArray:=by
  show Array.map (fun x=>x.2) (vs.toArray.zip vs.toArray)=vs.toArray
  apply Array.ext'
  rw [Array.toList_map,show (vs.toArray.zip vs.toArray)=pairsOf vs from rfl,pairsOf_toList,List.map_snd_zip (Nat.le_refl _)]
 rw [eA]
 refine wpAny_bind (seqEpoch_at still rfl (wpAny_bind (listUpdate_at still rfl ?_ (hsz2:=Nat.le_succ_of_le ?_))))
 ·simp only [bne_self_eq_false,Bool.false_eq_true,if_false]
  exact wpAny_pure q
 ·rw [sizeLine_eq]
  exact Nat.le_trans (Nat.le_of_lt two') (by decide)
theorem jgA {r:D→D→Prop}:∀ {ds:List D},ds.length < 2→ds.Pairwise r
 | [],_=>.nil
 | [_],_=>List.pairwise_singleton ..
 | _ :: _ :: _,h=>absurd h (by simp only [List.length_cons];omega)
theorem JP {l:Addr} {vs:List Value} {ds:List D} {ep n:Nat} {P:Fin→Shared→Prop} (at_:s.heap.get? l=some (seqObj "list" vs.toArray ep)) (I:TrAtL s.heap ds vs) (S:SortT ds n) (hA:A.units+n < cLine) (most:vs.length≤1000)
  (q:∀ (out:Array Value) (ms:List D),out.toList.Perm vs→TrAtL s.heap ms out.toList→ms.Perm ds→ms.Pairwise (fun a b=>dLt b a=false)→P (.done (.ret .none)) { s with heap:=sortedHeap s.heap l vs out }):wpAny (model prog w) A (Builtin.«list.sort» ⟨[.ref l],[]⟩) P E s:=by
 rcases Nat.lt_or_ge vs.length 2 with few | two
 ·refine jdm at_ few (q vs.toArray ds (.refl _) I (.refl _) ?_)
  have:ds.length < 2:=by rw [I.length];exact few
  exact jgA this
 ·exact jau at_ I S hA most two q
end
def orb (M:Nat):Nat→Nat→Nat
 | 0,a=>a
 | n+1,a=>orb M n ((a * 5+1) % M)
def jiz (M:Nat):Prop:=(∀ e,e < M→∃ k,k < M∧orb M k 0=e)∧orb M M 0=0
def seq (t:SetTable) (p:SetTable.Probe):Nat→SetTable.Probe
 | 0=>p
 | n+1=>t.advance (seq t p n)
structure TabIn (led:Bool) (t:SetTable):Prop where
 ok:TabOk led t
 full:jiz (t.mask+1)
 odd:t.mask % 2=1
 le:∀ j∈t.place.toList,j≤t.mask
 room:t.place.size≤t.mask
theorem getD_none {owner:Array (Option Nat)} {j:Nat} (h:owner.getD j (some 0)=none):owner[j]?=some none:=by
 by_cases hj:j < owner.size
 ·rw [Array.getElem?_eq_getElem hj]
  simp [Array.getD,hj] at h
  rw [h]
 ·simp [Array.getD,hj] at h
end L2
namespace PySem
end PySem
namespace L2
open PySem PySem.Spec PyProof.Rows PySem.W
def DTr (h:Heap) (d:D) (a:Addr):Prop:=TrAt h d (.ref a)∧d.depth≤8
theorem jeR {a:Addr} {h:Heap} {es:Array (Int×Value)} {ep:Nat} {t:SetTable} (ho:h.get? a=some { cls:=.type "set",dict:=none,data:=.set es ep t }):∀ o,h.get? a=some o→o.cls≠.type "tuple":=fun o e z=>by
 rw [ho] at e
 cases e
 injection z with z
 exact absurd z (by decide)
section
variable {prog:Program} {w:World} {A:Around} {E:Value→Shared→Prop} {s:Shared}
def ElD (h:Heap) (L:List D) (e:Int×Value):Prop:=∃ k b,e.2=.ref b∧DTr h k b∧k∈L
def jix (n mask:Nat):Prop:=(mask=7∧n≤4)∨(mask=31∧n≤18)∨(mask=127∧n≤76)∨(mask=511∧n≤306)∨(mask=2047∧n≤1228)
def ElsD (h:Heap) (L:List (D×Addr)) (es:Array (Int×Value)):Prop:=(es.toList.map (·.2)).Perm (L.map fun p=>Value.ref p.2)∧∀ p∈L,DTr h p.1 p.2
theorem ElsD.el {h:Heap} {L:List (D×Addr)} {es:Array (Int×Value)} (x:ElsD h L es):∀ e∈es.toList,ElD h (L.map (·.1)) e:=fun e he=>by
 have:=x.1.mem_iff.mp (List.mem_map_of_mem (f:=(·.2)) he)
 obtain ⟨p,hp,e2⟩:=List.mem_map.mp this
 exact ⟨p.1,p.2,e2.symm,x.2 p hp,List.mem_map_of_mem hp⟩
theorem ElsD.more {h:Heap} {L:List (D×Addr)} {es es1:Array (Int×Value)} {ks:D} {x:Addr} {hh:Int} {p:Nat} (y:ElsD h L es) (hk:DTr h ks x) (hes:es1.toList=es.toList.take p++(hh,Value.ref x) :: es.toList.drop p):ElsD h (L++[(ks,x)]) es1:=by
 refine ⟨?_,fun q hq=>?_⟩
 ·rw [hes,List.map_append,List.map_cons,List.map_append,List.map_cons,List.map_nil]
  refine List.perm_middle.trans (List.Perm.trans ?_ (List.perm_append_comm (l₁:=[Value.ref x])))
  refine List.Perm.cons _ ?_
  rw [← List.map_append,List.take_append_drop]
  exact y.1
 ·rcases List.mem_append.mp hq with hq | hq
  ·exact y.2 q hq
  ·rw [List.mem_singleton.mp hq];exact hk
def DSetAt (h:Heap) (a:Addr) (led:Bool) (L:List (D×Addr)):Prop:=∃ (es:Array (Int×Value)) (ep:Nat) (t:SetTable),h.get? a=some { cls:=.type "set",dict:=none,data:=.set es ep t }∧ElsD h L es∧es.size=L.length∧TabIn led t∧t.place.size=es.size∧jix es.size t.mask
end
section
variable {prog:Program} {w:World} {A:Around} {E:Value→Shared→Prop} {R:Result→Shared→Prop}
theorem DSetAt.not {h:Heap} {a:Addr} {led:Bool} {L:List (D×Addr)} (x:DSetAt h a led L):∀ o,h.get? a=some o→o.cls≠.type "tuple":=by
 obtain ⟨es,ep,t,e,_⟩:=x
 exact jeR e
end
end L2
namespace PySem
end PySem
namespace Tim
open PySem PyProof.Rows
abbrev GT:Type:=Option (Option Nat)×Nat×Nat
def jg1:Value→Option Int
 | .int n _=>some n
 | _=>none
@[reducible] def intKind:PyProof.Rows.KeyKind where
 α:=Int
 blt a b:=decide (a < b)
 irrefl a:=decide_eq_false (Int.lt_irrefl a)
 trans a b c h1 h2:=decide_eq_true (Int.lt_trans (of_decide_eq_true h1) (of_decide_eq_true h2))
 negTrans a b c h:=by
  have:=of_decide_eq_true h
  by_cases x:a < b
  ·exact .inl (decide_eq_true x)
  ·exact .inr (decide_eq_true (by omega))
 total a b h1 h2:=by
  have:=of_decide_eq_false h1
  have:=of_decide_eq_false h2
  omega
 keyOf:=jg1
 dflt:=0
end Tim
namespace L2
open PySem PySem.Spec PyProof.Rows PySem.W
theorem Jd:1000≤(sizeLine:Nat):=by rw [sizeLine_eq];decide
section
variable {X:Cx} {pins:List (Addr×Obj)} {σ:St} {H:Hp} {s:Shared}
mutual
theorem J4 (I:Inv X pins σ H s):∀ {d:D} {x:V} {u:Value},Held H d x→RelV x u→TrAt s.heap d u
 | .int i,x,u,h,r=>by unfold Held at h;subst h;obtain ⟨t,rfl⟩:=r;unfold TrAt;exact ⟨t,rfl⟩
 | .str i,x,u,h,r=>by unfold Held at h;subst h;obtain ⟨t,rfl⟩:=r;unfold TrAt;exact ⟨t,rfl⟩
 | .tup ds,x,u,h,r=>by
  unfold Held at h
  obtain ⟨a,xs,rfl,ha,hxs⟩:=h
  cases r
  obtain ⟨its,rva,ta,_⟩:=I.tuple (SqT.of ha)
  unfold TrAt
  exact ⟨a,its.toArray,rfl,ta,by simpa using heldL_tr I hxs rva⟩
theorem heldL_tr (I:Inv X pins σ H s):∀ {ds:List D} {xs:List V} {us:List Value},HeldL H ds xs→Vals xs us→TrAtL s.heap ds us
 | [],xs,us,h,r=>by unfold HeldL at h;subst h;cases r;unfold TrAtL;rfl
 | d :: ds,xs,us,h,r=>by
  unfold HeldL at h
  obtain ⟨v,q,rfl,h1,h2⟩:=h
  cases r with
  | cons h r=>unfold TrAtL;exact ⟨_,_,rfl,J4 I h1 h,heldL_tr I h2 r⟩
end
end
theorem Yr {α β:Type} {f:α→β} {m l:List β} (p:m.Perm l):∀ {ps:List α},ps.map f=m→∃ qs:List α,qs.Perm ps∧qs.map f=l:=by
 induction p with
 | nil=>intro ps e;exact ⟨ps,.refl _,e⟩
 | cons x _ ih=>
  intro ps e
  cases ps with
  | nil=>cases e
  | cons y ps=>
   rw [List.map_cons] at e
   injection e with e1 e2
   obtain ⟨qs,h1,h2⟩:=ih e2
   exact ⟨y :: qs,h1.cons y,by rw [List.map_cons,h2,e1]⟩
 | swap x y l=>
  intro ps e
  match ps,e with
  | a :: b :: ps,e=>
   simp only [List.map_cons,List.cons.injEq] at e
   obtain ⟨e1,e2,e3⟩:=e
   exact ⟨b :: a :: ps,.swap _ _ _,by simp only [List.map_cons,e1,e2,e3]⟩
 | trans _ _ ih1 ih2=>
  intro ps e
  obtain ⟨qs,h1,h2⟩:=ih1 e
  obtain ⟨rs,h3,h4⟩:=ih2 h2
  exact ⟨rs,h3.trans h1,h4⟩
theorem Kl {h:Heap}:∀ {qs:List (D×Addr)},(∀ q∈qs,TrAt h q.1 (.ref q.2))→TrAtL h (qs.map (·.1)) (qs.map fun p=>Value.ref p.2)
 | [],_=>by unfold TrAtL;rfl
 | q :: qs,hq=>by
  rw [List.map_cons,List.map_cons]
  unfold TrAtL
  exact ⟨_,_,rfl,hq q List.mem_cons_self,Kl fun r hr=>hq r (List.mem_cons_of_mem _ hr)⟩
theorem Jt:∀ {as:List Addr} {us:List Value},Vals (as.map V.ref) us→us=as.map Value.ref
 | [],us,r=>by cases r;rfl
 | a :: as,us,r=>by
  cases r with
  | cons h r=>cases h;rw [Jt r];rfl
theorem JC:∀ (as:List Addr),Vals (as.map V.ref) (as.map Value.ref)
 | []=>.nil
 | a :: as=>.cons rfl (JC as)
theorem SortT.perm {ds es:List D} {n:Nat} (x:SortT ds n) (p:es.Perm ds):SortT es n:=⟨⟨fun d hd e he=>x.cmp d (p.mem_iff.mp hd) e (p.mem_iff.mp he),fun d hd=>x.dep d (p.mem_iff.mp hd),fun d hd=>x.tup d (p.mem_iff.mp hd)⟩,fun d hd=>x.fst d (p.mem_iff.mp hd)⟩
mutual
def D.py:D→PyData
 | .int i=>.int i
 | .str x=>.str x
 | .tup ds=>.tuple (D.pyL ds)
def D.pyL:List D→List PyData
 | []=>[]
 | d :: ds=>D.py d :: D.pyL ds
end
mutual
def OkD:D→Prop
 | .int i=>i.natAbs < 10 ^ 39
 | .str x=>∀ c∈x.cps.toList,(97≤c∧c≤122)∨c=46
 | .tup ds=>OkDL ds
def OkDL:List D→Prop
 | []=>True
 | d :: ds=>OkD d∧OkDL ds
end
def sgn (d:D):List Nat:=d.py.shown.cps.toList
def jn:List (List Nat)→List Nat
 | []=>[]
 | [t]=>t
 | t :: u :: r=>t++44 :: 32 :: jn (u :: r)
theorem zp (x y:Str):(x++y).cps.toList=x.cps.toList++y.cps.toList:=by
 show (x.cps++y.cps).toList=_
 simp
theorem jbF:∀ ts:List Str,(Str.join ", " ts).cps.toList=jn (ts.map fun t=>t.cps.toList)
 | []=>rfl
 | [t]=>by
  show (Str.join ", " [t]).cps.toList=t.cps.toList
  first | rfl | simp [Str.join]
 | t :: u :: r=>by
  rw [join_cons_cons,zp,zp,signs_sep,jbF (u :: r)]
  simp only [List.map_cons,jn,List.append_assoc,List.cons_append,List.nil_append]
theorem yR (i:Int):sgn (.int i)=(toString i).toList.map Char.toNat:=by
 show ((toString i:String):Str).cps.toList=_
 rw [signs_ofString]
theorem jbu:∀ ds:List D,(PyData.shownAll (D.pyL ds)).length=ds.length
 | []=>rfl
 | d :: ds=>by
  show (_ :: PyData.shownAll (D.pyL ds)).length=_
  rw [List.length_cons,jbu ds];rfl
theorem jbt:∀ ds:List D,(PyData.shownAll (D.pyL ds)).map (fun t=>t.cps.toList)=ds.map sgn
 | []=>rfl
 | d :: ds=>by
  show (_ :: PyData.shownAll (D.pyL ds)).map _=_
  rw [List.map_cons,jbt ds];rfl
def jeo (n:Nat):List Nat:=if n=1 then [44,41] else [41]
theorem qK (ds:List D):sgn (.tup ds)=40 :: (jn (ds.map sgn)++jeo ds.length):=by
 show (tupleText (PyData.shownAll (D.pyL ds))).cps.toList=_
 unfold tupleText
 rw [zp,zp,signs_lparen,jbF,jbt,jbu]
 unfold jeo
 by_cases h:ds.length=1
 ·rw [if_pos h,if_pos (by rw [h];rfl)]
  rfl
 ·rw [if_neg h,if_neg (by simpa using h)]
  rfl
theorem JW {c:Nat} (h1:(97≤c∧c≤122)∨c=46):Builtin.Str.reprChar 39 c=[c]:=by
 unfold Builtin.Str.reprChar
 have hp:Unicode.isPrintable c=true:=by
  have:∀ c,c < 128→(97≤c∧c≤122)∨c=46→Unicode.isPrintable c=true:=by decide +kernel
  exact this c (by omega) h1
 simp only [beq_iff_eq,Bool.or_eq_true]
 rw [if_neg (by omega),if_neg (by omega),if_neg (by omega),if_neg (by omega),if_pos hp]
theorem yu:∀ (l:List Nat) (acc:Array Nat),(∀ c∈l,(97≤c∧c≤122)∨c=46)→(l.foldl (fun out c=>out++(Builtin.Str.reprChar 39 c).toArray) acc).toList=acc.toList++l
 | [],acc,_=>by simp
 | c :: l,acc,h=>by
  rw [List.foldl_cons,JW (h c List.mem_cons_self),yu l _ fun d hd=>h d (List.mem_cons_of_mem _ hd)]
  simp
theorem qL {x:Str} (h:∀ c∈x.cps.toList,(97≤c∧c≤122)∨c=46):sgn (.str x)=39 :: (x.cps.toList++[39]):=by
 show (reprText x).cps.toList=_
 have hq:reprQuote x=39:=by
  unfold reprQuote
  have:x.cps.contains 39=false:=by
   rw [Array.contains_eq_mem,decide_eq_false_iff_not]
   intro hm
   have:=h 39 (Array.mem_toList_iff.mpr hm)
   omega
  rw [this];rfl
 unfold reprText
 rw [hq]
 show ((x.cps.foldl (fun out c=>out++(Builtin.Str.reprChar 39 c).toArray) #[39]).push 39).toList=_
 rw [Array.toList_push,← Array.foldl_toList,yu _ _ h]
 rfl
theorem Km {P:Nat→Prop}:∀ {a b p q:List Nat},(∀ c∈a,P c)→(∀ c∈b,P c)→(∀ c r,p=c :: r→¬ P c)→(∀ c r,q=c :: r→¬ P c)→a++p=b++q→a=b∧p=q
 | [],[],p,q,_,_,_,_,e=>⟨rfl,e⟩
 | [],c :: b,p,q,_,hb,hp,_,e=>absurd (hb c List.mem_cons_self) (hp c (b++q) e)
 | c :: a,[],p,q,ha,_,_,hq,e=>absurd (ha c List.mem_cons_self) (hq c (a++p) e.symm)
 | c :: a,d :: b,p,q,ha,hb,hp,hq,e=>by
  rw [List.cons_append,List.cons_append] at e
  injection e with e1 e2
  obtain ⟨h1,h2⟩:=Km (fun x hx=>ha x (List.mem_cons_of_mem _ hx)) (fun x hx=>hb x (List.mem_cons_of_mem _ hx)) hp hq e2
  exact ⟨by rw [e1,h1],h2⟩
def jf3 (p:List Nat):Prop:=∀ c r,p=c :: r→c=41∨c=44
def Zp (c:Nat):Prop:=c=45∨(48≤c∧c≤57)
theorem qj (i:Int):∀ c∈sgn (.int i),Zp c:=by
 intro c hc
 have:=fun h=>int_text_free' c h i (by rw [signs_ofString,← yR];exact hc)
 unfold Zp
 by_cases h1:c=45
 ·exact .inl h1
 ·by_cases h2:48≤c∧c≤57
  ·exact .inr h2
  ·exact absurd ⟨h1,by omega⟩ this
theorem y7 {m n:Nat} (h:(Nat.repr m).toList=(Nat.repr n).toList):m=n:=by
 rw [Nat.toList_repr,Nat.toList_repr] at h
 rw [← Nat.ofDigitChars_ten_toDigits (n:=m),h,Nat.ofDigitChars_ten_toDigits]
theorem KM (i:Int):∃ c r,sgn (.int i)=c :: r:=by
 rw [yR]
 cases i with
 | ofNat m=>
  show ∃ c r,(Nat.repr m).toList.map Char.toNat=c :: r
  rw [Nat.toList_repr]
  cases h:Nat.toDigits 10 m with
  | nil=>have:=Nat.ofDigitChars_ten_toDigits (n:=m);exact absurd h (by simp)
  | cons c r=>exact ⟨_,_,rfl⟩
 | negSucc m=>
  show ∃ c r,("-"++Nat.repr (m+1):String).toList.map Char.toNat=c :: r
  rw [String.toList_append]
  exact ⟨_,_,rfl⟩
theorem Ju {i j:Int} (h:sgn (.int i)=sgn (.int j)):i=j:=by
 rw [yR,yR] at h
 have h:(toString i).toList=(toString j).toList:=by
  have:=congrArg (List.map Char.ofNat) h
  simpa [List.map_map,Function.comp_def] using this
 have neg:∀ m n:Nat,(Nat.repr m).toList≠("-"++Nat.repr (n+1):String).toList:=by
  intro m n e
  rw [String.toList_append,Nat.toList_repr] at e
  have hm:'-'∈Nat.toDigits 10 m:=by rw [e];exact List.mem_append_left _ (by decide)
  exact absurd (Nat.isDigit_of_mem_toDigits (by decide) (by decide) hm) (by decide)
 cases i with
 | ofNat m=>
  cases j with
  | ofNat n=>exact congrArg _ (y7 h)
  | negSucc n=>exact absurd h (neg m n)
 | negSucc m=>
  cases j with
  | ofNat n=>exact absurd h.symm (neg n m)
  | negSucc n=>
   have h:("-"++Nat.repr (m+1):String).toList=("-"++Nat.repr (n+1):String).toList:=h
   rw [String.toList_append,String.toList_append] at h
   have:=y7 (List.append_cancel_left h)
   have:m=n:=by omega
   rw [this]
theorem ZM (d:D) (h:OkD d):∃ c r,sgn d=c :: r∧c≠41:=by
 cases d with
 | int i=>
  obtain ⟨c,r,e⟩:=KM i
  refine ⟨c,r,e,?_⟩
  have:=qj i c (by rw [e];exact List.mem_cons_self)
  unfold Zp at this
  omega
 | str x=>unfold OkD at h;exact ⟨39,_,qL h,by decide⟩
 | tup ds=>exact ⟨40,_,qK ds,by decide⟩
theorem Jf (t:List Nat) (r:List (List Nat)):jn (t :: r)=t++(if r=[] then [] else 44 :: 32 :: jn r):=by
 cases r with
 | nil=>simp [jn]
 | cons u r=>simp [jn]
def jeG (t:List Nat):Prop:=∃ r,t=41 :: r∨t=44 :: 41 :: r
theorem Yz {p:List Nat} (h:jf3 p):∀ c r,p=c :: r→¬ Zp c:=fun c r e z=>by
 have:=h c r e
 unfold Zp at z
 omega
theorem Yl {t:List Nat} {r:List (List Nat)} (h:jeG t):jf3 ((if r=[] then [] else 44 :: 32 :: jn r)++t):=by
 intro c q e
 split at e
 ·obtain ⟨z,h | h⟩:=h
  ·rw [h] at e;injection e with e;exact .inl e.symm
  ·rw [h] at e;injection e with e;exact .inr e.symm
 ·injection e with e;exact .inr e.symm
mutual
theorem jdn:∀ (d e:D) (p q:List Nat),OkD d→OkD e→jf3 p→jf3 q→sgn d++p=sgn e++q→d=e∧p=q
 | .int i,.int j,p,q,_,_,hp,hq,h=>by
  obtain ⟨h1,h2⟩:=Km (qj i) (qj j) (Yz hp) (Yz hq) h
  exact ⟨by rw [Ju h1],h2⟩
 | .int i,.str y,p,q,_,hy,hp,hq,h=>by
  unfold OkD at hy
  obtain ⟨c,r,e⟩:=KM i
  have hc:=qj i c (by rw [e];exact List.mem_cons_self)
  rw [e,qL hy,List.cons_append,List.cons_append] at h
  injection h with h
  unfold Zp at hc;omega
 | .int i,.tup es,p,q,_,hy,hp,hq,h=>by
  obtain ⟨c,r,e⟩:=KM i
  have hc:=qj i c (by rw [e];exact List.mem_cons_self)
  rw [e,qK,List.cons_append,List.cons_append] at h
  injection h with h
  unfold Zp at hc;omega
 | .str x,.int j,p,q,hx,_,hp,hq,h=>by
  unfold OkD at hx
  obtain ⟨c,r,e⟩:=KM j
  have hc:=qj j c (by rw [e];exact List.mem_cons_self)
  rw [e,qL hx,List.cons_append,List.cons_append] at h
  injection h with h
  unfold Zp at hc;omega
 | .str x,.str y,p,q,hx,hy,hp,hq,h=>by
  unfold OkD at hx hy
  rw [qL hx,qL hy,List.cons_append,List.cons_append] at h
  injection h with _ h
  rw [List.append_assoc,List.append_assoc] at h
  obtain ⟨h1,h2⟩:=Km (P:=fun c=>(97≤c∧c≤122)∨c=46) hx hy (fun c r e=>by injection e with e;omega) (fun c r e=>by injection e with e;omega) h
  injection h2 with _ h2
  exact ⟨by rw [Str.ext' (Array.toList_inj.mp h1)],h2⟩
 | .str x,.tup es,p,q,hx,_,hp,hq,h=>by
  unfold OkD at hx
  rw [qL hx,qK,List.cons_append,List.cons_append] at h
  injection h with h
  omega
 | .tup ds,.int j,p,q,_,_,hp,hq,h=>by
  obtain ⟨c,r,e⟩:=KM j
  have hc:=qj j c (by rw [e];exact List.mem_cons_self)
  rw [e,qK,List.cons_append,List.cons_append] at h
  injection h with h
  unfold Zp at hc;omega
 | .tup ds,.str y,p,q,_,hy,hp,hq,h=>by
  unfold OkD at hy
  rw [qL hy,qK,List.cons_append,List.cons_append] at h
  injection h with h
  omega
 | .tup ds,.tup es,p,q,hx,hy,hp,hq,h=>by
  unfold OkD at hx hy
  rw [qK,qK,List.cons_append,List.cons_append] at h
  injection h with _ h
  rw [List.append_assoc,List.append_assoc] at h
  have et:∀ n p,jeG (jeo n++p):=fun n p=>by
   unfold jeo jeG
   split
   ·exact ⟨p,.inr rfl⟩
   ·exact ⟨p,.inl rfl⟩
  cases ds with
  | nil=>
   cases es with
   | nil=>exact ⟨rfl,List.append_cancel_left h⟩
   | cons e es=>
    unfold OkDL at hy
    obtain ⟨c,r,e1,e2⟩:=ZM e hy.1
    rw [List.map_cons,Jf,e1] at h
    injection h with h
    exact absurd h.symm e2
  | cons d ds=>
   cases es with
   | nil=>
    unfold OkDL at hx
    obtain ⟨c,r,e1,e2⟩:=ZM d hx.1
    rw [List.map_cons,Jf,e1] at h
    injection h with h
    exact absurd h e2
   | cons e es=>
    obtain ⟨h1,h2⟩:=shL_inj (d :: ds) (e :: es) _ _ hx hy (by simp) (by simp) (et _ _) (et _ _) h
    rw [h1] at h2
    exact ⟨by rw [h1],List.append_cancel_left h2⟩
theorem shL_inj:∀ (ds es:List D) (t u:List Nat),OkDL ds→OkDL es→ds≠[]→es≠[]→jeG t→jeG u→jn (ds.map sgn)++t=jn (es.map sgn)++u→ds=es∧t=u
 | [],_,_,_,_,_,h,_,_,_,_=>absurd rfl h
 | _ :: _,[],_,_,_,_,_,h,_,_,_=>absurd rfl h
 | d :: ds,e :: es,t,u,hx,hy,_,_,ht,hu,h=>by
  unfold OkDL at hx hy
  rw [List.map_cons,List.map_cons,Jf,Jf,List.append_assoc,List.append_assoc] at h
  obtain ⟨h1,h2⟩:=jdn d e _ _ hx.1 hy.1 (Yl ht) (Yl hu) h
  cases ds with
  | nil=>
   cases es with
   | nil=>exact ⟨by rw [h1],h2⟩
   | cons e2 es=>
    simp only [List.map_nil,List.map_cons,if_true,List.nil_append,reduceCtorEq,if_false] at h2
    obtain ⟨r,z | z⟩:=ht
    ·rw [z] at h2;simp at h2
    ·rw [z] at h2;simp at h2
  | cons d2 ds=>
   cases es with
   | nil=>
    simp only [List.map_nil,List.map_cons,if_true,List.nil_append,reduceCtorEq,if_false] at h2
    obtain ⟨r,z | z⟩:=hu
    ·rw [z] at h2;simp at h2
    ·rw [z] at h2;simp at h2
   | cons e2 es=>
    have h2':44 :: 32 :: (jn ((d2 :: ds).map sgn)++t)=44 :: 32 :: (jn ((e2 :: es).map sgn)++u):=by
     simpa only [List.map_cons,reduceCtorEq,if_false,List.cons_append] using h2
    injection h2' with _ h3
    injection h3 with _ h3
    obtain ⟨h4,h5⟩:=shL_inj (d2 :: ds) (e2 :: es) t u hx.2 hy.2 (by simp) (by simp) ht hu h3
    exact ⟨by rw [h1,h4],h5⟩
end
theorem JB {d e:D} (hd:OkD d) (he:OkD e) (h:d.py.shown=e.py.shown):d=e:=
 (jdn d e [] [] hd he (fun c r z=>by cases z) (fun c r z=>by cases z) (by unfold sgn;rw [h])).1
mutual
theorem ZA {h:Heap}:∀ {d:D} {v:Value},TrAt h d v→∃ as,Reads h v d.py as
 | .int i,v,x=>by unfold TrAt at x;obtain ⟨t,rfl⟩:=x;exact ⟨_,.int i t⟩
 | .str i,v,x=>by unfold TrAt at x;obtain ⟨t,rfl⟩:=x;exact ⟨_,.str i t⟩
 | .tup ds,v,x=>by
  unfold TrAt at x
  obtain ⟨a,its,rfl,⟨o,h1,h2,n,h3⟩,hL⟩:=x
  obtain ⟨as,r⟩:=trL_reads hL
  exact ⟨as,.tuple h1 h2 h3 r⟩
theorem trL_reads {h:Heap}:∀ {ds:List D} {vs:List Value},TrAtL h ds vs→∃ as,ReadsAll h vs (D.pyL ds) as
 | [],vs,x=>by unfold TrAtL at x;subst x;exact ⟨_,.nil⟩
 | d :: ds,vs,x=>by
  unfold TrAtL at x
  obtain ⟨v,r,rfl,h1,h2⟩:=x
  obtain ⟨as,a1⟩:=ZA h1
  obtain ⟨bs,a2⟩:=trL_reads h2
  exact ⟨_,.cons a1 a2⟩
end
mutual
theorem JQ:∀ (d:D),OkD d→d.py.showable=true
 | .int i,h=>by
  unfold OkD at h
  show decide (i.natAbs.log2 < 1920)=true
  refine decide_eq_true ?_
  rcases Nat.eq_zero_or_pos i.natAbs with z | z
  ·rw [z];decide
  ·exact (Nat.log2_lt (by omega)).mpr (Nat.lt_trans h (by decide))
 | .str x,h=>rfl
 | .tup ds,h=>by unfold OkD at h;exact pyL_showable ds h
theorem pyL_showable:∀ (ds:List D),OkDL ds→PyData.showableAll (D.pyL ds)=true
 | [],_=>rfl
 | d :: ds,h=>by
  unfold OkDL at h
  show (d.py.showable && PyData.showableAll (D.pyL ds))=true
  rw [JQ d h.1,pyL_showable ds h.2];rfl
end
mutual
theorem Yq:∀ (d:D),d.py.hasDict=false
 | .int i=>rfl
 | .str x=>rfl
 | .tup ds=>pyL_noDict ds
theorem pyL_noDict:∀ (ds:List D),PyData.hasDictAll (D.pyL ds)=false
 | []=>rfl
 | d :: ds=>by
  show (d.py.hasDict || PyData.hasDictAll (D.pyL ds))=false
  rw [Yq d,pyL_noDict ds];rfl
end
mutual
theorem ZO:∀ (d:D),d.py.depth=d.depth
 | .int i=>rfl
 | .str x=>rfl
 | .tup ds=>by
  show PyData.depthAll (D.pyL ds)+1=_
  rw [pyL_depth ds]
  exact (D.depth.eq_3 ds).symm
theorem pyL_depth:∀ (ds:List D),PyData.depthAll (D.pyL ds)=D.depthL ds
 | []=>rfl
 | d :: ds=>by
  show max d.py.depth (PyData.depthAll (D.pyL ds))=_
  rw [ZO d,pyL_depth ds]
  exact (D.depthL.eq_2 d ds).symm
end
mutual
def D.big:D→Nat
 | .int _=>40
 | .str x=>x.length+2
 | .tup ds=>D.bigL ds+3
def D.bigL:List D→Nat
 | []=>0
 | d :: ds=>D.big d+2+D.bigL ds
end
mutual
theorem jbl:∀ (d:D),OkD d→(sgn d).length≤d.big
 | .int i,h=>by
  unfold OkD at h
  have:=int_text_length_le10 (k:=39) (by decide) h
  rw [yR,List.length_map,String.length_toList]
  unfold D.big
  omega
 | .str x,h=>by
  unfold OkD at h
  rw [qL h]
  unfold D.big
  rw [List.length_cons,List.length_append,Array.length_toList]
  show x.cps.size+1+1≤x.cps.size+2
  omega
 | .tup ds,h=>by
  unfold OkD at h
  rw [qK]
  unfold D.big jeo
  have:=sgnL_big ds h
  rw [List.length_cons,List.length_append]
  split <;> simp only [List.length_cons,List.length_nil] <;> omega
theorem sgnL_big:∀ (ds:List D),OkDL ds→(jn (ds.map sgn)).length≤D.bigL ds
 | [],_=>Nat.zero_le _
 | d :: ds,h=>by
  unfold OkDL at h
  have h1:=jbl d h.1
  have h2:=sgnL_big ds h.2
  rw [List.map_cons,Jf]
  unfold D.bigL
  rw [List.length_append]
  split
  ·rw [List.length_nil];omega
  ·rw [List.length_cons,List.length_cons];omega
end
theorem jav {d:D} (h:OkD d) (hb:d.big≤100000):d.py.shown.length≤sizeLine:=by
 have:=jbl d h
 unfold sgn at this
 rw [Array.length_toList] at this
 rw [sizeLine_eq]
 show d.py.shown.cps.size≤_
 omega
theorem jcD {X:Cx} (hg:X.A.guards=some []) {n:Nat} (hu:X.A.units+2+n < cLine):qt X (.builtin "repr") (fun xs H Q=>∃ (a:Addr) (d:D),xs=[.ref a]∧Held H d (.ref a)∧d.depth≤n∧OkD d∧d.big≤100000∧Q (.str d.py.shown) H):=by
 intro pins s σ H xs us Q I r h
 obtain ⟨a,d,rfl,hh,hd,hok,hb,q⟩:=h
 obtain ⟨u,rfl,rx⟩:=zz r
 cases rx
 obtain ⟨as,rd⟩:=ZA (J4 I hh rfl)
 refine repr_of_reads' rd (JQ d hok) (PyData.noDict_hsm (Yq d)) hg (by rw [ZO];omega) (fun _ _ e=>e) (fun h' u tk hk=>?_) (jav hok hb)
 exact ⟨.str d.py.shown,H,I.kept hk,⟨u,rfl⟩,q⟩
theorem jh6 {t1 t2 t3 u:TS} {D:Ends} {σ:St} {H:Hp} (h:let r3:=u;let r2:=jF t3 r3;let r1:=jF t2 r2;jF t1 r1 D σ H):(jF t1 (jF t2 (jF t3 u))) D σ H:=h
theorem jh5 {t1 t2 t3 t4 u:TS} {D:Ends} {σ:St} {H:Hp} (h:let r4:=u;let r3:=jF t4 r4;let r2:=jF t3 r3;let r1:=jF t2 r2;jF t1 r1 D σ H):(jF t1 (jF t2 (jF t3 (jF t4 u)))) D σ H:=h
theorem jh4 {t1 t2 t3 t4 t5 u:TS} {D:Ends} {σ:St} {H:Hp} (h:let r5:=u;let r4:=jF t5 r5;let r3:=jF t4 r4;let r2:=jF t3 r3;let r1:=jF t2 r2;jF t1 r1 D σ H):(jF t1 (jF t2 (jF t3 (jF t4 (jF t5 u))))) D σ H:=h
theorem jej {t1 t2 t3 t4 t5 t6 u:TS} {D:Ends} {σ:St} {H:Hp} (h:let r6:=u;let r5:=jF t6 r6;let r4:=jF t5 r5;let r3:=jF t4 r4;let r2:=jF t3 r3;let r1:=jF t2 r2;jF t1 r1 D σ H):(jF t1 (jF t2 (jF t3 (jF t4 (jF t5 (jF t6 u)))))) D σ H:=h
theorem jei {t1 t2 t3 t4 t5 t6 t7 t8 u:TS} {D:Ends} {σ:St} {H:Hp} (h:let r8:=u;let r7:=jF t8 r8;let r6:=jF t7 r7;let r5:=jF t6 r6;let r4:=jF t5 r5;let r3:=jF t4 r4;let r2:=jF t3 r3;let r1:=jF t2 r2;jF t1 r1 D σ H):(jF t1 (jF t2 (jF t3 (jF t4 (jF t5 (jF t6 (jF t7 (jF t8 u)))))))) D σ H:=h
theorem jh3 {t1 t2 t3 t4 t5 t6 t7 t8 t9 u:TS} {D:Ends} {σ:St} {H:Hp} (h:let r9:=u;let r8:=jF t9 r9;let r7:=jF t8 r8;let r6:=jF t7 r7;let r5:=jF t6 r6;let r4:=jF t5 r5;let r3:=jF t4 r4;let r2:=jF t3 r3;let r1:=jF t2 r2;jF t1 r1 D σ H):(jF t1 (jF t2 (jF t3 (jF t4 (jF t5 (jF t6 (jF t7 (jF t8 (jF t9 u))))))))) D σ H:=h
theorem jhb {t1 t2 t3 t4 t5 t6 t7 t8 t9 t10 t11 t12 t13 u:TS} {D:Ends} {σ:St} {H:Hp} (h:let r13:=u;let r12:=jF t13 r13;let r11:=jF t12 r12;let r10:=jF t11 r11;let r9:=jF t10 r10;let r8:=jF t9 r9;let r7:=jF t8 r8;let r6:=jF t7 r7;let r5:=jF t6 r6;let r4:=jF t5 r5;let r3:=jF t4 r4;let r2:=jF t3 r3;let r1:=jF t2 r2;jF t1 r1 D σ H):(jF t1 (jF t2 (jF t3 (jF t4 (jF t5 (jF t6 (jF t7 (jF t8 (jF t9 (jF t10 (jF t11 (jF t12 (jF t13 u))))))))))))) D σ H:=h
end L2
namespace LW
open PySem L2
theorem q5 {X:Cx} {pos:Pos}:QS X (.Return none pos) jf6:=⟨je3⟩
theorem ja0 {X:Cx} {pos:Pos} {i j:Nat} {x y:Str} {a b:Expr} {ta:TA} {px py pt:Pos} {kt k2 pt2} (hc:X.calm=true) (hN:X.N.Nodup) (hi:X.N[i]?=some x) (hj:X.N[j]?=some y) (hij:i≠j)
  (hx:X.env.scope.names.lookup x=some .local) (hy:X.env.scope.names.lookup y=some .local) (ha:QA X [a,b] ta)
  (hw:swappedStores [.Tuple [.Name x px,.Name y py] kt pt] (.Tuple [a,b] k2 pt2) X.env=pure (some [x,y]))
  (hs:swapsWithSole [.Tuple [.Name x px,.Name y py] kt pt] (.Tuple [a,b] k2 pt2) pos.line X.env=pure false:=by rfl) :
  QS X (.Assign [.Tuple [.Name x px,.Name y py] kt pt] (.Tuple [a,b] k2 pt2) pos) (jhu i j ta):=⟨jgG hc hN hi hj hij hx hy ha.h hw hs⟩
abbrev P2:Type:=Prod D Int
def p2 (p:P2):D:=.tup [p.1,.int p.2]
def mor (p:P2) (d:Int):P2:=(p.1,p.2+d)
def kx (a b:P2):D:=.tup [a.1,b.1,.int (b.2 - a.2)]
def qb (v:D) (s:P2):P2:=(.tup [.str "entry",v,p2 s],0)
def J3:P2:=(.tup [.str "nought"],0)
def YQ (x:Str):P2:=(.tup [.str "start",.str x],0)
def jbv (n:Nat):P2:=(.tup [.str "pick",.int n],0)
def j4 (i:Int):P2:=(.tup [.str "own",.int i],0)
def jgw (r:Str):D:=.tup [.str "row",.str r]
def KF (n:Nat):D:=.tup [.str "lost",.int n]
def yo (n:Nat):D:=.tup [.str "put",.int n]
structure Cs where
 nu:Str→Option P2
 ve:Str→Option D
 na:List Str
 l:Nat→List D
def yn {α:Type} (f:Str→Option α) (x:Str) (d:α):Str→Option α:=fun y=>if y=x then some d else f y
def jhj (l:Nat→List D) (i:Nat) (ds:List D):Nat→List D:=fun j=>if j=i then l j++ds else l j
def jhi (xs:List Str) (r:Str):List Str:=if r∈xs then xs else xs++[r]
def Cs.add (c:Cs) (i:Nat) (ds:List D):Cs:={ c with l:=jhj c.l i ds }
def Cs.num (c:Cs) (x:Str):P2:=if x = "" then J3 else (c.nu x).getD (YQ x)
def Cs.spot (c:Cs) (x:Str) (d:Int):P2:=mor (c.num x) d
def Cs.ver (c:Cs) (r:Str):D:=(c.ve r).getD (jgw r)
def Cs.name (c:Cs) (r:Str):Cs:={ c with na:=jhi c.na r }
def Cs.stand (c:Cs):Tm→P2×Cs
 | .is x=>(c.num x,c)
 | .at_ r x d=>(qb (c.ver r) (c.spot x d),(c.add 2 [p2 (c.spot x d)]).name r)
def Cs.least (c:Cs) (a b:Tm) (k:Int):D×Cs:=
 let s:=c.stand b
 let t:=s.2.stand a
 (kx (mor s.1 k) t.1,t.2)
def jhg (v:D) (way:Str) (b:D) (k:Int):D:=.tup [v,.str way,b,.int k]
def Cs.body (c:Cs) (r way:Str) (b:Bd) (k:Int):D×Cs:=match b with
 | .row q=>(jhg (c.ver r) way (.tup [.str "row",c.ver q]) k,(c.name r).name q)
 | .is x=>(jhg (c.ver r) way (.tup [.str "is",p2 (c.num x)]) k,c.name r)
def Cs.know (c:Cs):Cl→Cs
 | .least a b k=>(c.least a b k).2.add 1 [(c.least a b k).1]
 | .each t td u ud r way b k=>
  let e:=(c.add 2 [p2 (c.spot t td)]).body r way b k
  e.2.add 4 [.tup [p2 (c.spot t td),p2 (c.spot u ud),e.1]]
 | .rise t td u ud r=>((c.add 2 [p2 (c.spot t td)]).name r).add 5 [.tup [p2 (c.spot t td),p2 (c.spot u ud),c.ver r]]
def zB (v:D) (way:Str) (b:P2) (k:Int) (s:P2):D:=if way = ">=" then kx (mor b k) (qb v s) else kx (qb v s) (mor b k)
def Cs.bnd (c:Cs) (b:Bd) (s:P2):P2:=match b with
 | .row q=>qb (c.ver q) s
 | .is x=>c.num x
def JN:D→D
 | .tup [x,y,.int c]=>.tup [y,x,.int (-1 - c)]
 | d=>d
def Cs.deny (c:Cs):Cl→Cs
 | .least a b k=>(c.least b a (1 - k)).2.add 1 [(c.least b a (1 - k)).1]
 | .each t td u ud r way b k=>
  let e:=c.body r way b k
  (e.2.add 2 [p2 (j4 0)]).add 1 [kx (c.spot t td) (j4 0),kx (j4 0) (c.spot u ud),JN (zB (c.ver r) way (c.bnd b (j4 0)) k (j4 0))]
 | .rise t td u ud r=>((c.name r).add 2 [p2 (j4 0),p2 (j4 1)]).add 1 [kx (c.spot t td) (j4 0),kx (j4 0) (j4 1),kx (j4 1) (c.spot u ud),kx (mor (qb (c.ver r) (j4 1)) 1) (qb (c.ver r) (j4 0))]
inductive Rw where
 | set (x:Str) (t:Tm) (c:Int) | put (r x:Str) (d:Int) (t:Tm) (c:Int) | any (x:Str) | lose (r:Str) | know (C:Cl)
def Rw.toD:Rw→D
 | .set x t c=>.tup [.str "set",.str x,t.toD,.int c]
 | .put r x d t c=>.tup [.str "put",.str r,plD x d,t.toD,.int c]
 | .any x=>.tup [.str "any",.str x]
 | .lose r=>.tup [.str "lose",.str r]
 | .know C=>.tup [.str "know",C.toD]
def Cs.setn (c:Cs) (x:Str) (p:P2):Cs:={ c with nu:=yn c.nu x p }
def Cs.setv (c:Cs) (r:Str) (d:D):Cs:={ c with ve:=yn c.ve r d }
def Cs.take (c:Cs) (n:Nat):Rw→Cs
 | .set x t k=>(c.stand t).2.setn x (mor (c.stand t).1 k)
 | .put r x d t k=>
  let s:=c.spot x d
  let v:=mor (c.stand t).1 k
  (((((c.stand t).2.name r).add 2 [p2 s]).add 3 [.tup [p2 s,(c.stand t).2.ver r,p2 v,yo n]]).add 1 [kx (qb (yo n) s) v,kx v (qb (yo n) s)]).setv r (yo n)
 | .any x=>c.setn x (jbv n)
 | .lose r=>((c.name r).setv r (KF n)).add 0 [KF n]
 | .know C=>c.know C
def Cs.none:Cs:=⟨fun _=>Option.none,fun _=>Option.none,[],fun _=>[]⟩
def Cs.rows (c:Cs):List Rw→Nat→Cs
 | [],_=>c
 | r :: R,n=>(c.take n r).rows R (n+1)
def top (i:Nat):Stmt:=PySem.Challenge.pw_outlineward_k43_spots_and_width.main.body.getD i (.Pass ⟨0,0,0,0⟩)
structure CA where
 o:Addr
 dx:Addr
 nu:Addr
 ve:Addr
 na:Addr
 l:Nat→Addr
def jie (A:CA):List (Str×V):=[("numbers",.ref A.nu),("versions",.ref A.ve),("named",.ref A.na),("lost",.ref (A.l 0)),("ties",.ref (A.l 1)),("spots",.ref (A.l 2)),("puts",.ref (A.l 3)),("eaches",.ref (A.l 4)),("rises",.ref (A.l 5))]
def DAt (n:Nat) (f:Str→Option D) (H:Hp) (a:Addr):Prop:=∃ kvs:List (Key×V),H a=some (.dK kvs)∧kvs.length≤n∧∀ x,(f x=none→k0 kvs (.inr x)=none)∧∀ d,f x=some d→∃ v,k0 kvs (.inr x)=some v∧Held H d v
def NAt (n:Nat) (xs:List Str) (H:Hp) (a:Addr):Prop:=∃ kvs:List (Key×V),H a=some (.dK kvs)∧kvs.length≤n∧kvs.map (·.1)=xs.map Sum.inr
def LAt (n:Nat) (ds:List D) (H:Hp) (a:Addr):Prop:=∃ xs,H a=some (.lst xs)∧HeldL H ds xs∧xs.length≤n
structure CsAt (C:Addr) (n:Nat) (A:CA) (c:Cs) (H:Hp):Prop where
 o:H A.o=some (.ins C A.dx (jie A))
 n1:A.nu≠A.ve
 n2:A.nu≠A.na
 n3:A.ve≠A.na
 inj:∀ i j,i < 6→j < 6→A.l i=A.l j→i=j
 nu:DAt n (fun x=>(c.nu x).map p2) H A.nu
 ve:DAt n c.ve H A.ve
 na:NAt n c.na H A.na
 l:∀ i,i < 6→LAt n (c.l i) H (A.l i)
def Mv (A:CA) (H H':Hp):Prop:=∀ b o,b≠A.nu→b≠A.ve→b≠A.na→(∀ i,i < 6→b≠A.l i)→H b=some o→H' b=some o
theorem kT {H:Hp}:∀ {ds ds':List D} {vs vs':List V},HeldL H ds vs→HeldL H ds' vs'→HeldL H (ds++ds') (vs++vs')
 | [],_,_,_,h,h'=>by cases jO h;exact h'
 | _ :: _,_,_,_,h,h'=>by
  obtain ⟨v,r,rfl,h1,h2⟩:=jk h
  exact je h1 (kT h2 h')
variable {P:Program} {w:World} {K:W.Frag} {mg:Str→Option Value} {base:Heap}
theorem Mv.same {A:CA} {H H':Hp} (s:Same H H'):Mv A H H':=fun b o _ _ _ _ e=>s b o e
theorem Mv.trans {A:CA} {H H1 H2:Hp} (h:Mv A H H1) (k:Mv A H1 H2):Mv A H H2:=fun b o a1 a2 a3 a4 e=>k b o a1 a2 a3 a4 (h b o a1 a2 a3 a4 e)
theorem DAt.tk {n:Nat} {f:Str→Option D} {H H':Hp} {a:Addr} (h:DAt n f H a) (t:TK H H') (e:∀ o,H a=some o→H' a=some o):DAt n f H' a:=by
 obtain ⟨kvs,h1,h2,h3⟩:=h
 refine ⟨kvs,e _ h1,h2,fun x=>⟨(h3 x).1,fun d hd=>?_⟩⟩
 obtain ⟨v,k1,k2⟩:=(h3 x).2 d hd
 exact ⟨v,k1,t.held k2⟩
theorem LAt.tk {n:Nat} {ds:List D} {H H':Hp} {a:Addr} (h:LAt n ds H a) (t:TK H H') (e:∀ o,H a=some o→H' a=some o):LAt n ds H' a:=by
 obtain ⟨xs,h1,h2,h3⟩:=h
 exact ⟨xs,e _ h1,t.heldL h2,h3⟩
theorem NAt.tk {n:Nat} {xs:List Str} {H H':Hp} {a:Addr} (h:NAt n xs H a) (e:∀ o,H a=some o→H' a=some o):NAt n xs H' a:=by
 obtain ⟨kvs,h1,h2,h3⟩:=h
 exact ⟨kvs,e _ h1,h2,h3⟩
theorem CsAt.same {C:Addr} {n:Nat} {A:CA} {c:Cs} {H H':Hp} (I:CsAt C n A c H) (s:Same H H'):CsAt C n A c H':=
 ⟨s _ _ I.o,I.n1,I.n2,I.n3,I.inj,I.nu.tk (.same s) fun o=>s _ o,I.ve.tk (.same s) fun o=>s _ o,I.na.tk fun o=>s _ o,fun i hi=>(I.l i hi).tk (.same s) fun o=>s _ o⟩
theorem CsAt.mono {C:Addr} {n m:Nat} {A:CA} {c:Cs} {H:Hp} (I:CsAt C n A c H) (h:n≤m):CsAt C m A c H:=by
 obtain ⟨a1,a2,a3,a4,a5,⟨k1,h1,l1,m1⟩,⟨k2,h2,l2,m2⟩,⟨k3,h3,l3,m3⟩,a9⟩:=I
 refine ⟨a1,a2,a3,a4,a5,⟨k1,h1,Nat.le_trans l1 h,m1⟩,⟨k2,h2,Nat.le_trans l2 h,m2⟩,⟨k3,h3,Nat.le_trans l3 h,m3⟩,fun i hi=>?_⟩
 obtain ⟨xs,e1,e2,e3⟩:=a9 i hi
 exact ⟨xs,e1,e2,Nat.le_trans e3 h⟩
theorem CsAt.tk {C:Addr} {n:Nat} {A:CA} {c:Cs} {H H':Hp} (I:CsAt C n A c H) (m:Mv A H H'):TK H H':=fun b xs e=>by
 obtain ⟨k1,h1,_⟩:=I.nu
 obtain ⟨k2,h2,_⟩:=I.ve
 obtain ⟨k3,h3,_⟩:=I.na
 refine m b _ (fun z=>?_) (fun z=>?_) (fun z=>?_) (fun i hi z=>?_) e
 ·rw [z,h1] at e;cases e
 ·rw [z,h2] at e;cases e
 ·rw [z,h3] at e;cases e
 ·obtain ⟨ys,h4,_⟩:=I.l i hi
  rw [z,h4] at e;cases e
theorem jD {H:Hp} {a b:Addr} {x y:HO} (h:H a=some x) (k:H b=some y) (n:x≠y):a≠b:=fun e=>by
 rw [e,k] at h
 exact n (Option.some.inj h).symm
theorem jo {H:Hp} {a b:Addr} {o u:HO} (h:b≠a) (e:H b=some u):upd H a o b=some u:=by rw [jB h];exact e
theorem CsAt.app {C:Addr} {n:Nat} {A:CA} {c:Cs} {H:Hp} (I:CsAt C n A c H) {i:Nat} (hi:i < 6) {ds:List D} {vs xs:List V} (hd:HeldL H ds vs) (e:H (A.l i)=some (.lst xs)) :
  Mv A H (upd H (A.l i) (.lst (xs++vs)))∧CsAt C (n+vs.length) A (c.add i ds) (upd H (A.l i) (.lst (xs++vs))):=by
 have mv:Mv A H (upd H (A.l i) (.lst (xs++vs))):=fun b o _ _ _ h4 eb=>jo (h4 i hi) eb
 have t:=I.tk mv
 obtain ⟨k1,h1,_⟩:=I.nu
 obtain ⟨k2,h2,_⟩:=I.ve
 obtain ⟨k3,h3,_⟩:=I.na
 obtain ⟨ys,h4,h5,h6⟩:=I.l i hi
 obtain rfl:xs=ys:=by rw [h4] at e;cases e;rfl
 have J:=I.mono (Nat.le_add_right n vs.length)
 refine ⟨mv,jo (jD I.o e (by intro z;cases z)) I.o,I.n1,I.n2,I.n3,I.inj,J.nu.tk t fun o=>jo (jD h1 e (by intro z;cases z)),J.ve.tk t fun o=>jo (jD h2 e (by intro z;cases z)),J.na.tk fun o=>jo (jD h3 e (by intro z;cases z)),fun j hj=>?_⟩
 show LAt _ (jhj c.l i ds j) _ _
 unfold jhj
 by_cases z:j=i
 ·rw [if_pos z,z]
  exact ⟨_,jg,kT (t.heldL h5) (t.heldL hd),by rw [List.length_append];omega⟩
 ·rw [if_neg z]
  exact (J.l j hj).tk t fun o=>jo fun q=>z (I.inj j i hj hi q)
theorem CsAt.app1 {C:Addr} {n:Nat} {A:CA} {c:Cs} {H:Hp} (I:CsAt C n A c H) {i:Nat} (hi:i < 6) {d:D} {v:V} {xs:List V} (hd:Held H d v) (e:H (A.l i)=some (.lst xs)) :
  Mv A H (upd H (A.l i) (.lst (xs++[v])))∧CsAt C (n+1) A (c.add i [d]) (upd H (A.l i) (.lst (xs++[v]))):=I.app hi (je hd jw) e
theorem J6 {n:Nat} {f:Str→Option D} {H:Hp} {a:Addr} {kvs:List (Key×V)} {x:Str} {d:D} {v:V} (h:DAt n f H a) (e:H a=some (.dK kvs)) (hv:Held H d v):TK H (upd H a (.dK (kc kvs (.inr x) v)))∧DAt (n+1) (yn f x d) (upd H a (.dK (kc kvs (.inr x) v))) a:=by
 have t:TK H (upd H a (.dK (kc kvs (.inr x) v))):=fun b xs eb=>jo (jD eb e (by intro z;cases z)) eb
 obtain ⟨k1,h1,h2,h3⟩:=h
 obtain rfl:k1=kvs:=by rw [h1] at e;cases e;rfl
 refine ⟨t,_,jg,Nat.le_trans (ky _ _ _) (Nat.succ_le_succ h2),fun y=>?_⟩
 unfold yn
 rw [jcT]
 by_cases z:y=x
 ·rw [if_pos z,if_pos (by rw [z])]
  exact ⟨(by intro q;cases q),fun d' hd=>by cases hd;exact ⟨v,rfl,t.held hv⟩⟩
 ·rw [if_neg z,if_neg (fun q=>z (Sum.inr.inj q))]
  refine ⟨(h3 y).1,fun d' hd=>?_⟩
  obtain ⟨u,q1,q2⟩:=(h3 y).2 d' hd
  exact ⟨u,q1,t.held q2⟩
theorem jbE {kvs:List (Key×V)} {k:Key} (v:V) (h:k∈kvs.map (·.1)):(kc kvs k v).map (·.1)=kvs.map (·.1):=by
 unfold kc
 rw [if_pos ?_,List.map_map]
 ·refine List.map_congr_left fun p _=>?_
  show (if p.1=k then (p.1,v) else p).1=p.1
  split <;> rfl
 ·obtain ⟨p,h1,h2⟩:=List.mem_map.mp h
  exact List.any_eq_true.mpr ⟨p,h1,decide_eq_true h2⟩
theorem jed {kvs:List (Key×V)} {k:Key} (v:V) (h:k ∉ kvs.map (·.1)):(kc kvs k v).map (·.1)=kvs.map (·.1)++[k]:=by
 unfold kc
 rw [if_neg ?_,List.map_append]
 ·rfl
 ·intro z
  obtain ⟨p,h1,h2⟩:=List.any_eq_true.mp z
  exact h (List.mem_map.mpr ⟨p,h1,of_decide_eq_true h2⟩)
theorem CsAt.setn {C:Addr} {n:Nat} {A:CA} {c:Cs} {H:Hp} {kvs:List (Key×V)} (I:CsAt C n A c H) {x:Str} {p:P2} {v:V} (hv:Held H (p2 p) v) (e:H A.nu=some (.dK kvs)) :
  Mv A H (upd H A.nu (.dK (kc kvs (.inr x) v)))∧CsAt C (n+1) A (c.setn x p) (upd H A.nu (.dK (kc kvs (.inr x) v))):=by
 obtain ⟨t,d⟩:=J6 (x:=x) I.nu e hv
 have J:=I.mono (Nat.le_succ n)
 refine ⟨fun b o h1 _ _ _ eb=>jo h1 eb,jo (jD I.o e (by intro z;cases z)) I.o,I.n1,I.n2,I.n3,I.inj,?_,J.ve.tk t fun o=>jo I.n1.symm,J.na.tk fun o=>jo I.n2.symm,fun i hi=>?_⟩
 ·have:(fun y=>((yn c.nu x p) y).map p2)=yn (fun y=>(c.nu y).map p2) x (p2 p):=by
   funext y
   unfold yn
   split <;> rfl
  show DAt _ (fun y=>((yn c.nu x p) y).map p2) _ _
  rw [this]
  exact d
 ·obtain ⟨ys,h4,_⟩:=I.l i hi
  exact (J.l i hi).tk t fun o=>jo (jD h4 e (by intro z;cases z))
theorem CsAt.setv {C:Addr} {n:Nat} {A:CA} {c:Cs} {H:Hp} {kvs:List (Key×V)} (I:CsAt C n A c H) {r:Str} {d:D} {v:V} (hv:Held H d v) (e:H A.ve=some (.dK kvs)) :
  Mv A H (upd H A.ve (.dK (kc kvs (.inr r) v)))∧CsAt C (n+1) A (c.setv r d) (upd H A.ve (.dK (kc kvs (.inr r) v))):=by
 obtain ⟨t,d⟩:=J6 (x:=r) I.ve e hv
 have J:=I.mono (Nat.le_succ n)
 refine ⟨fun b o _ h1 _ _ eb=>jo h1 eb,jo (jD I.o e (by intro z;cases z)) I.o,I.n1,I.n2,I.n3,I.inj,J.nu.tk t fun o=>jo I.n1,d,J.na.tk fun o=>jo I.n3.symm,fun i hi=>?_⟩
 obtain ⟨ys,h4,_⟩:=I.l i hi
 exact (J.l i hi).tk t fun o=>jo (jD h4 e (by intro z;cases z))
theorem CsAt.named {C:Addr} {n:Nat} {A:CA} {c:Cs} {H:Hp} {kvs:List (Key×V)} (I:CsAt C n A c H) {r:Str} {v:V} (e:H A.na=some (.dK kvs)) :
  Mv A H (upd H A.na (.dK (kc kvs (.inr r) v)))∧CsAt C (n+1) A (c.name r) (upd H A.na (.dK (kc kvs (.inr r) v))):=by
 have t:TK H (upd H A.na (.dK (kc kvs (.inr r) v))):=fun b xs eb=>jo (jD eb e (by intro z;cases z)) eb
 have J:=I.mono (Nat.le_succ n)
 refine ⟨fun b o _ _ h1 _ eb=>jo h1 eb,jo (jD I.o e (by intro z;cases z)) I.o,I.n1,I.n2,I.n3,I.inj,J.nu.tk t fun o=>jo I.n2,J.ve.tk t fun o=>jo I.n3,?_,fun i hi=>?_⟩
 ·obtain ⟨k1,h1,h2,h3⟩:=I.na
  obtain rfl:k1=kvs:=by rw [h1] at e;cases e;rfl
  refine ⟨_,jg,Nat.le_trans (ky _ _ _) (Nat.succ_le_succ h2),?_⟩
  show _=(jhi c.na r).map Sum.inr
  unfold jhi
  by_cases z:r∈c.na
  ·rw [if_pos z,jbE _ (by rw [h3];exact List.mem_map.mpr ⟨r,z,rfl⟩),h3]
  ·rw [if_neg z,jed _ (by rw [h3];intro q;obtain ⟨y,y1,y2⟩:=List.mem_map.mp q;cases y2;exact z y1),List.map_append,h3]
   rfl
 ·obtain ⟨ys,h4,_⟩:=I.l i hi
  exact (J.l i hi).tk t fun o=>jo (jD h4 e (by intro z;cases z))
abbrev zq:Stmt:=top 21
abbrev yY:Stmt:=top 22
abbrev yg:Stmt:=top 20
abbrev Y3:Stmt:=top 23
abbrev qM:Stmt:=top 3
theorem yB {H:Hp} {p:P2} {v:V} (h:Held H (p2 p) v):∃ t x,v=.ref t∧H t=some (.tup [x,.int p.2])∧Held H p.1 x:=by
 obtain ⟨t,xs,rfl,ht,hx⟩:=jQ h
 obtain ⟨x,r,rfl,h1,h2⟩:=jk hx
 obtain ⟨y,r,rfl,h3,h4⟩:=jk h2
 cases j9 h3
 cases jO h4
 exact ⟨t,x,rfl,ht,h1⟩
def qg:Sp:=fun vs H Q _=>∃ (v:V) (d:Int) (p:P2),vs=[v,.int d]∧Held H (p2 p) v∧∀ v' H',Same H H'→Held H' (p2 (mor p d)) v'→Q v' H'
def yr:Sp:=fun vs H Q _=>∃ (v u:V) (p q:P2),vs=[v,u]∧Held H (p2 p) v∧Held H (p2 q) u∧∀ v' H',Same H H'→Held H' (kx p q) v'→Q v' H'
def yq:Sp:=fun vs H Q _=>∃ (v u:V) (d:D) (p:P2),vs=[v,u]∧Held H d v∧Held H (p2 p) u∧∀ v' H',Same H H'→Held H' (p2 (qb d p)) v'→Q v' H'
def jdg:Sp:=fun vs H Q _=>∃ (v u:V) (p q:P2),vs=[v,u]∧Held H (p2 p) v∧Held H (p2 q) u∧∀ l x y H',Same H H'→H' l=some (.lst [x,y])→Held H' (kx p q) x→Held H' (kx q p) y→Q (.ref l) H'
def jbc:Sp:=fun vs H Q _=>∃ (v:V) (x y:D) (c:Int),vs=[v]∧Held H (.tup [x,y,.int c]) v∧∀ v' H',Same H H'→Held H' (.tup [y,x,.int (-1 - c)]) v'→Q v' H'
section
variable {P:Program} {w:World} {K:W.Frag} {mg:Str→Option Value} {base:Heap}
theorem jfv {f:Addr} {fd:FuncData} (F:Fun K "more_than" "more_than" zq f fd):FnOk P w K mg base CX0 1 f fd ["stood_for","d"] qg:=by
 have sc:FnScope ["stood_for","d","source","more"] ["stood_for","d"] (jp zq):=fQ
 refine F.okZ sc (fun vs H Q E h=>?_) (fun cdv A outer s H vs Q E hr h=>?_)
 ·obtain ⟨v,d,p,rfl,_⟩:=h
  rfl
 obtain ⟨v,d,p,rfl,hv,q⟩:=h
 refine ⟨_,(jd (qx (zpv 0) (kU rfl (jE (jC (i:=2) sc.nd rfl oQ) (jE (jC (i:=3) sc.nd rfl oQ) kD))))
   (jh (jx (zpd (jX (jr (ke 2) (jr (qE (jq kN (zpv 3) (zpv 1))) jN))))))),?_⟩
 refine jI (σ':=[some v,some (.int d),none,none]) rfl ?_
 obtain ⟨t,x,rfl,ht,hx⟩:=yB hv
 refine ⟨_,rfl,t,_,rfl,SqT.of ht,rfl,_,_,rfl,_,_,rfl,rfl,?_⟩
 refine jI (σ':=[some (.ref t),some (.int d),some x,some (.int p.2)]) rfl ?_
 refine ⟨p2 (mor p d),⟨_,rfl,Nat.le_of_ble_eq_true rfl,_,_,rfl,⟨_,rfl,hx⟩,_,_,rfl,(fun G sG Q q=>?_),rfl⟩,fun v H' s h=>q v H' s h⟩
 exact ⟨_,rfl,_,rfl,_,_,rfl,rfl,q _ _ (fun _ _ e=>e) jK⟩
theorem jg0 {f:Addr} {fd:FuncData} (F:Fun K "at_most" "at_most" yY f fd):FnOk P w K mg base CX0 1 f fd ["one","other"] yr:=by
 have sc:FnScope ["one","other"] ["one","other"] (jp yY):=fQ
 refine F.okZ sc (fun vs H Q E h=>?_) (fun cdv A outer s H vs Q E hr h=>?_)
 ·obtain ⟨v,u,p,q,rfl,_⟩:=h
  rfl
 obtain ⟨v,u,p,q,rfl,hv,hu,k⟩:=h
 refine ⟨_,(jh (jx (zpd (jX (jr (qE (jm ju (zpv 0) jc (fun _ _=>rfl))) (jr (qE (jm ju (zpv 1) jc (fun _ _=>rfl))) (jr (qE (jq qw (jm ju (zpv 1) jc (fun _ _=>rfl)) (jm ju (zpv 0) jc (fun _ _=>rfl)))) jN))))))),?_⟩
 refine jI (σ':=[some v,some u]) rfl ?_
 obtain ⟨t,x,rfl,ht,hx⟩:=yB hv
 obtain ⟨t',y,rfl,ht',hy⟩:=yB hu
 refine ⟨kx p q,⟨_,rfl,Nat.le_of_ble_eq_true rfl,_,_,rfl,(fun G sG Q q=>?_),_,_,rfl,(fun G sG Q q=>?_),_,_,rfl,(fun G sG Q q=>?_),rfl⟩,fun v H' s h=>k v H' s h⟩
 ·exact ⟨_,rfl,t,_,_,_,rfl,rfl,SqT.of (sG _ _ ht),jf (j:=0) rfl,q _ _ (fun _ _ e=>e) (hx.mono sG)⟩
 ·exact ⟨_,rfl,t',_,_,_,rfl,rfl,SqT.of (sG _ _ ht'),jf (j:=0) rfl,q _ _ (fun _ _ e=>e) (hy.mono sG)⟩
 ·exact ⟨_,rfl,t',_,_,_,rfl,rfl,SqT.of (sG _ _ ht'),jf (j:=1) rfl,_,rfl,t,_,_,_,rfl,rfl,SqT.of (sG _ _ ht),jf (j:=1) rfl,_,_,rfl,rfl,q _ _ (fun _ _ e=>e) jK⟩
theorem jgZ {f:Addr} {fd:FuncData} (F:Fun K "entry_of" "entry_of" yg f fd):FnOk P w K mg base CX0 1 f fd ["version","spot"] yq:=by
 have sc:FnScope ["version","spot"] ["version","spot"] (jp yg):=fQ
 refine F.okZ sc (fun vs H Q E h=>?_) (fun cdv A outer s H vs Q E hr h=>?_)
 ·obtain ⟨v,u,d,p,rfl,_⟩:=h
  rfl
 obtain ⟨v,u,d,p,rfl,hv,hu,k⟩:=h
 refine ⟨_,(jh (jx (zpd (jX (jr (jX (jr kz (jr (ke 0) (jr (ke 1) jN)))) (jr qv jN)))))),?_⟩
 refine jI (σ':=[some v,some u]) rfl ?_
 exact ⟨p2 (qb d p),⟨_,rfl,Nat.le_of_ble_eq_true rfl,_,_,rfl,⟨_,rfl,Nat.le_of_ble_eq_true rfl,_,_,rfl,rfl,_,_,rfl,⟨_,rfl,hv⟩,_,_,rfl,⟨_,rfl,hu⟩,rfl⟩,_,_,rfl,rfl,rfl⟩,fun v H' s h=>k v H' s h⟩
theorem jfw {f:Addr} {fd:FuncData} (F:Fun K "alike" "alike" Y3 f fd) (F_at_most:Fn P w K mg base 1 "at_most" ["one","other"] yr):FnOk P w K mg base CX0 2 f fd ["one","other"] jdg:=by
 have sc:FnScope ["one","other"] ["one","other"] (jp Y3):=fQ
 refine F.okZ sc (fun vs H Q E h=>?_) (fun cdv A outer s H vs Q E hr h=>?_)
 ·obtain ⟨v,u,p,q,rfl,_⟩:=h
  rfl
 obtain ⟨v,u,p,q,rfl,hv,hu,k⟩:=h
 refine ⟨_,(jh (jx (jY (ja (ji F_at_most hr (ja (zpv 0) (ja (zpv 1) jb))) (ja (ji F_at_most hr (ja (zpv 1) (ja (zpv 0) jb))) jb))))),?_⟩
 refine jI (σ':=[some v,some u]) rfl ?_
 refine ⟨_,rfl,_,rfl,v,u,p,q,rfl,hv,hu,fun x H1 s1 hx=>⟨_,rfl,_,rfl,u,v,q,p,rfl,hu.mono s1,hv.mono s1,fun y H2 s2 hy=>⟨sm rfl,fun l hl=>?_⟩⟩⟩
 have s3:=jj hl (.lst [x,y])
 exact k l x y _ ((s1.trans s2).trans s3) jg ((hx.mono s2).mono s3) (hy.mono s3)
theorem jdV {f:Addr} {fd:FuncData} (F:Fun K "turned_tie" "turned_tie" qM f fd):FnOk P w K mg base CX0 1 f fd ["tie"] jbc:=by
 have sc:FnScope ["tie","x","y","c"] ["tie"] (jp qM):=fQ
 refine F.okZ sc (fun vs H Q E h=>?_) (fun cdv A outer s H vs Q E hr h=>?_)
 ·obtain ⟨v,x,y,c,rfl,_⟩:=h
  rfl
 obtain ⟨v,x,y,c,rfl,hv,k⟩:=h
 refine ⟨_,(jd (qx (zpv 0) (kU rfl (jE (jC (i:=1) sc.nd rfl oQ) (jE (jC (i:=2) sc.nd rfl oQ) (jE (jC (i:=3) sc.nd rfl oQ) kD)))))
   (jh (jx (zpd (jX (jr (ke 2) (jr (ke 1) (jr (qE (jq qw (jcL jcW jc) (zpv 3))) jN)))))))),?_⟩
 refine jI (σ':=[some v,none,none,none]) rfl ?_
 obtain ⟨t,xs,rfl,ht,hx⟩:=jQ hv
 obtain ⟨a,r,rfl,h1,h2⟩:=jk hx
 obtain ⟨b,r,rfl,h3,h4⟩:=jk h2
 obtain ⟨z,r,rfl,h5,h6⟩:=jk h4
 cases j9 h5
 cases jO h6
 refine ⟨_,rfl,t,_,rfl,SqT.of ht,rfl,_,_,rfl,_,_,rfl,_,_,rfl,rfl,?_⟩
 refine jI (σ':=[some (.ref t),some a,some b,some (.int c)]) rfl ?_
 refine ⟨.tup [y,x,.int (-1 - c)],⟨_,rfl,Nat.le_of_ble_eq_true rfl,_,_,rfl,⟨_,rfl,h3⟩,_,_,rfl,⟨_,rfl,h1⟩,_,_,rfl,(fun G sG Q q=>?_),rfl⟩,fun v H' s h=>k v H' s h⟩
 exact ⟨1,rfl,_,rfl,_,_,rfl,rfl,q _ _ (fun _ _ e=>e) jK⟩
end
abbrev kn:Stmt:=top 16
abbrev yS:Stmt:=top 18
abbrev qq:Stmt:=top 19
abbrev qN:Stmt:=top 17
structure ClsC (K:W.Frag) (C:Addr):Prop where
 c:Cls K C
 n1:NoAttr K C "numbers"
 n2:NoAttr K C "versions"
 n3:NoAttr K C "named"
 n4:NoAttr K C "lost"
 n5:NoAttr K C "ties"
 n6:NoAttr K C "spots"
 n7:NoAttr K C "puts"
 n8:NoAttr K C "eaches"
 n9:NoAttr K C "rises"
def jbf (C:Addr):Sp:=fun vs H Q _=>∃ (n:Nat) (A:CA) (c:Cs) (x:Str),vs=[.ref A.o,.str x]∧CsAt C n A c H∧∀ v H',Same H H'→Held H' (p2 (c.num x)) v→Q v H'
def Kp (C:Addr):Sp:=fun vs H Q _=>∃ (n:Nat) (A:CA) (c:Cs) (x:Str) (d:Int) (v:V),vs=[.ref A.o,v]∧CsAt C n A c H∧Held H (plD x d) v∧∀ v H',Same H H'→Held H' (p2 (c.spot x d)) v→Q v H'
def Ym (C:Addr):Sp:=fun vs H Q _=>∃ (n:Nat) (A:CA) (c:Cs) (r:Str),vs=[.ref A.o,.str r]∧CsAt C n A c H∧n≤900∧∀ v H',Mv A H H'→CsAt C (n+1) A (c.name r) H'→Held H' (c.ver r) v→Q v H'
def J0 (C:Addr):Sp:=fun vs H Q _=>∃ (n:Nat) (A:CA) (c:Cs) (t:Tm) (v:V),vs=[.ref A.o,v]∧CsAt C n A c H∧n≤880∧Held H t.toD v∧∀ v H',Mv A H H'→CsAt C (n+2) A (c.stand t).2 H'→Held H' (p2 (c.stand t).1) v→Q v H'
theorem kG {n:Nat} (h:n≤900):n < sizeLine:=jJ (by omega)
section
variable {P:Program} {w:World} {K:W.Frag} {mg:Str→Option Value} {base:Heap} {C:Addr}
theorem jgW {f:Addr} {fd:FuncData} (T:ClsC K C) (F:Fun K "number_stands_for" "number_stands_for" kn f fd):FnOk P w K mg base CX0 1 f fd ["case","x"] (jbf C):=by
 have sc:FnScope ["case","x"] ["case","x"] (jp kn):=fQ
 refine F.okZ sc (fun vs H Q E h=>?_) (fun cdv A outer s H vs Q E hr h=>?_)
 ·obtain ⟨n,A,c,x,rfl,_⟩:=h
  rfl
 have hu:(A.deeper (PyProof.Rows.envOfC "number_stands_for" (jp kn) s.heap.objs.size f cdv)).units+1 < cLine:=by have:=hr.units;omega
 obtain ⟨n,B,c,x,rfl,I,q⟩:=h
 refine ⟨_,(jd (jL (jy j8 (zpv 1) jl (jH _)) (jh (jx (zpd (jX (jr (jX (jr kz jN)) (jr qv jN)))))) jG)
   (jh (jx (zZ hu (jZ (zpv 0) rfl) (zpv 1) (zpd (jX (jr (jX (jr kz (jr (ke 1) jN))) (jr qv jN)))) ⟨rfl,rfl,rfl,rfl⟩)))),?_⟩
 refine jI (σ':=[some (.ref B.o),some (.str x)]) rfl ?_
 obtain ⟨kvs,h1,_,h3⟩:=I.nu
 unfold Cs.num at q
 refine ⟨_,rfl,rfl,_,rfl,zD (fun d=>?_) (fun d=>?_)⟩
 ·rw [if_pos (V.str.inj (of_decide_eq_true d))] at q
  exact ⟨p2 J3,⟨_,rfl,Nat.le_of_ble_eq_true rfl,_,_,rfl,⟨_,rfl,Nat.le_of_ble_eq_true rfl,_,_,rfl,rfl,rfl⟩,_,_,rfl,rfl,rfl⟩,fun v H' s h=>q v H' s h⟩
 ·rw [if_neg (fun e=>d (decide_eq_true (congrArg V.str e)))] at q
  refine ⟨_,rfl,B.o,C,B.dx,_,_,rfl,I.o,T.c,T.n1,rfl,B.nu,rfl,.inl ⟨kvs,.inl h1⟩,_,rfl,p2 (YQ x),⟨_,rfl,Nat.le_of_ble_eq_true rfl,_,_,rfl,⟨_,rfl,Nat.le_of_ble_eq_true rfl,_,_,rfl,rfl,_,_,rfl,⟨_,rfl,jA⟩,rfl⟩,_,_,rfl,rfl,rfl⟩,fun v H' s h=>⟨_,.k (k:=.inr x) (s _ _ h1),?_⟩⟩
  cases e:c.nu x with
  | none=>
   rw [(h3 x).1 (by show (c.nu x).map p2=none;rw [e];rfl)]
   rw [e] at q
   exact q _ _ s h
  | some p=>
   obtain ⟨u,u1,u2⟩:=(h3 x).2 (p2 p) (by show (c.nu x).map p2=_;rw [e];rfl)
   rw [u1]
   rw [e] at q
   exact q _ _ s (u2.mono s)
theorem jft {f:Addr} {fd:FuncData} (F:Fun K "spot_of" "spot_of" yS f fd) (F_number_stands_for:Fn P w K mg base 1 "number_stands_for" ["case","x"] (jbf C)) (F_more_than:Fn P w K mg base 1 "more_than" ["stood_for","d"] qg):FnOk P w K mg base CX0 2 f fd ["case","place"] (Kp C):=by
 have sc:FnScope ["case","place","x","d"] ["case","place"] (jp yS):=fQ
 refine F.okZ sc (fun vs H Q E h=>?_) (fun cdv A outer s H vs Q E hr h=>?_)
 ·obtain ⟨n,A,c,x,d,v,rfl,_⟩:=h
  rfl
 obtain ⟨n,A,c,x,d,v,rfl,I,hv,q⟩:=h
 refine ⟨_,(jd (qx (zpv 1) (kU rfl (jE (jC (i:=2) sc.nd rfl oQ) (jE (jC (i:=3) sc.nd rfl oQ) kD))))
   (jh (jx (ji F_more_than hr (ja (ji F_number_stands_for hr (ja (zpv 0) (ja (zpv 2) jb))) (ja (zpv 3) jb)))))),?_⟩
 refine jI (σ':=[some (.ref A.o),some v,none,none]) rfl ?_
 obtain ⟨t,rfl,ht⟩:=yA hv
 refine ⟨_,rfl,t,_,rfl,SqT.of ht,rfl,_,_,rfl,_,_,rfl,rfl,?_⟩
 refine jI (σ':=[some (.ref A.o),some (.ref t),some (.str x),some (.int d)]) rfl ?_
 exact ⟨_,rfl,_,rfl,n,A,c,x,rfl,I,fun v H1 s1 h1=>⟨_,rfl,v,d,_,rfl,h1,fun v H2 s2 h2=>q v H2 (s1.trans s2) h2⟩⟩
theorem jgU {f:Addr} {fd:FuncData} (T:ClsC K C) (F:Fun K "version_of" "version_of" qq f fd):FnOk P w K mg base CX0 1 f fd ["case","r"] (Ym C):=by
 have sc:FnScope ["case","r"] ["case","r"] (jp qq):=fQ
 refine F.okZ sc (fun vs H Q E h=>?_) (fun cdv A outer s H vs Q E hr h=>?_)
 ·obtain ⟨n,A,c,r,rfl,_⟩:=h
  rfl
 have hu:(A.deeper (PyProof.Rows.envOfC "version_of" (jp qq) s.heap.objs.size f cdv)).units+1 < cLine:=by have:=hr.units;omega
 obtain ⟨n,B,c,r,rfl,I,hn,q⟩:=h
 refine ⟨_,(jd (kg hu (jZ (zpv 0) rfl) (zpv 1) qY rfl)
   (jh (jx (zZ hu (jZ (zpv 0) rfl) (zpv 1) (zpd (jX (jr kz (jr (ke 1) jN)))) ⟨rfl,rfl,rfl,rfl⟩)))),?_⟩
 refine jI (σ':=[some (.ref B.o),some (.str r)]) rfl ?_
 obtain ⟨ks,h1,h2,_⟩:=I.na
 refine ⟨_,rfl,B.o,C,B.dx,_,_,rfl,I.o,T.c,T.n3,rfl,_,rfl,B.na,_,rfl,.k (k:=.inr r) h1 (kG (Nat.le_trans h2 hn)),?_⟩
 obtain ⟨m1,I1⟩:=I.named (r:=r) (v:=.bl true) h1
 generalize upd H B.na _=H1 at *
 obtain ⟨kvs,k1,_,k3⟩:=I1.ve
 refine ⟨_,rfl,B.o,C,B.dx,_,_,rfl,I1.o,T.c,T.n2,rfl,B.ve,rfl,.inl ⟨kvs,.inl k1⟩,_,rfl,jgw r,⟨_,rfl,Nat.le_of_ble_eq_true rfl,_,_,rfl,rfl,_,_,rfl,⟨_,rfl,jA⟩,rfl⟩,fun v H' s h=>⟨_,.k (k:=.inr r) (s _ _ k1),?_⟩⟩
 have m2:=m1.trans (.same s)
 cases e:c.ve r with
 | none=>
  rw [(k3 r).1 e]
  exact q _ _ m2 (I1.same s) (by unfold Cs.ver;rw [e];exact h)
 | some d=>
  obtain ⟨u,u1,u2⟩:=(k3 r).2 d e
  rw [u1]
  exact q _ _ m2 (I1.same s) (by unfold Cs.ver;rw [e];exact u2.mono s)
theorem jc4 {H:Hp} {t:Tm} {v:V} (h:Held H t.toD v):(∃ x a,t=.is x∧v=.ref a∧H a=some (.tup [.str "is",.str x]))∨∃ r x d a u,t=.at_ r x d∧v=.ref a∧H a=some (.tup [.str "at",.str r,u])∧Held H (plD x d) u:=by
 cases t with
 | is x=>
  obtain ⟨t,xs,rfl,ht,hx⟩:=jQ h
  obtain ⟨a,r,rfl,h1,h2⟩:=jk hx
  obtain ⟨b,r,rfl,h3,h4⟩:=jk h2
  cases js h1
  cases js h3
  cases jO h4
  exact .inl ⟨x,t,rfl,rfl,ht⟩
 | at_ r x d=>
  obtain ⟨t,xs,rfl,ht,hx⟩:=jQ h
  obtain ⟨a,l,rfl,h1,h2⟩:=jk hx
  obtain ⟨b,l,rfl,h3,h4⟩:=jk h2
  obtain ⟨e,l,rfl,h5,h6⟩:=jk h4
  cases js h1
  cases js h3
  cases jO h6
  exact .inr ⟨r,x,d,t,e,rfl,rfl,ht,h5⟩
theorem jdX {f:Addr} {fd:FuncData} (T:ClsC K C) (F:Fun K "stands_for" "stands_for" qN f fd) (F_number_stands_for:Fn P w K mg base 1 "number_stands_for" ["case","x"] (jbf C)) (F_spot_of:Fn P w K mg base 2 "spot_of" ["case","place"] (Kp C)) (F_version_of:Fn P w K mg base 1 "version_of" ["case","r"] (Ym C)) (F_entry_of:Fn P w K mg base 1 "entry_of" ["version","spot"] yq):FnOk P w K mg base CX0 3 f fd ["case","term"] (J0 C):=by
 have sc:FnScope ["case","term","spot"] ["case","term"] (jp qN):=fQ
 refine F.okZ sc (fun vs H Q E h=>?_) (fun cdv A outer s H vs Q E hr h=>?_)
 ·obtain ⟨n,A,c,t,v,rfl,_⟩:=h
  rfl
 obtain ⟨n,B,c,t,v,rfl,I,hn,hv,q⟩:=h
 refine ⟨_,(jd (jL (jy j8 (jm ju (zpv 1) jc (fun _ _=>rfl)) jl (jH _)) (jh (jx (ji F_number_stands_for hr (ja (zpv 0) (ja (jm ju (zpv 1) jc (fun _ _=>rfl)) jb))))) jG)
   (jd (jv (i:=2) sc.nd rfl oQ (ji F_spot_of hr (ja (zpv 0) (ja (jm ju (zpv 1) jc (fun _ _=>rfl)) jb))))
   (jd (jz (ko PySem.F.plainAttrs_list PySem.F.slot_list_append PySem.F.type_list_append j0 (jZ (zpv 0) rfl) (ja (zpv 2) jb)))
   (jh (jx (ji F_entry_of hr (ja (ji F_version_of hr (ja (zpv 0) (ja (jm ju (zpv 1) jc (fun _ _=>rfl)) jb))) (ja (zpv 2) jb)))))))),?_⟩
 refine jI (σ':=[some (.ref B.o),some v,none]) rfl ?_
 rcases jc4 hv with ⟨x,a,rfl,rfl,ha⟩ | ⟨r,x,d,a,u,rfl,rfl,ha,hu⟩
 ·refine ⟨_,rfl,a,_,_,_,rfl,rfl,SqT.of ha,jf (j:=0) rfl,rfl,_,rfl,kO ?_⟩
  exact ⟨_,rfl,_,rfl,a,_,_,_,rfl,rfl,SqT.of ha,jf (j:=1) rfl,n,B,c,x,rfl,I,fun v H' s h=>q v H' (.same s) ((I.same s).mono (by omega)) h⟩
 ·refine ⟨_,rfl,a,_,_,_,rfl,rfl,SqT.of ha,jf (j:=0) rfl,rfl,_,rfl,kh ?_⟩
  refine ⟨_,rfl,_,rfl,a,_,_,_,rfl,rfl,SqT.of ha,jf (j:=2) rfl,n,B,c,x,d,u,rfl,I,hu,fun v H1 s1 hv=>?_⟩
  refine jI (σ':=[some (.ref B.o),some (.ref a),some v]) rfl ?_
  have I1:=I.same s1
  obtain ⟨xs,l1,l2,l3⟩:=I1.l 2 (by decide)
  refine ⟨_,rfl,B.o,C,B.dx,_,_,rfl,I1.o,T.c,T.n6,rfl,.inl ⟨rfl,_,SqL.of l1⟩,_,rfl,B.l 2,xs,v,rfl,rfl,l1,kG (by omega),?_⟩
  obtain ⟨m2,I2⟩:=I1.app1 (i:=2) (by decide) hv l1
  have t2:=I1.tk m2
  have hv2:=t2.held hv
  have ha2:=t2 _ _ (s1 _ _ ha)
  generalize upd H1 (B.l 2) _=H2 at *
  refine ⟨_,rfl,_,rfl,a,_,_,_,rfl,rfl,SqT.of ha2,jf (j:=1) rfl,n+1,B,_,r,rfl,I2,by omega,fun u H3 m3 I3 hu3=>?_⟩
  have t3:=I2.tk m3
  refine ⟨_,rfl,u,v,_,_,rfl,hu3,t3.held hv2,fun y H4 s4 h4=>?_⟩
  exact q y H4 (((Mv.same s1).trans m2).trans (m3.trans (.same s4))) (I3.same s4) h4
end
abbrev zr:Stmt:=top 24
abbrev yX:Stmt:=top 25
abbrev yh:Stmt:=top 26
abbrev J1:Stmt:=top 1
def ZI:Sp:=fun vs H Q _=>∃ (v:V) (a b:Tm) (c:Int),vs=[v]∧Held H (Cl.least a b c).toD v∧∀ u H',Same H H'→Held H' (Cl.least b a (1 - c)).toD u→Q u H'
def Kq (C:Addr):Sp:=fun vs H Q _=>∃ (n:Nat) (A:CA) (c:Cs) (a b:Tm) (k:Int) (v:V),vs=[.ref A.o,v]∧CsAt C n A c H∧n≤860∧Held H (Cl.least a b k).toD v∧∀ v H',Mv A H H'→CsAt C (n+4) A (c.least a b k).2 H'→Held H' (c.least a b k).1 v→Q v H'
def YS (C:Addr):Sp:=fun vs H Q _=>∃ (n:Nat) (A:CA) (c:Cs) (t u:Str) (td ud:Int) (r way:Str) (b:Bd) (k:Int) (v:V),vs=[.ref A.o,v]∧CsAt C n A c H∧n≤860∧Held H (Cl.each t td u ud r way b k).toD v∧∀ v H',Mv A H H'→CsAt C (n+2) A (c.body r way b k).2 H'→Held H' (c.body r way b k).1 v→Q v H'
def jbj:Sp:=fun vs H Q _=>∃ (c:Cs) (r way:Str) (b:Bd) (k:Int) (s:P2) (v u:V),vs=[v,u]∧Held H (c.body r way b k).1 v∧Held H (p2 s) u∧∀ v H',Same H H'→Held H' (zB (c.ver r) way (c.bnd b s) k s) v→Q v H'
section
variable {P:Program} {w:World} {K:W.Frag} {mg:Str→Option Value} {base:Heap} {C:Addr}
theorem jcd {f:Addr} {fd:FuncData} (F:Fun K "turned" "turned" J1 f fd):FnOk P w K mg base CX0 1 f fd ["least"] ZI:=by
 have sc:FnScope ["least","a","b","c"] ["least"] (jp J1):=fQ
 refine F.okZ sc (fun vs H Q E h=>?_) (fun cdv A outer s H vs Q E hr h=>?_)
 ·obtain ⟨v,a,b,c,rfl,_⟩:=h
  rfl
 obtain ⟨v,a,b,c,rfl,hv,q⟩:=h
 refine ⟨_,(jd (qx (qf YV (zpv 0) (qp jc) q8) (kU rfl (jE (jC (i:=1) sc.nd rfl oQ) (jE (jC (i:=2) sc.nd rfl oQ) (jE (jC (i:=3) sc.nd rfl oQ) kD)))))
   (jh (jx (zpd (jX (jr kz (jr (ke 2) (jr (ke 1) (jr (qE (jq qw jc (zpv 3))) jN))))))))),?_⟩
 refine jI (σ':=[some v,none,none,none]) rfl ?_
 obtain ⟨t,va,vb,rfl,ht,ha,hb⟩:=qC hv
 refine ⟨_,rfl,_,rfl,t,_,rfl,SqT.of ht,(fun h=>absurd h.1 (by show ¬ (HT.sIx 4 0 (some 1)=0);decide)),fun t' ht'=>?_⟩
 have s1:=jj ht' (.tup (qZ [.str "least",va,vb,.int c] (some 1) none))
 have e1:upd H t' (.tup (qZ [.str "least",va,vb,.int c] (some 1) none)) t'=some (.tup [va,vb,.int c]):=jg
 generalize upd H t' (.tup (qZ [.str "least",va,vb,.int c] (some 1) none))=H1 at *
 refine ⟨t',_,rfl,SqT.of e1,rfl,_,_,rfl,_,_,rfl,_,_,rfl,rfl,?_⟩
 refine jI (σ':=[some (.ref t),some va,some vb,some (.int c)]) rfl ?_
 refine ⟨(Cl.least b a (1 - c)).toD,⟨_,rfl,Nat.le_of_ble_eq_true rfl,_,_,rfl,rfl,_,_,rfl,⟨_,rfl,(hb.mono s1)⟩,_,_,rfl,⟨_,rfl,(ha.mono s1)⟩,_,_,rfl,(fun G sG Q q=>?_),rfl⟩,fun v H' s h=>q v H' (s1.trans s) h⟩
 exact ⟨_,rfl,1,c,rfl,rfl,q _ _ (fun _ _ e=>e) (by unfold Held;rfl)⟩
theorem jcg {f:Addr} {fd:FuncData} (F:Fun K "least_tie" "least_tie" zr f fd) (F_stands_for:Fn P w K mg base 3 "stands_for" ["case","term"] (J0 C)) (F_more_than:Fn P w K mg base 1 "more_than" ["stood_for","d"] qg) (F_at_most:Fn P w K mg base 1 "at_most" ["one","other"] yr):FnOk P w K mg base CX0 4 f fd ["case","least"] (Kq C):=by
 have sc:FnScope ["case","least","a","b","c"] ["case","least"] (jp zr):=fQ
 refine F.okZ sc (fun vs H Q E h=>?_) (fun cdv A outer s H vs Q E hr h=>?_)
 ·obtain ⟨n,A,c,a,b,k,v,rfl,_⟩:=h
  rfl
 obtain ⟨n,B,c,a,b,k,v,rfl,I,hn,hv,q⟩:=h
 refine ⟨_,(jd (qx (qf YV (zpv 1) (qp jc) q8) (kU rfl (jE (jC (i:=2) sc.nd rfl oQ) (jE (jC (i:=3) sc.nd rfl oQ) (jE (jC (i:=4) sc.nd rfl oQ) kD)))))
   (jh (jx (ji F_at_most hr (ja (ji F_more_than hr (ja (ji F_stands_for hr (ja (zpv 0) (ja (zpv 3) jb))) (ja (zpv 4) jb))) (ja (ji F_stands_for hr (ja (zpv 0) (ja (zpv 2) jb))) jb)))))),?_⟩
 refine jI (σ':=[some (.ref B.o),some v,none,none,none]) rfl ?_
 obtain ⟨t,va,vb,rfl,ht,ha,hb⟩:=qC hv
 refine ⟨_,rfl,_,rfl,t,_,rfl,SqT.of ht,(fun h=>absurd h.1 (by show ¬ (HT.sIx 4 0 (some 1)=0);decide)),fun t' ht'=>?_⟩
 have s1:=jj ht' (.tup (qZ [.str "least",va,vb,.int k] (some 1) none))
 have e1:upd H t' (.tup (qZ [.str "least",va,vb,.int k] (some 1) none)) t'=some (.tup [va,vb,.int k]):=jg
 generalize upd H t' (.tup (qZ [.str "least",va,vb,.int k] (some 1) none))=H1 at *
 refine ⟨t',_,rfl,SqT.of e1,rfl,_,_,rfl,_,_,rfl,_,_,rfl,rfl,?_⟩
 refine jI (σ':=[some (.ref B.o),some (.ref t),some va,some vb,some (.int k)]) rfl ?_
 refine ⟨_,rfl,_,rfl,n,B,c,b,vb,rfl,I.same s1,by omega,hb.mono s1,fun x H2 m2 I2 hx=>?_⟩
 have t2:=(I.same s1).tk m2
 refine ⟨_,rfl,x,k,_,rfl,hx,fun y H3 s3 hy=>?_⟩
 refine ⟨_,rfl,_,rfl,n+2,B,_,a,va,rfl,I2.same s3,by omega,(t2.held (ha.mono s1)).mono s3,fun z H4 m4 I4 hz=>?_⟩
 have t4:=(I2.same s3).tk m4
 refine ⟨y,z,_,_,rfl,t4.held hy,hz,fun u H5 s5 hu=>?_⟩
 exact q u H5 (((Mv.same s1).trans m2).trans (((Mv.same s3).trans m4).trans (.same s5))) (I4.same s5) hu
theorem jd4 {f:Addr} {fd:FuncData} (F:Fun K "body_of" "body_of" yX f fd) (F_version_of:Fn P w K mg base 1 "version_of" ["case","r"] (Ym C)) (F_number_stands_for:Fn P w K mg base 1 "number_stands_for" ["case","x"] (jbf C)):FnOk P w K mg base CX0 2 f fd ["case","claim"] (YS C):=by
 have sc:FnScope ["case","claim","r","way","b","c","version"] ["case","claim"] (jp yX):=fQ
 refine F.okZ sc (fun vs H Q E h=>?_) (fun cdv A outer s H vs Q E hr h=>?_)
 ·obtain ⟨n,A,c,t,u,td,ud,r,way,b,k,v,rfl,_⟩:=h
  rfl
 obtain ⟨n,B,c,t,u,td,ud,r,way,b,k,v,rfl,I,hn,hv,q⟩:=h
 refine ⟨_,(jd (qx (qf YV (zpv 1) (qp jc) q8) (kU rfl (jE (jC (i:=2) sc.nd rfl oQ) (jE (jC (i:=3) sc.nd rfl oQ) (jE (jC (i:=4) sc.nd rfl oQ) (jE (jC (i:=5) sc.nd rfl oQ) kD))))))
   (jd (jv (i:=6) sc.nd rfl oQ (ji F_version_of hr (ja (zpv 0) (ja (zpv 2) jb))))
   (jd (jL (jy j8 (jm ju (zpv 4) jc (fun _ _=>rfl)) jl (jH _)) (jh (jx (jW (ja (zpv 6) (ja (zpv 3) (ja (jW (ja jl (ja (ji F_version_of hr (ja (zpv 0) (ja (jm ju (zpv 4) jc (fun _ _=>rfl)) jb))) jb))) (ja (zpv 5) jb))))))) jG)
   (jh (jx (jW (ja (zpv 6) (ja (zpv 3) (ja (jW (ja jl (ja (ji F_number_stands_for hr (ja (zpv 0) (ja (jm ju (zpv 4) jc (fun _ _=>rfl)) jb))) jb))) (ja (zpv 5) jb)))))))))),?_⟩
 refine jI (σ':=[some (.ref B.o),some v,none,none,none,none,none]) rfl ?_
 obtain ⟨t,va,vb,x,rfl,ht,_,_,hb⟩:=zh hv
 refine ⟨_,rfl,_,rfl,t,_,rfl,SqT.of ht,(fun h=>absurd h.1 (by show ¬ (HT.sIx 7 0 (some 3)=0);decide)),fun t' ht'=>?_⟩
 have s1:=jj ht' (.tup (qZ [.str "each",.ref va,.ref vb,.str r,.str way,.ref x,.int k] (some 3) none))
 have e1:upd H t' (.tup (qZ [.str "each",.ref va,.ref vb,.str r,.str way,.ref x,.int k] (some 3) none)) t'=some (.tup [.str r,.str way,.ref x,.int k]):=jg
 generalize upd H t' (.tup (qZ [.str "each",.ref va,.ref vb,.str r,.str way,.ref x,.int k] (some 3) none))=H1 at *
 refine ⟨t',_,rfl,SqT.of e1,rfl,_,_,rfl,_,_,rfl,_,_,rfl,_,_,rfl,rfl,?_⟩
 refine jI (σ':=[some (.ref B.o),some (.ref t),some (.str r),some (.str way),some (.ref x),some (.int k),none]) rfl ?_
 refine ⟨_,rfl,_,rfl,n,B,c,r,rfl,I.same s1,by omega,fun y H2 m2 I2 hy=>?_⟩
 refine jI (σ':=[some (.ref B.o),some (.ref t),some (.str r),some (.str way),some (.ref x),some (.int k),some y]) rfl ?_
 have t2:=(I.same s1).tk m2
 have M2:=(Mv.same s1).trans m2
 have ha:=t2 _ _ (s1 _ _ hb)
 rcases b with x' | r'
 ·refine ⟨_,rfl,x,_,_,_,rfl,rfl,SqT.of ha,jf (j:=0) rfl,rfl,_,rfl,kh ?_⟩
  refine ⟨_,rfl,_,rfl,_,rfl,_,rfl,x,_,_,_,rfl,rfl,SqT.of ha,jf (j:=1) rfl,n+1,B,_,x',rfl,I2,fun z H3 s3 hz=>⟨sm rfl,fun p hp=>⟨_,rfl,sm rfl,fun o ho=>?_⟩⟩⟩
  have s4:=jj hp (.tup [.str "is",z])
  have s5:=jj ho (.tup [y,.str way,.ref p,.int k])
  have S:=(s3.trans s4).trans s5
  exact q _ _ (M2.trans (.same S)) ((I2.same S).mono (by omega)) (jP jg (je (hy.mono S) (je jA (je (jP (s5 _ _ jg) (je jA (je (hz.mono (s4.trans s5)) jw))) (je jK jw)))))
 ·refine ⟨_,rfl,x,_,_,_,rfl,rfl,SqT.of ha,jf (j:=0) rfl,rfl,_,rfl,kO ?_⟩
  refine ⟨_,rfl,_,rfl,_,rfl,_,rfl,x,_,_,_,rfl,rfl,SqT.of ha,jf (j:=1) rfl,n+1,B,_,r',rfl,I2,by omega,fun z H3 m3 I3 hz=>⟨sm rfl,fun p hp=>⟨_,rfl,sm rfl,fun o ho=>?_⟩⟩⟩
  have t3:=I2.tk m3
  have s4:=jj hp (.tup [.str "row",z])
  have s5:=jj ho (.tup [y,.str way,.ref p,.int k])
  have S:=s4.trans s5
  exact q _ _ (M2.trans (m3.trans (.same S))) (I3.same S) (jP jg (je ((t3.held hy).mono S) (je jA (je (jP (s5 _ _ jg) (je jA (je (hz.mono S) jw))) (je jK jw)))))
theorem zR {H:Hp} {a b c d:D} {v:V} (h:Held H (.tup [a,b,c,d]) v):∃ t x y z u,v=.ref t∧H t=some (.tup [x,y,z,u])∧Held H a x∧Held H b y∧Held H c z∧Held H d u:=by
 obtain ⟨t,xs,rfl,ht,hx⟩:=jQ h
 obtain ⟨x,r,rfl,h1,h2⟩:=jk hx
 obtain ⟨y,r,rfl,h3,h4⟩:=jk h2
 obtain ⟨z,r,rfl,h5,h6⟩:=jk h4
 obtain ⟨u,r,rfl,h7,h8⟩:=jk h6
 cases jO h8
 exact ⟨t,x,y,z,u,rfl,ht,h1,h3,h5,h7⟩
theorem ql {H:Hp} {a b:D} {v:V} (h:Held H (.tup [a,b]) v):∃ t x y,v=.ref t∧H t=some (.tup [x,y])∧Held H a x∧Held H b y:=by
 obtain ⟨t,xs,rfl,ht,hx⟩:=jQ h
 obtain ⟨x,r,rfl,h1,h2⟩:=jk hx
 obtain ⟨y,r,rfl,h3,h4⟩:=jk h2
 cases jO h4
 exact ⟨t,x,y,rfl,ht,h1,h3⟩
theorem jd3 {f:Addr} {fd:FuncData} (F:Fun K "body_tie" "body_tie" yh f fd) (F_entry_of:Fn P w K mg base 1 "entry_of" ["version","spot"] yq) (F_more_than:Fn P w K mg base 1 "more_than" ["stood_for","d"] qg) (F_at_most:Fn P w K mg base 1 "at_most" ["one","other"] yr):FnOk P w K mg base CX0 2 f fd ["body","spot"] jbj:=by
 have sc:FnScope ["body","spot","version","way","b","c","held","bound"] ["body","spot"] (jp yh):=fQ
 refine F.okZ sc (fun vs H Q E h=>?_) (fun cdv A outer s H vs Q E hr h=>?_)
 ·obtain ⟨c,r,way,b,k,s,v,u,rfl,_⟩:=h
  rfl
 obtain ⟨c,r,way,b,k,p,v,u,rfl,hv,hu,q⟩:=h
 refine ⟨_,(jd (qx (zpv 0) (kU rfl (jE (jC (i:=2) sc.nd rfl oQ) (jE (jC (i:=3) sc.nd rfl oQ) (jE (jC (i:=4) sc.nd rfl oQ) (jE (jC (i:=5) sc.nd rfl oQ) kD))))))
   (jd (jv (i:=6) sc.nd rfl oQ (ji F_entry_of hr (ja (zpv 2) (ja (zpv 1) jb))))
   (jd (jv (i:=7) sc.nd rfl oQ (jm ju (zpv 4) jc (fun _ _=>rfl)))
   (jd (yJ (jL (jy j8 (jm ju (zpv 4) jc (fun _ _=>rfl)) jl (jH _)) (jh (jv (i:=7) sc.nd rfl oQ (ji F_entry_of hr (ja (jm ju (zpv 4) jc (fun _ _=>rfl)) (ja (zpv 1) jb))))) jG))
   (jd (jL (jy j8 (zpv 3) jl (jH _)) (jh (jx (ji F_at_most hr (ja (ji F_more_than hr (ja (zpv 7) (ja (zpv 5) jb))) (ja (zpv 6) jb))))) jG)
   (jh (jx (ji F_at_most hr (ja (zpv 6) (ja (ji F_more_than hr (ja (zpv 7) (ja (zpv 5) jb))) jb)))))))))),?_⟩
 refine jI (σ':=[some v,some u,none,none,none,none,none,none]) rfl ?_
 have key:∃ bd,(c.body r way b k).1=jhg (c.ver r) way bd k∧((bd=.tup [.str "is",p2 (c.bnd b p)] )∨∃ d,bd=.tup [.str "row",d]∧c.bnd b p=qb d p):=by
  cases b with
  | is x=>exact ⟨_,rfl,.inl rfl⟩
  | row x=>exact ⟨_,rfl,.inr ⟨_,rfl,rfl⟩⟩
 obtain ⟨bd,e0,hbd⟩:=key
 rw [e0] at hv
 obtain ⟨t,x1,x2,x3,x4,rfl,ht,g1,g2,g3,g4⟩:=zR hv
 cases js g2
 cases j9 g4
 refine ⟨_,rfl,t,_,rfl,SqT.of ht,rfl,_,_,rfl,_,_,rfl,_,_,rfl,_,_,rfl,rfl,?_⟩
 refine jI (σ':=[some (.ref t),some u,some x1,some (.str way),some x3,some (.int k),none,none]) rfl ?_
 refine ⟨_,rfl,_,rfl,x1,u,_,_,rfl,g1,hu,fun y H1 s1 hy=>?_⟩
 refine jI (σ':=[some (.ref t),some u,some x1,some (.str way),some x3,some (.int k),some y,none]) rfl ?_
 have two:∃ t3 a x5,x3=.ref t3∧H t3=some (.tup [.str a,x5])∧((a = "is"∧Held H (p2 (c.bnd b p)) x5)∨(a = "row"∧∃ d,Held H d x5∧c.bnd b p=qb d p)):=by
  rcases hbd with rfl | ⟨d,rfl,e⟩ <;> obtain ⟨t3,a,x5,e1,e2,e3,e4⟩:=ql g3 <;> cases js e3
  ·exact ⟨t3,_,x5,e1,e2,.inl ⟨rfl,e4⟩⟩
  ·exact ⟨t3,_,x5,e1,e2,.inr ⟨rfl,d,e4,e⟩⟩
 obtain ⟨t3,a,x5,rfl,h3,hor⟩:=two
 refine ⟨_,rfl,t3,_,_,_,rfl,rfl,SqT.of (s1 _ _ h3),jf (j:=1) rfl,?_⟩
 refine jI (σ':=[some (.ref t),some u,some x1,some (.str way),some (.ref t3),some (.int k),some y,some x5]) rfl ?_
 refine ⟨fun σ' G=>∃ z,σ'=[some (.ref t),some u,some x1,some (.str way),some (.ref t3),some (.int k),some y,some z]∧Same H1 G∧Held G (p2 (c.bnd b p)) z,?_,?_⟩
 ·rcases hor with ⟨rfl,h5⟩ | ⟨rfl,d,h5,e5⟩
  ·exact ⟨_,rfl,t3,_,_,_,rfl,rfl,SqT.of (s1 _ _ h3),jf (j:=0) rfl,rfl,_,rfl,kh ⟨x5,rfl,fun _ _ e=>e,h5.mono s1⟩⟩
  ·refine ⟨_,rfl,t3,_,_,_,rfl,rfl,SqT.of (s1 _ _ h3),jf (j:=0) rfl,rfl,_,rfl,kO ?_⟩
   exact ⟨_,rfl,t3,_,_,_,rfl,rfl,SqT.of (s1 _ _ h3),jf (j:=1) rfl,_,rfl,x5,u,d,p,rfl,h5.mono s1,hu.mono s1,fun z G sG hz=>⟨z,rfl,sG,by rw [e5];exact hz⟩⟩
 ·rintro σ' G ⟨z,rfl,sG,hz⟩
  have hy':=hy.mono sG
  unfold zB at q
  refine ⟨_,rfl,rfl,_,rfl,zD (fun d=>?_) (fun d=>?_)⟩
  ·rw [if_pos (V.str.inj (of_decide_eq_true d))] at q
   exact ⟨_,rfl,_,rfl,z,k,_,rfl,hz,fun v G1 s2 hv=>⟨_,rfl,v,y,_,_,rfl,hv,hy'.mono s2,fun r G2 s3 hr=>q r G2 (s1.trans (sG.trans (s2.trans s3))) hr⟩⟩
  ·rw [if_neg (fun e=>d (decide_eq_true (congrArg V.str e)))] at q
   exact ⟨_,rfl,_,rfl,_,rfl,z,k,_,rfl,hz,fun v G1 s2 hv=>⟨y,v,_,_,rfl,hy'.mono s2,hv,fun r G2 s3 hr=>q r G2 (s1.trans (sG.trans (s2.trans s3))) hr⟩⟩
end
abbrev ze:Stmt:=top 13
abbrev jbo:Stmt:=top 14
def jgd (C:Addr):Sp:=fun vs H Q _=>∃ (n:Nat) (A:CA) (c:Cs) (i:Nat) (r x:Str) (d:Int) (t:Tm) (k:Int) (v:V),vs=[.ref A.o,.int (i:Nat),v]∧CsAt C n A c H∧n≤840∧Held H (Rw.put r x d t k).toD v∧∀ H',Mv A H H'→CsAt C (n+8) A (c.take i (.put r x d t k)) H'→Q .non H'
def jdh (C:Addr):Sp:=fun vs H Q _=>∃ (n:Nat) (A:CA) (c:Cs) (K:Cl) (v:V),vs=[.ref A.o,v]∧CsAt C n A c H∧n≤840∧Held H K.toD v∧∀ H',Mv A H H'→CsAt C (n+8) A (c.know K) H'→Q .non H'
theorem Jh {H:Hp} {a b c d e:D} {v:V} (h:Held H (.tup [a,b,c,d,e]) v):∃ t x y z u w,v=.ref t∧H t=some (.tup [x,y,z,u,w])∧Held H a x∧Held H b y∧Held H c z∧Held H d u∧Held H e w:=by
 obtain ⟨t,xs,rfl,ht,hx⟩:=jQ h
 obtain ⟨x,r,rfl,h1,h2⟩:=jk hx
 obtain ⟨y,r,rfl,h3,h4⟩:=jk h2
 obtain ⟨z,r,rfl,h5,h6⟩:=jk h4
 obtain ⟨u,r,rfl,h7,h8⟩:=jk h6
 obtain ⟨w,r,rfl,h9,h10⟩:=jk h8
 cases jO h10
 exact ⟨t,x,y,z,u,w,rfl,ht,h1,h3,h5,h7,h9⟩
section
variable {P:Program} {w:World} {K:W.Frag} {mg:Str→Option Value} {base:Heap} {C:Addr}
theorem jfr {f:Addr} {fd:FuncData} (T:ClsC K C) (F:Fun K "take_put" "take_put" ze f fd) (F_spot_of:Fn P w K mg base 2 "spot_of" ["case","place"] (Kp C)) (F_stands_for:Fn P w K mg base 3 "stands_for" ["case","term"] (J0 C)) (F_more_than:Fn P w K mg base 1 "more_than" ["stood_for","d"] qg) (F_version_of:Fn P w K mg base 1 "version_of" ["case","r"] (Ym C)) (F_entry_of:Fn P w K mg base 1 "entry_of" ["version","spot"] yq) (F_alike:Fn P w K mg base 2 "alike" ["one","other"] jdg):FnOk P w K mg base CX0 4 f fd ["case","n","row"] (jgd C):=by
 have sc:FnScope ["case","n","row","r","place","a","c","spot","value","ahead","behind"] ["case","n","row"] (jp ze):=fQ
 refine F.okZ sc (fun vs H Q E h=>?_) (fun cdv A outer s H vs Q E hr h=>?_)
 ·obtain ⟨n,A,c,i,r,x,d,t,k,v,rfl,_⟩:=h
  rfl
 have hu:(A.deeper (PyProof.Rows.envOfC "take_put" (jp ze) s.heap.objs.size f cdv)).units+1 < cLine:=by have:=hr.units;omega
 obtain ⟨n,B,c,i,r,x,d,t,k,v,rfl,I,hn,hv,q⟩:=h
 refine ⟨_,(jd (qx (qf YV (zpv 2) (qp jc) q8) (kU rfl (jE (jC (i:=3) sc.nd rfl oQ) (jE (jC (i:=4) sc.nd rfl oQ) (jE (jC (i:=5) sc.nd rfl oQ) (jE (jC (i:=6) sc.nd rfl oQ) kD))))))
   (jd (jv (i:=7) sc.nd rfl oQ (ji F_spot_of hr (ja (zpv 0) (ja (zpv 4) jb))))
   (jd (jv (i:=8) sc.nd rfl oQ (ji F_more_than hr (ja (ji F_stands_for hr (ja (zpv 0) (ja (zpv 5) jb))) (ja (zpv 6) jb))))
   (jd (jv (i:=9) sc.nd rfl oQ (ji F_version_of hr (ja (zpv 0) (ja (zpv 3) jb))))
   (jd (jv (i:=10) sc.nd rfl oQ (zpd (jX (jr kz (jr (ke 1) jN)))))
   (jd (jz (ko PySem.F.plainAttrs_list PySem.F.slot_list_append PySem.F.type_list_append j0 (jZ (zpv 0) rfl) (ja (zpv 7) jb)))
   (jd (jz (ko PySem.F.plainAttrs_list PySem.F.slot_list_append PySem.F.type_list_append j0 (jZ (zpv 0) rfl) (ja (zpd (jX (jr (ke 7) (jr (ke 9) (jr (ke 8) (jr (ke 10) jN)))))) jb)))
   (jd (jz (ko PySem.F.plainAttrs_list PySem.F.slot_list_extend PySem.F.type_list_extend yi (jZ (zpv 0) rfl) (ja (ji F_alike hr (ja (ji F_entry_of hr (ja (zpv 10) (ja (zpv 7) jb))) (ja (zpv 8) jb))) jb)))
   (jh (kg hu (jZ (zpv 0) rfl) (zpv 3) (zpv 10) rfl)))))))))),?_⟩
 refine jI (σ':=[some (.ref B.o),some (.int i),some v,none,none,none,none,none,none,none,none]) rfl ?_
 try dsimp only [yp]
 refine jei ?_
 intro _ _ _ _ _ _ _ _
 obtain ⟨t0,x0,x1,x2,x3,x4,rfl,ht,h0,h1,h2,h3,h4⟩:=Jh hv
 cases js h0
 cases js h1
 cases j9 h4
 refine ⟨_,rfl,_,rfl,t0,_,rfl,SqT.of ht,(fun h=>absurd h.1 (by show ¬ (HT.sIx 5 0 (some 1)=0);decide)),fun t' ht'=>?_⟩
 have s1:=jj ht' (.tup (qZ [.str "put",.str r,x2,x3,.int k] (some 1) none))
 have e1:upd H t' (.tup (qZ [.str "put",.str r,x2,x3,.int k] (some 1) none)) t'=some (.tup [.str r,x2,x3,.int k]):=jg
 generalize upd H t' (.tup (qZ [.str "put",.str r,x2,x3,.int k] (some 1) none))=H1 at *
 refine ⟨t',_,rfl,SqT.of e1,rfl,_,_,rfl,_,_,rfl,_,_,rfl,_,_,rfl,rfl,?_⟩
 refine jI (σ':=[some (.ref B.o),some (.int i),some (.ref t0),some (.str r),some x2,some x3,some (.int k),none,none,none,none]) rfl ?_
 have I1:=I.same s1
 refine ⟨_,rfl,_,rfl,n,B,c,x,d,x2,rfl,I1,h2.mono s1,fun sp H2 s2 hsp=>?_⟩
 refine jI (σ':=[some (.ref B.o),some (.int i),some (.ref t0),some (.str r),some x2,some x3,some (.int k),some sp,none,none,none]) rfl ?_
 have I2:=I1.same s2
 refine ⟨_,rfl,_,rfl,n,B,c,t,x3,rfl,I2,by omega,(h3.mono s1).mono s2,fun y H3 m3 I3 hy=>⟨_,rfl,y,k,_,rfl,hy,fun va H4 s4 hva=>?_⟩⟩
 refine jI (σ':=[some (.ref B.o),some (.int i),some (.ref t0),some (.str r),some x2,some x3,some (.int k),some sp,some va,none,none]) rfl ?_
 have hsp4:=((I2.tk m3).held hsp).mono s4
 have M4:=((Mv.same (A:=B) s1).trans (.same s2)).trans (m3.trans (.same s4))
 have I4:=I3.same s4
 refine ⟨_,rfl,_,rfl,n+2,B,_,r,rfl,I4,by omega,fun ah H5 m5 I5 hah=>?_⟩
 refine jI (σ':=[some (.ref B.o),some (.int i),some (.ref t0),some (.str r),some x2,some x3,some (.int k),some sp,some va,some ah,none]) rfl ?_
 have t5:=I4.tk m5
 refine ⟨yo i,⟨_,rfl,Nat.le_of_ble_eq_true rfl,_,_,rfl,rfl,_,_,rfl,⟨_,rfl,jK⟩,rfl⟩,fun be H6 s6 hbe=>?_⟩
 refine jI (σ':=[some (.ref B.o),some (.int i),some (.ref t0),some (.str r),some x2,some x3,some (.int k),some sp,some va,some ah,some be]) rfl ?_
 have I6:=I5.same s6
 have hsp6:=(t5.held hsp4).mono s6
 have hva6:=(t5.held hva).mono s6
 have hah6:=hah.mono s6
 have M6:=M4.trans (m5.trans (.same s6))
 clear hsp hsp4 hva hah M4 I5 I4
 obtain ⟨xs,l1,_,l3⟩:=I6.l 2 (by decide)
 refine ⟨_,rfl,B.o,C,B.dx,_,_,rfl,I6.o,T.c,T.n6,rfl,.inl ⟨rfl,_,SqL.of l1⟩,_,rfl,B.l 2,xs,sp,rfl,rfl,l1,kG (by omega),?_⟩
 obtain ⟨m7,I7⟩:=I6.app1 (i:=2) (by decide) hsp6 l1
 have t7:=I6.tk m7
 generalize upd H6 (B.l 2) _=H7 at *
 have hsp7:=t7.held hsp6
 have hva7:=t7.held hva6
 have hah7:=t7.held hah6
 have hbe7:=t7.held hbe
 obtain ⟨ys,l4,_,l6⟩:=I7.l 3 (by decide)
 refine ⟨_,rfl,B.o,C,B.dx,_,_,rfl,I7.o,T.c,T.n7,rfl,.inl ⟨rfl,_,SqL.of l4⟩,.tup [p2 (c.spot x d),(c.stand t).2.ver r,p2 (mor (c.stand t).1 k),yo i],⟨_,rfl,Nat.le_of_ble_eq_true rfl,_,_,rfl,⟨_,rfl,hsp7⟩,_,_,rfl,⟨_,rfl,hah7⟩,_,_,rfl,⟨_,rfl,hva7⟩,_,_,rfl,⟨_,rfl,hbe7⟩,rfl⟩,fun u H8 s8 hu8=>⟨B.l 3,ys,u,rfl,rfl,s8 _ _ l4,kG (by omega),?_⟩⟩
 have I8:=I7.same s8
 obtain ⟨m9,I9⟩:=I8.app1 (i:=3) (by decide) hu8 (s8 _ _ l4)
 have t9:=(TK.same s8).trans (I8.tk m9)
 generalize upd H8 (B.l 3) _=H9 at *
 have hsp9:=t9.held hsp7
 have hva9:=t9.held hva7
 have hbe9:=t9.held hbe7
 have M9:=M6.trans (m7.trans ((Mv.same s8).trans m9))
 clear hsp7 hva7 hah7 hbe7 hsp6 hva6 hah6 M6 I6 I7 I8
 obtain ⟨zs,l7,_,l9⟩:=I9.l 1 (by decide)
 refine ⟨_,rfl,B.o,C,B.dx,_,_,rfl,I9.o,T.c,T.n5,rfl,.inl ⟨rfl,_,SqL.of l7⟩,_,rfl,_,rfl,be,sp,_,_,rfl,hbe9,hsp9,fun e1 H10 s10 he=>⟨_,rfl,e1,va,_,_,rfl,he,hva9.mono s10,fun lk z1 z2 H11 s11 hlk hz1 hz2=>?_⟩⟩
 have s12:=s10.trans s11
 have I11:=I9.same s12
 refine ⟨B.l 1,lk,zs,_,rfl,rfl,s12 _ _ l7,hlk,zL (by show zs.length+2≤1000;omega),?_⟩
 obtain ⟨m12,I12⟩:=I11.app (i:=1) (by decide) (je hz1 (je hz2 jw)) (s12 _ _ l7)
 have hbe12:=((TK.same s12).trans (I11.tk m12)).held hbe9
 generalize upd H11 (B.l 1) _=H12 at *
 obtain ⟨kvs,k1,k2,_⟩:=I12.ve
 have k3:kvs.length≤900:=by
  have:kvs.length≤n+2+1+1+1+2:=k2
  omega
 refine ⟨_,rfl,_,rfl,B.o,C,B.dx,_,_,rfl,I12.o,T.c,T.n2,rfl,_,rfl,B.ve,_,rfl,.k (k:=.inr r) k1 (kG k3),?_⟩
 obtain ⟨m13,I13⟩:=I12.setv (r:=r) hbe12 k1
 exact q _ (M9.trans ((Mv.same s12).trans (m12.trans m13))) I13
end
theorem ku {H:Hp} {x:Str} {d:Int} {a:Addr} (h:H a=some (.tup [.str x,.int d])):Held H (plD x d) (.ref a):=jP h (je jA (je jK jw))
section
variable {P:Program} {w:World} {K:W.Frag} {mg:Str→Option Value} {base:Heap} {C:Addr}
theorem jfx {f:Addr} {fd:FuncData} (T:ClsC K C) (F:Fun K "know" "know" jbo f fd) (F_least_tie:Fn P w K mg base 4 "least_tie" ["case","least"] (Kq C)) (F_spot_of:Fn P w K mg base 2 "spot_of" ["case","place"] (Kp C)) (F_body_of:Fn P w K mg base 2 "body_of" ["case","claim"] (YS C)) (F_version_of:Fn P w K mg base 1 "version_of" ["case","r"] (Ym C)):FnOk P w K mg base CX0 5 f fd ["case","claim"] (jdh C):=by
 have sc:FnScope ["case","claim","t","u"] ["case","claim"] (jp jbo):=fQ
 refine F.okZ sc (fun vs H Q E h=>?_) (fun cdv A outer s H vs Q E hr h=>?_)
 ·obtain ⟨n,A,c,K,v,rfl,_⟩:=h
  rfl
 obtain ⟨n,B,c,k,v,rfl,I,hn,hv,q⟩:=h
 refine ⟨_,(jd (jL (jy j8 (jm ju (zpv 1) jc (fun _ _=>rfl)) jl (jH _)) (jd (jz (ko PySem.F.plainAttrs_list PySem.F.slot_list_append PySem.F.type_list_append j0 (jZ (zpv 0) rfl) (ja (ji F_least_tie hr (ja (zpv 0) (ja (zpv 1) jb))) jb)))
   (jh q5)) jG)
   (jd (ja0 (i:=2) (j:=3) rfl sc.nd rfl rfl (by decide) rfl rfl (ja (ji F_spot_of hr (ja (zpv 0) (ja (jm ju (zpv 1) jc (fun _ _=>rfl)) jb))) (ja (ji F_spot_of hr (ja (zpv 0) (ja (jm ju (zpv 1) jc (fun _ _=>rfl)) jb))) jb)) rfl)
   (jd (jz (ko PySem.F.plainAttrs_list PySem.F.slot_list_append PySem.F.type_list_append j0 (jZ (zpv 0) rfl) (ja (zpv 2) jb)))
   (jh (jL (jy j8 (jm ju (zpv 1) jc (fun _ _=>rfl)) jl (jH _)) (jh (jz (ko PySem.F.plainAttrs_list PySem.F.slot_list_append PySem.F.type_list_append j0 (jZ (zpv 0) rfl) (ja (jW (ja (zpv 2) (ja (zpv 3) (ja (ji F_body_of hr (ja (zpv 0) (ja (zpv 1) jb))) jb)))) jb)))) (jh (jz (ko PySem.F.plainAttrs_list PySem.F.slot_list_append PySem.F.type_list_append j0 (jZ (zpv 0) rfl) (ja (jW (ja (zpv 2) (ja (zpv 3) (ja (ji F_version_of hr (ja (zpv 0) (ja (jm ju (zpv 1) jc (fun _ _=>rfl)) jb))) jb)))) jb))))))))),?_⟩
 refine jI (σ':=[some (.ref B.o),some v,none,none]) rfl ?_
 try dsimp only [yp]
 refine jh6 ?_
 intro _ _ _
 rcases k with ⟨a,b,k⟩ | ⟨x,d,y,e,r,way,b,k⟩ | ⟨x,d,y,e,r⟩
 ·obtain ⟨t,va,vb,rfl,ht,_,_⟩:=qC hv
  refine ⟨_,rfl,t,_,_,_,rfl,rfl,SqT.of ht,jf (j:=0) rfl,rfl,_,rfl,kO ?_⟩
  obtain ⟨xs,l1,_,_⟩:=I.l 1 (by decide)
  refine ⟨_,rfl,B.o,C,B.dx,_,_,rfl,I.o,T.c,T.n5,rfl,.inl ⟨rfl,_,SqL.of l1⟩,_,rfl,_,rfl,n,B,c,a,b,k,_,rfl,I,by omega,hv,fun y H1 m1 I1 hy=>?_⟩
  obtain ⟨ys,l2,_,l3⟩:=I1.l 1 (by decide)
  obtain ⟨m2,I2⟩:=I1.app1 (i:=1) (by decide) hy l2
  exact ⟨B.l 1,ys,y,rfl,rfl,l2,kG (by omega),q _ (m1.trans m2) (I2.mono (by omega))⟩
 ·obtain ⟨t,va,vb,vc,rfl,ht,ha,hb,hc⟩:=zh hv
  refine ⟨_,rfl,t,_,_,_,rfl,rfl,SqT.of ht,jf (j:=0) rfl,rfl,_,rfl,kh ?_⟩
  refine ⟨_,rfl,_,rfl,t,_,_,_,rfl,rfl,SqT.of ht,jf (j:=1) rfl,n,B,c,x,d,_,rfl,I,ku ha,fun sp H1 s1 hsp=>?_⟩
  refine ⟨_,rfl,_,rfl,t,_,_,_,rfl,rfl,SqT.of (s1 _ _ ht),jf (j:=2) rfl,n,B,c,y,e,_,rfl,I.same s1,ku (s1 _ _ hb),fun su H2 s2 hsu=>⟨sp,su,rfl,?_⟩⟩
  refine jI (σ':=[some (.ref B.o),some (.ref t),some sp,some su]) rfl ?_
  have s3:=s1.trans s2
  have I2:=I.same s3
  have hsp2:=hsp.mono s2
  obtain ⟨xs,l1,_,l3⟩:=I2.l 2 (by decide)
  refine ⟨_,rfl,B.o,C,B.dx,_,_,rfl,I2.o,T.c,T.n6,rfl,.inl ⟨rfl,_,SqL.of l1⟩,_,rfl,B.l 2,xs,sp,rfl,rfl,l1,kG (by omega),?_⟩
  obtain ⟨m4,I4⟩:=I2.app1 (i:=2) (by decide) hsp2 l1
  have t4:=I2.tk m4
  generalize upd H2 (B.l 2) _=H4 at *
  have ht4:=t4 _ _ (s3 _ _ ht)
  refine ⟨_,rfl,t,_,_,_,rfl,rfl,SqT.of ht4,jf (j:=0) rfl,rfl,_,rfl,kO ?_⟩
  obtain ⟨ys,l4,_,_⟩:=I4.l 4 (by decide)
  refine ⟨_,rfl,B.o,C,B.dx,_,_,rfl,I4.o,T.c,T.n8,rfl,.inl ⟨rfl,_,SqL.of l4⟩,_,rfl,_,rfl,_,rfl,_,rfl,n+1,B,_,x,y,d,e,r,way,b,k,_,rfl,I4,by omega,t4.held (hv.mono s3),fun bo H5 m5 I5 hbo=>⟨sm rfl,fun p hp=>?_⟩⟩
  have t5:=I4.tk m5
  have s6:=jj hp (.tup [sp,su,bo])
  have h6:Held (upd H5 p (.tup [sp,su,bo])) (.tup [p2 (c.spot x d),p2 (c.spot y e),((c.add 2 [p2 (c.spot x d)]).body r way b k).1]) (.ref p):=jP jg (je ((t5.held (t4.held hsp2)).mono s6) (je ((t5.held (t4.held hsu)).mono s6) (je (hbo.mono s6) jw)))
  have I6:=I5.same s6
  obtain ⟨zs,l5,_,l6⟩:=I6.l 4 (by decide)
  obtain ⟨m7,I7⟩:=I6.app1 (i:=4) (by decide) h6 l5
  exact ⟨B.l 4,zs,_,rfl,rfl,l5,kG (by omega),q _ (((Mv.same s3).trans m4).trans (m5.trans ((Mv.same s6).trans m7))) (I7.mono (by omega))⟩
 ·obtain ⟨t,va,vb,rfl,ht,ha,hb⟩:=y6 hv
  refine ⟨_,rfl,t,_,_,_,rfl,rfl,SqT.of ht,jf (j:=0) rfl,rfl,_,rfl,kh ?_⟩
  refine ⟨_,rfl,_,rfl,t,_,_,_,rfl,rfl,SqT.of ht,jf (j:=1) rfl,n,B,c,x,d,_,rfl,I,ku ha,fun sp H1 s1 hsp=>?_⟩
  refine ⟨_,rfl,_,rfl,t,_,_,_,rfl,rfl,SqT.of (s1 _ _ ht),jf (j:=2) rfl,n,B,c,y,e,_,rfl,I.same s1,ku (s1 _ _ hb),fun su H2 s2 hsu=>⟨sp,su,rfl,?_⟩⟩
  refine jI (σ':=[some (.ref B.o),some (.ref t),some sp,some su]) rfl ?_
  have s3:=s1.trans s2
  have I2:=I.same s3
  have hsp2:=hsp.mono s2
  obtain ⟨xs,l1,_,l3⟩:=I2.l 2 (by decide)
  refine ⟨_,rfl,B.o,C,B.dx,_,_,rfl,I2.o,T.c,T.n6,rfl,.inl ⟨rfl,_,SqL.of l1⟩,_,rfl,B.l 2,xs,sp,rfl,rfl,l1,kG (by omega),?_⟩
  obtain ⟨m4,I4⟩:=I2.app1 (i:=2) (by decide) hsp2 l1
  have t4:=I2.tk m4
  generalize upd H2 (B.l 2) _=H4 at *
  have ht4:=t4 _ _ (s3 _ _ ht)
  refine ⟨_,rfl,t,_,_,_,rfl,rfl,SqT.of ht4,jf (j:=0) rfl,rfl,_,rfl,kh ?_⟩
  obtain ⟨ys,l4,_,_⟩:=I4.l 5 (by decide)
  refine ⟨_,rfl,B.o,C,B.dx,_,_,rfl,I4.o,T.c,T.n9,rfl,.inl ⟨rfl,_,SqL.of l4⟩,_,rfl,_,rfl,_,rfl,_,rfl,t,_,_,_,rfl,rfl,SqT.of ht4,jf (j:=3) rfl,n+1,B,_,r,rfl,I4,by omega,fun bo H5 m5 I5 hbo=>⟨sm rfl,fun p hp=>?_⟩⟩
  have t5:=I4.tk m5
  have s6:=jj hp (.tup [sp,su,bo])
  have h6:Held (upd H5 p (.tup [sp,su,bo])) (.tup [p2 (c.spot x d),p2 (c.spot y e),c.ver r]) (.ref p):=jP jg (je ((t5.held (t4.held hsp2)).mono s6) (je ((t5.held (t4.held hsu)).mono s6) (je (hbo.mono s6) jw)))
  have I6:=I5.same s6
  obtain ⟨zs,l5,_,l6⟩:=I6.l 5 (by decide)
  obtain ⟨m7,I7⟩:=I6.app1 (i:=5) (by decide) h6 l5
  exact ⟨B.l 5,zs,_,rfl,rfl,l5,kG (by omega),q _ (((Mv.same s3).trans m4).trans (m5.trans ((Mv.same s6).trans m7))) (I7.mono (by omega))⟩
end
abbrev jbq:Stmt:=top 15
abbrev zd:Stmt:=top 12
def Own (H:Hp) (o1 o2:Addr):Prop:=Held H (p2 (j4 0)) (.ref o1)∧Held H (p2 (j4 1)) (.ref o2)
theorem Own.tk {H H':Hp} {o1 o2:Addr} (h:Own H o1 o2) (t:TK H H'):Own H' o1 o2:=⟨t.held h.1,t.held h.2⟩
def jdj (C o1 o2:Addr):Sp:=fun vs H Q _=>∃ (n:Nat) (A:CA) (c:Cs) (K:Cl) (v:V),vs=[.ref A.o,v]∧CsAt C n A c H∧n≤840∧Own H o1 o2∧Held H K.toD v∧∀ H',Mv A H H'→CsAt C (n+10) A (c.deny K) H'→Q .non H'
def jdf (C:Addr):Sp:=fun vs H Q _=>∃ (n:Nat) (A:CA) (c:Cs) (i:Nat) (R:Rw) (v:V),vs=[.ref A.o,.int (i:Nat),v]∧CsAt C n A c H∧n≤840∧Held H R.toD v∧∀ H',Mv A H H'→CsAt C (n+8) A (c.take i R) H'→Q .non H'
theorem Yg (v:D) (way:Str) (b:P2) (k:Int) (s:P2):∃ x y c,zB v way b k s=.tup [x,y,.int c]:=by
 unfold zB
 split <;> exact ⟨_,_,_,rfl⟩
section
variable {P:Program} {w:World} {K:W.Frag} {mg:Str→Option Value} {base:Heap} {C o1 o2:Addr}
theorem jfC {f:Addr} {fd:FuncData} (T:ClsC K C) (G1:mg "OWN_PLACE" = some (.ref o1)) (G2:mg "OTHER_OWN_PLACE" = some (.ref o2)) (F:Fun K "deny" "deny" jbq f fd) (F_turned:Fn P w K mg base 1 "turned" ["least"] ZI) (F_least_tie:Fn P w K mg base 4 "least_tie" ["case","least"] (Kq C)) (F_spot_of:Fn P w K mg base 2 "spot_of" ["case","place"] (Kp C)) (F_body_of:Fn P w K mg base 2 "body_of" ["case","claim"] (YS C)) (F_body_tie:Fn P w K mg base 2 "body_tie" ["body","spot"] jbj) (F_at_most:Fn P w K mg base 1 "at_most" ["one","other"] yr) (F_turned_tie:Fn P w K mg base 1 "turned_tie" ["tie"] jbc) (F_version_of:Fn P w K mg base 1 "version_of" ["case","r"] (Ym C)) (F_more_than:Fn P w K mg base 1 "more_than" ["stood_for","d"] qg) (F_entry_of:Fn P w K mg base 1 "entry_of" ["version","spot"] yq):FnOk P w K mg base CX0 5 f fd ["case","goal"] (jdj C o1 o2):=by
 have sc:FnScope ["case","goal","t","u","first","said","second","version","less"] ["case","goal"] (jp jbq):=fQ
 refine F.okZ sc (fun vs H Q E h=>?_) (fun cdv A outer s H vs Q E hr h=>?_)
 ·obtain ⟨n,A,c,K,v,rfl,_⟩:=h
  rfl
 obtain ⟨n,B,c,k,v,rfl,I,hn,ho,hv,q⟩:=h
 refine ⟨_,(jd (jL (jy j8 (jm ju (zpv 1) jc (fun _ _=>rfl)) jl (jH _)) (jd (jz (ko PySem.F.plainAttrs_list PySem.F.slot_list_append PySem.F.type_list_append j0 (jZ (zpv 0) rfl) (ja (ji F_least_tie hr (ja (zpv 0) (ja (ji F_turned hr (ja (zpv 1) jb)) jb))) jb)))
   (jh q5)) jG)
   (jd (ja0 (i:=2) (j:=3) rfl sc.nd rfl rfl (by decide) rfl rfl (ja (ji F_spot_of hr (ja (zpv 0) (ja (jm ju (zpv 1) jc (fun _ _=>rfl)) jb))) (ja (ji F_spot_of hr (ja (zpv 0) (ja (jm ju (zpv 1) jc (fun _ _=>rfl)) jb))) jb)) rfl)
   (jd (jv (i:=4) sc.nd rfl oQ (Zq (v:=.ref o1) (by rfl) G1 rfl))
   (jd (jL (jy j8 (jm ju (zpv 1) jc (fun _ _=>rfl)) jl (jH _)) (jd (jv (i:=5) sc.nd rfl oQ (ji F_body_tie hr (ja (ji F_body_of hr (ja (zpv 0) (ja (zpv 1) jb))) (ja (zpv 4) jb))))
   (jd (jz (ko PySem.F.plainAttrs_list PySem.F.slot_list_append PySem.F.type_list_append j0 (jZ (zpv 0) rfl) (ja (zpv 4) jb)))
   (jd (jz (ko PySem.F.plainAttrs_list PySem.F.slot_list_extend PySem.F.type_list_extend yi (jZ (zpv 0) rfl) (ja (jY (ja (ji F_at_most hr (ja (zpv 2) (ja (zpv 4) jb))) (ja (ji F_at_most hr (ja (zpv 4) (ja (zpv 3) jb))) (ja (ji F_turned_tie hr (ja (zpv 5) jb)) jb)))) jb)))
   (jh q5)))) jG)
   (jd (jv (i:=6) sc.nd rfl oQ (Zq (v:=.ref o2) (by rfl) G2 rfl))
   (jd (jv (i:=7) sc.nd rfl oQ (ji F_version_of hr (ja (zpv 0) (ja (jm ju (zpv 1) jc (fun _ _=>rfl)) jb))))
   (jd (jv (i:=8) sc.nd rfl oQ (ji F_at_most hr (ja (ji F_more_than hr (ja (ji F_entry_of hr (ja (zpv 7) (ja (zpv 6) jb))) (ja jc jb))) (ja (ji F_entry_of hr (ja (zpv 7) (ja (zpv 4) jb))) jb))))
   (jd (jz (ko PySem.F.plainAttrs_list PySem.F.slot_list_extend PySem.F.type_list_extend yi (jZ (zpv 0) rfl) (ja (jY (ja (zpv 4) (ja (zpv 6) jb))) jb)))
   (jh (jz (ko PySem.F.plainAttrs_list PySem.F.slot_list_extend PySem.F.type_list_extend yi (jZ (zpv 0) rfl) (ja (jY (ja (ji F_at_most hr (ja (zpv 2) (ja (zpv 4) jb))) (ja (ji F_at_most hr (ja (zpv 4) (ja (zpv 6) jb))) (ja (ji F_at_most hr (ja (zpv 6) (ja (zpv 3) jb))) (ja (zpv 8) jb))))) jb)))))))))))),?_⟩
 refine jI (σ':=[some (.ref B.o),some v,none,none,none,none,none,none,none]) rfl ?_
 try dsimp only [yp]
 refine jei ?_
 intro r8 r7 r6 r5 r4 r3 r2 r1
 rcases k with ⟨a,b,k⟩ | ⟨x,d,y,e,r,way,b,k⟩ | ⟨x,d,y,e,r⟩
 ·obtain ⟨t,va,vb,rfl,ht,_,_⟩:=qC hv
  refine ⟨_,rfl,t,_,_,_,rfl,rfl,SqT.of ht,jf (j:=0) rfl,rfl,_,rfl,kO ?_⟩
  obtain ⟨xs,l1,_,_⟩:=I.l 1 (by decide)
  refine ⟨_,rfl,B.o,C,B.dx,_,_,rfl,I.o,T.c,T.n5,rfl,.inl ⟨rfl,_,SqL.of l1⟩,_,rfl,_,rfl,_,a,b,k,rfl,hv,fun u H1 s1 hu=>⟨n,B,c,b,a,1 - k,u,rfl,I.same s1,by omega,hu,fun y H2 m2 I2 hy=>?_⟩⟩
  obtain ⟨ys,l2,_,l3⟩:=I2.l 1 (by decide)
  obtain ⟨m3,I3⟩:=I2.app1 (i:=1) (by decide) hy l2
  exact ⟨B.l 1,ys,y,rfl,rfl,l2,kG (by omega),q _ ((Mv.same s1).trans (m2.trans m3)) (I3.mono (by omega))⟩
 ·obtain ⟨t,va,vb,vc,rfl,ht,ha,hb,hc⟩:=zh hv
  refine ⟨_,rfl,t,_,_,_,rfl,rfl,SqT.of ht,jf (j:=0) rfl,rfl,_,rfl,kh ?_⟩
  refine ⟨_,rfl,_,rfl,t,_,_,_,rfl,rfl,SqT.of ht,jf (j:=1) rfl,n,B,c,x,d,_,rfl,I,ku ha,fun sp H1 s1 hsp=>?_⟩
  refine ⟨_,rfl,_,rfl,t,_,_,_,rfl,rfl,SqT.of (s1 _ _ ht),jf (j:=2) rfl,n,B,c,y,e,_,rfl,I.same s1,ku (s1 _ _ hb),fun su H2 s2 hsu=>⟨sp,su,rfl,?_⟩⟩
  refine gQ ?_
  have s3:=s1.trans s2
  have I2:=I.same s3
  have hsp2:=hsp.mono s2
  have ho2:=ho.tk (.same s3)
  show jF (YO (tC (V.ref o1)) (qd 4)) r3 _ _ _
  refine gQ ?_
  refine ⟨_,rfl,t,_,_,_,rfl,rfl,SqT.of (s3 _ _ ht),jf (j:=0) rfl,rfl,_,rfl,kO ?_⟩
  refine ⟨_,rfl,_,rfl,n,B,c,x,y,d,e,r,way,b,k,_,rfl,I2,by omega,hv.mono s3,fun bo H4 m4 I4 hbo=>⟨_,rfl,c,r,way,b,k,j4 0,bo,.ref o1,rfl,hbo,(ho2.tk (I2.tk m4)).1,fun sa H5 s5 hsa=>?_⟩⟩
  refine gQ ?_
  have I5:=I4.same s5
  have t5:=(I2.tk m4).trans (TK.same s5)
  have ho5:=ho2.tk t5
  obtain ⟨xs,l1,_,l3⟩:=I5.l 2 (by decide)
  refine ⟨_,rfl,B.o,C,B.dx,_,_,rfl,I5.o,T.c,T.n6,rfl,.inl ⟨rfl,_,SqL.of l1⟩,_,rfl,B.l 2,xs,_,rfl,rfl,l1,kG (by omega),?_⟩
  obtain ⟨m6,I6⟩:=I5.app1 (i:=2) (by decide) ho5.1 l1
  have t6:=t5.trans (I5.tk m6)
  have hsa6:=(I5.tk m6).held hsa
  generalize upd H5 (B.l 2) _=H6 at *
  have ho6:=ho2.tk t6
  obtain ⟨x',y',c',et⟩:=Yg (c.ver r) way (c.bnd b (j4 0)) k (j4 0)
  rw [et] at hsa6
  obtain ⟨zs,l4,_,l6⟩:=I6.l 1 (by decide)
  refine ⟨_,rfl,B.o,C,B.dx,_,_,rfl,I6.o,T.c,T.n5,rfl,.inl ⟨rfl,_,SqL.of l4⟩,_,rfl,_,rfl,sp,_,_,_,rfl,t6.held hsp2,ho6.1,fun a1 G1 g1 h1=>⟨_,rfl,_,rfl,_,su,_,_,rfl,(ho6.tk (.same g1)).1,(t6.held hsu).mono g1,fun a2 G2 g2 h2=>⟨_,rfl,sa,x',y',c',rfl,hsa6.mono (g1.trans g2),fun a3 G3 g3 h3=>⟨sm rfl,fun l hl=>?_⟩⟩⟩⟩
  have g4:=jj hl (.lst [a1,a2,a3])
  have g:=(g1.trans g2).trans (g3.trans g4)
  have I7:=I6.same g
  refine ⟨B.l 1,l,zs,_,rfl,rfl,g _ _ l4,jg,zL (by show zs.length+3≤1000;omega),?_⟩
  obtain ⟨m8,I8⟩:=I7.app (i:=1) (by decide) (je (h1.mono (g2.trans (g3.trans g4))) (je (h2.mono (g3.trans g4)) (je (h3.mono g4) jw))) (g _ _ l4)
  refine q _ (((Mv.same s3).trans (m4.trans (.same s5))).trans (m6.trans ((Mv.same g).trans m8))) ?_
  have e9:JN (zB (c.ver r) way (c.bnd b (j4 0)) k (j4 0))=.tup [y',x',.int (-1 - c')]:=by rw [et];rfl
  show CsAt C (n+10) B (((c.body r way b k).2.add 2 [p2 (j4 0)]).add 1 [kx (c.spot x d) (j4 0),kx (j4 0) (c.spot y e),JN (zB (c.ver r) way (c.bnd b (j4 0)) k (j4 0))]) _
  rw [e9]
  exact I8.mono (by show n+2+1+3≤n+10;omega)
 ·obtain ⟨t,va,vb,rfl,ht,ha,hb⟩:=y6 hv
  refine ⟨_,rfl,t,_,_,_,rfl,rfl,SqT.of ht,jf (j:=0) rfl,rfl,_,rfl,kh ?_⟩
  refine ⟨_,rfl,_,rfl,t,_,_,_,rfl,rfl,SqT.of ht,jf (j:=1) rfl,n,B,c,x,d,_,rfl,I,ku ha,fun sp H1 s1 hsp=>?_⟩
  refine ⟨_,rfl,_,rfl,t,_,_,_,rfl,rfl,SqT.of (s1 _ _ ht),jf (j:=2) rfl,n,B,c,y,e,_,rfl,I.same s1,ku (s1 _ _ hb),fun su H2 s2 hsu=>⟨sp,su,rfl,?_⟩⟩
  refine gQ ?_
  have s3:=s1.trans s2
  have I2:=I.same s3
  have hsp2:=hsp.mono s2
  have ho2:=ho.tk (.same s3)
  show jF (YO (tC (V.ref o1)) (qd 4)) r3 _ _ _
  refine gQ ?_
  refine ⟨_,rfl,t,_,_,_,rfl,rfl,SqT.of (s3 _ _ ht),jf (j:=0) rfl,rfl,_,rfl,kh ?_⟩
  show jF (YO (tC (V.ref o2)) (qd 6)) r5 _ _ _
  refine gQ ?_
  refine ⟨_,rfl,_,rfl,t,_,_,_,rfl,rfl,SqT.of (s3 _ _ ht),jf (j:=3) rfl,n,B,c,r,rfl,I2,by omega,fun vv H4 m4 I4 hvv=>?_⟩
  refine gQ ?_
  have t4:=I2.tk m4
  have ho4:=ho2.tk t4
  refine ⟨_,rfl,_,rfl,vv,_,_,_,rfl,hvv,ho4.2,fun e1 G1 g1 h1=>⟨e1,1,_,rfl,h1,fun e2 G2 g2 h2=>⟨_,rfl,_,rfl,vv,_,_,_,rfl,hvv.mono (g1.trans g2),(ho4.tk (.same (g1.trans g2))).1,fun e3 G3 g3 h3=>⟨e2,e3,_,_,rfl,h2.mono g3,h3,fun le H5 g5 hle=>?_⟩⟩⟩⟩
  refine gQ ?_
  have gA:=((g1.trans g2).trans g3).trans g5
  have I5:=I4.same gA
  have t5:=t4.trans (TK.same gA)
  have ho5:=ho2.tk t5
  obtain ⟨xs,l1,_,l3⟩:=I5.l 2 (by decide)
  refine ⟨_,rfl,B.o,C,B.dx,_,_,rfl,I5.o,T.c,T.n6,rfl,.inl ⟨rfl,_,SqL.of l1⟩,_,rfl,_,rfl,sm rfl,fun l hl=>?_⟩
  have gl:=jj hl (.lst [.ref o1,.ref o2])
  have I5':=I5.same gl
  refine ⟨B.l 2,l,xs,_,rfl,rfl,gl _ _ l1,jg,zL (by show xs.length+2≤1000;omega),?_⟩
  obtain ⟨m6,I6⟩:=I5'.app (i:=2) (by decide) (je (ho5.1.mono gl) (je (ho5.2.mono gl) jw)) (gl _ _ l1)
  have t5':=(TK.same gl).trans (I5'.tk m6)
  have t6:=t5.trans t5'
  have hle6:=t5'.held hle
  generalize upd (upd H5 l _) (B.l 2) _=H6 at *
  have ho6:=ho2.tk t6
  obtain ⟨zs,l4,_,l6⟩:=I6.l 1 (by decide)
  have l6:zs.length≤n+1+2:=l6
  refine ⟨_,rfl,B.o,C,B.dx,_,_,rfl,I6.o,T.c,T.n5,rfl,.inl ⟨rfl,_,SqL.of l4⟩,_,rfl,_,rfl,sp,_,_,_,rfl,t6.held hsp2,ho6.1,fun a1 G1 g1 h1=>⟨_,rfl,_,rfl,_,_,_,_,rfl,(ho6.tk (.same g1)).1,(ho6.tk (.same g1)).2,fun a2 G2 g2 h2=>⟨_,rfl,_,rfl,_,su,_,_,rfl,(ho6.tk (.same (g1.trans g2))).2,(t6.held hsu).mono (g1.trans g2),fun a3 G3 g3 h3=>⟨_,rfl,sm rfl,fun p hp=>?_⟩⟩⟩⟩
  have g4:=jj hp (.lst [a1,a2,a3,le])
  have g:=(g1.trans g2).trans (g3.trans g4)
  have I7:=I6.same g
  refine ⟨B.l 1,p,zs,_,rfl,rfl,g _ _ l4,jg,zL (by show zs.length+4≤1000;omega),?_⟩
  obtain ⟨m8,I8⟩:=I7.app (i:=1) (by decide) (je (h1.mono (g2.trans (g3.trans g4))) (je (h2.mono (g3.trans g4)) (je (h3.mono g4) (je (hle6.mono g) jw)))) (g _ _ l4)
  exact q _ (((Mv.same s3).trans (m4.trans (.same gA))).trans (((Mv.same gl).trans m6).trans ((Mv.same g).trans m8))) (I8.mono (by show n+1+2+4≤n+10;omega))
theorem jfq {f:Addr} {fd:FuncData} (T:ClsC K C) (F:Fun K "take_row" "take_row" zd f fd) (F_more_than:Fn P w K mg base 1 "more_than" ["stood_for","d"] qg) (F_stands_for:Fn P w K mg base 3 "stands_for" ["case","term"] (J0 C)) (F_take_put:Fn P w K mg base 4 "take_put" ["case","n","row"] (jgd C)) (F_know:Fn P w K mg base 5 "know" ["case","claim"] (jdh C)):FnOk P w K mg base CX0 6 f fd ["case","n","row"] (jdf C):=by
 have sc:FnScope ["case","n","row","kind"] ["case","n","row"] (jp zd):=fQ
 refine F.okZ sc (fun vs H Q E h=>?_) (fun cdv A outer s H vs Q E hr h=>?_)
 ·obtain ⟨n,A,c,i,R,v,rfl,_⟩:=h
  rfl
 have hu:(A.deeper (PyProof.Rows.envOfC "take_row" (jp zd) s.heap.objs.size f cdv)).units+1 < cLine:=by have:=hr.units;omega
 obtain ⟨n,B,c,i,R,v,rfl,I,hn,hv,q⟩:=h
 refine ⟨_,(jd (jv (i:=3) sc.nd rfl oQ (jm ju (zpv 2) jc (fun _ _=>rfl)))
   (jh (jL (jy j8 (zpv 3) jl (jH _)) (jh (kg hu (jZ (zpv 0) rfl) (jm ju (zpv 2) jc (fun _ _=>rfl)) (ji F_more_than hr (ja (ji F_stands_for hr (ja (zpv 0) (ja (jm ju (zpv 2) jc (fun _ _=>rfl)) jb))) (ja (jm ju (zpv 2) jc (fun _ _=>rfl)) jb))) rfl)) (jh (jL (jy j8 (zpv 3) jl (jH _)) (jh (jz (ji F_take_put hr (ja (zpv 0) (ja (zpv 1) (ja (zpv 2) jb)))))) (jh (jL (jy j8 (zpv 3) jl (jH _)) (jh (kg hu (jZ (zpv 0) rfl) (jm ju (zpv 2) jc (fun _ _=>rfl)) (zpd (jX (jr (jX (jr kz (jr (ke 1) jN))) (jr qv jN)))) rfl)) (jh (jL (jy j8 (zpv 3) jl (jH _)) (jd (kg hu (jZ (zpv 0) rfl) (jm ju (zpv 2) jc (fun _ _=>rfl)) qY rfl)
   (jd (kg hu (jZ (zpv 0) rfl) (jm ju (zpv 2) jc (fun _ _=>rfl)) (zpd (jX (jr kz (jr (ke 1) jN)))) rfl)
   (jh (jz (ko PySem.F.plainAttrs_list PySem.F.slot_list_append PySem.F.type_list_append j0 (jZ (zpv 0) rfl) (ja (zpd (jX (jr kz (jr (ke 1) jN)))) jb)))))) (jh (jz (ji F_know hr (ja (zpv 0) (ja (jm ju (zpv 2) jc (fun _ _=>rfl)) jb)))))))))))))),?_⟩
 refine jI (σ':=[some (.ref B.o),some (.int i),some v,none]) rfl ?_
 rcases R with ⟨x,tm,k⟩ | ⟨r,x,d,tm,k⟩ | ⟨x⟩ | ⟨r⟩ | ⟨K⟩
 ·obtain ⟨t,y0,y1,y2,y3,rfl,ht,h0,h1,h2,h3⟩:=zR hv
  cases js h0
  cases js h1
  cases j9 h3
  refine ⟨_,rfl,t,_,_,_,rfl,rfl,SqT.of ht,jf (j:=0) rfl,?_⟩
  refine jI (σ':=[some (.ref B.o),some (.int i),some (.ref t),some (.str "set")]) rfl ?_
  refine ⟨_,rfl,rfl,_,rfl,kO ?_⟩
  refine ⟨_,rfl,_,rfl,t,_,_,_,rfl,rfl,SqT.of ht,jf (j:=2) rfl,n,B,c,tm,y2,rfl,I,by omega,h2,fun y H1 m1 I1 hy=>?_⟩
  have ht1:=I.tk m1 _ _ ht
  refine ⟨_,rfl,t,_,_,_,rfl,rfl,SqT.of ht1,jf (j:=3) rfl,y,k,_,rfl,hy,fun z H2 s2 hz=>?_⟩
  have I2:=I1.same s2
  obtain ⟨kvs,k1,k2,_⟩:=I2.nu
  refine ⟨_,rfl,B.o,C,B.dx,_,_,rfl,I2.o,T.c,T.n1,rfl,_,rfl,t,_,_,_,rfl,rfl,SqT.of (s2 _ _ ht1),jf (j:=1) rfl,B.nu,_,rfl,.k (k:=.inr x) k1 (kG (by omega)),?_⟩
  obtain ⟨m3,I3⟩:=I2.setn (x:=x) hz k1
  exact q _ (m1.trans ((Mv.same s2).trans m3)) (I3.mono (by omega))
 ·obtain ⟨t,y0,y1,y2,y3,y4,rfl,ht,h0,_⟩:=Jh hv
  cases js h0
  refine ⟨_,rfl,t,_,_,_,rfl,rfl,SqT.of ht,jf (j:=0) rfl,?_⟩
  refine jI (σ':=[some (.ref B.o),some (.int i),some (.ref t),some (.str "put")]) rfl ?_
  refine ⟨_,rfl,rfl,_,rfl,kh ?_⟩
  refine ⟨_,rfl,rfl,_,rfl,kO ?_⟩
  exact ⟨_,rfl,_,rfl,_,rfl,n,B,c,i,r,x,d,tm,k,_,rfl,I,hn,hv,fun H1 m1 I1=>q H1 m1 I1⟩
 ·obtain ⟨t,y0,y1,rfl,ht,h0,h1⟩:=ql hv
  cases js h0
  cases js h1
  refine ⟨_,rfl,t,_,_,_,rfl,rfl,SqT.of ht,jf (j:=0) rfl,?_⟩
  refine jI (σ':=[some (.ref B.o),some (.int i),some (.ref t),some (.str "any")]) rfl ?_
  refine ⟨_,rfl,rfl,_,rfl,kh ?_⟩
  refine ⟨_,rfl,rfl,_,rfl,kh ?_⟩
  refine ⟨_,rfl,rfl,_,rfl,kO ?_⟩
  refine ⟨p2 (jbv i),⟨_,rfl,Nat.le_of_ble_eq_true rfl,_,_,rfl,⟨_,rfl,Nat.le_of_ble_eq_true rfl,_,_,rfl,rfl,_,_,rfl,⟨_,rfl,jK⟩,rfl⟩,_,_,rfl,rfl,rfl⟩,fun z H2 s2 hz=>?_⟩
  have I2:=I.same s2
  obtain ⟨kvs,k1,k2,_⟩:=I2.nu
  refine ⟨_,rfl,B.o,C,B.dx,_,_,rfl,I2.o,T.c,T.n1,rfl,_,rfl,t,_,_,_,rfl,rfl,SqT.of (s2 _ _ ht),jf (j:=1) rfl,B.nu,_,rfl,.k (k:=.inr x) k1 (kG (by omega)),?_⟩
  obtain ⟨m3,I3⟩:=I2.setn (x:=x) hz k1
  exact q _ ((Mv.same s2).trans m3) (I3.mono (by omega))
 ·obtain ⟨t,y0,y1,rfl,ht,h0,h1⟩:=ql hv
  cases js h0
  cases js h1
  refine ⟨_,rfl,t,_,_,_,rfl,rfl,SqT.of ht,jf (j:=0) rfl,?_⟩
  refine jI (σ':=[some (.ref B.o),some (.int i),some (.ref t),some (.str "lose")]) rfl ?_
  refine ⟨_,rfl,rfl,_,rfl,kh ?_⟩
  refine ⟨_,rfl,rfl,_,rfl,kh ?_⟩
  refine ⟨_,rfl,rfl,_,rfl,kh ?_⟩
  refine ⟨_,rfl,rfl,_,rfl,kO ?_⟩
  obtain ⟨ks,j1,j2,_⟩:=I.na
  refine ⟨_,rfl,B.o,C,B.dx,_,_,rfl,I.o,T.c,T.n3,rfl,_,rfl,t,_,_,_,rfl,rfl,SqT.of ht,jf (j:=1) rfl,B.na,_,rfl,.k (k:=.inr r) j1 (kG (by omega)),?_⟩
  obtain ⟨m1,I1⟩:=I.named (r:=r) (v:=.bl true) j1
  have ht1:=I.tk m1 _ _ ht
  generalize upd H B.na _=H1 at *
  refine ⟨KF i,⟨_,rfl,Nat.le_of_ble_eq_true rfl,_,_,rfl,rfl,_,_,rfl,⟨_,rfl,jK⟩,rfl⟩,fun z H2 s2 hz=>?_⟩
  have I2:=I1.same s2
  obtain ⟨kvs,k1,k2,_⟩:=I2.ve
  refine ⟨_,rfl,B.o,C,B.dx,_,_,rfl,I2.o,T.c,T.n2,rfl,_,rfl,t,_,_,_,rfl,rfl,SqT.of (s2 _ _ ht1),jf (j:=1) rfl,B.ve,_,rfl,.k (k:=.inr r) k1 (kG (by omega)),?_⟩
  obtain ⟨m3,I3⟩:=I2.setv (r:=r) hz k1
  generalize upd H2 B.ve _=H3 at *
  obtain ⟨xs,l1,_,l3⟩:=I3.l 0 (by decide)
  refine ⟨_,rfl,B.o,C,B.dx,_,_,rfl,I3.o,T.c,T.n4,rfl,.inl ⟨rfl,_,SqL.of l1⟩,KF i,⟨_,rfl,Nat.le_of_ble_eq_true rfl,_,_,rfl,rfl,_,_,rfl,⟨_,rfl,jK⟩,rfl⟩,fun u H4 s4 hu4=>⟨B.l 0,xs,u,rfl,rfl,s4 _ _ l1,kG (by omega),?_⟩⟩
  obtain ⟨m5,I5⟩:=(I3.same s4).app1 (i:=0) (by decide) hu4 (s4 _ _ l1)
  exact q _ ((m1.trans ((Mv.same s2).trans m3)).trans ((Mv.same s4).trans m5)) (I5.mono (by omega))
 ·obtain ⟨t,y0,y1,rfl,ht,h0,h1⟩:=ql hv
  cases js h0
  refine ⟨_,rfl,t,_,_,_,rfl,rfl,SqT.of ht,jf (j:=0) rfl,?_⟩
  refine jI (σ':=[some (.ref B.o),some (.int i),some (.ref t),some (.str "know")]) rfl ?_
  refine ⟨_,rfl,rfl,_,rfl,kh ?_⟩
  refine ⟨_,rfl,rfl,_,rfl,kh ?_⟩
  refine ⟨_,rfl,rfl,_,rfl,kh ?_⟩
  refine ⟨_,rfl,rfl,_,rfl,kh ?_⟩
  exact ⟨_,rfl,_,rfl,t,_,_,_,rfl,rfl,SqT.of ht,jf (j:=1) rfl,n,B,c,K,y1,rfl,I,hn,h1,fun H1 m1 I1=>q H1 m1 I1⟩
end
end LW
namespace L2
open PySem PySem.Spec PyProof.Rows PySem.W
section
variable {prog:Program} {w:World} {A:Around} {E:Value→Shared→Prop} {s:Shared}
theorem K2 {l:Addr} {vs:List Value} {ds:List D} {n:Nat} {Q:Value→Shared→Prop} (hl:s.heap.IsList l vs.toArray) (hI:TrAtL s.heap ds vs) (hS:SortT ds n) (hA:A.units+3+n < cLine) (most:vs.length≤1000)
  (h:∀ (out:Array Value) (ms:List D),out.toList.Perm vs→TrAtL s.heap ms out.toList→ms.Perm ds→ms.Pairwise (fun a b=>dLt b a=false)→Q (.ref (s.heap.objs.size+1)) { s with heap:=sortedAll s.heap vs out }) :
  wpAny (model prog w) A (call (.builtin "sorted") [.ref l]) Q E s:=by
 refine Calls.call_function_entry kind_sorted plain_sorted entry_sorted (args_sorted1 _) ?_
 unfold Builtin.«sorted»
 refine wpAny_bind (m:=checkCount "sorted" 1 1 _) (wpAny_pure ?_)
 refine wpAny_bind (collect_list hl ?_)
 refine wpAny_bind (wpAny_newList ?_ (by show vs.length≤_;exact Nat.le_trans most Jd))
 have hsz:((s.heap.push (seqObj "list" #[] 0)).update s.heap.objs.size (Obj.mapSeq (·++vs.toArray))).objs.size=s.heap.objs.size+1:=by
  rw [Heap.size_update,size_push']
 have hoL:(((s.heap.push (seqObj "list" #[] 0)).update s.heap.objs.size (Obj.mapSeq (·++vs.toArray))).push (seqObj "list" vs.toArray 0)).get? (s.heap.objs.size+1)=some (seqObj "list" vs.toArray 0):=by
  rw [← hsz];exact Heap.get?_push_size _ rfl
 have kt:∀ b xs,s.heap.IsTuple b xs→(((s.heap.push (seqObj "list" #[] 0)).update s.heap.objs.size (Obj.mapSeq (·++vs.toArray))).push (seqObj "list" vs.toArray 0)).IsTuple b xs:=fun b xs ⟨o,z1,z2⟩=>⟨o,by
  refine Heap.get?_push_of_some _ ?_
  rw [Heap.get?_update_other _ _ (Nat.ne_of_gt (Heap.lt_size z1))]
  exact Heap.get?_push_of_some _ z1,z2⟩
 show wpAny _ _ _ _ _ { s with heap:=((s.heap.push (seqObj "list" #[] 0)).update s.heap.objs.size (Obj.mapSeq (·++vs.toArray))).push (seqObj "list" vs.toArray 0) }
 rw [hsz]
 refine wpAny_bind (wpAny_holding (wpAny_call_entry slot_list_sort ⟨_,hoL,rfl⟩ entry_list_sort (JP (n:=n) hoL (hI.kept kt) hS (by show A.units+1+1+n < cLine;omega) most fun out ms a0 a1 a2 a3=>⟨_,rfl,?_⟩) (args_list_sort _)))
 have hk:TrAtL s.heap ms out.toList:=by
  obtain ⟨ms',b1,b2⟩:=Kk a0 hI
  have:=trL_inj (b1.kept kt) a1
  rw [← this]
  exact b1
 exact wpAny_pure ⟨_,rfl,h out ms a0 hk a2 a3⟩
end
theorem Jo {X:Cx} {n:Nat} (hu:X.A.units+3+n < cLine):qt X (.builtin "sorted") (fun xs H Q=>∃ (p:Addr) (ps:List (D×Addr)),xs=[.ref p]∧H p=some (.lst ((ps.map (·.2)).map V.ref))∧(∀ q∈ps,Held H q.1 (.ref q.2))∧SortT (ps.map (·.1)) n∧ps.length≤1000∧
  ∀ (l:Addr) (qs:List (D×Addr)),H l=none→qs.Perm ps→(qs.map (·.1)).Pairwise (fun a b=>dLt b a=false)→Q (.ref l) (upd H l (.lst ((qs.map (·.2)).map V.ref)))):=by
 intro pins s σ H xs us Q I r h
 obtain ⟨p,ps,rfl,hp,hk,hS,most,q⟩:=h
 obtain ⟨u,rfl,rx⟩:=zz r
 cases rx
 obtain ⟨its,rv,pl,hz⟩:=I.list (SqL.of (K:=X.K) hp)
 obtain rfl:=Jt rv
 have hT:∀ q∈ps,TrAt s.heap q.1 (.ref q.2):=fun q hq=>J4 I (u:=.ref q.2) (hk q hq) rfl
 have hI:TrAtL s.heap (ps.map (·.1)) ((ps.map (·.2)).map Value.ref):=by
  rw [List.map_map]
  exact Kl hT
 refine K2 pl.isList hI hS hu (by rw [List.length_map,List.length_map];exact most) fun out ms a0 a1 a2 a3=>?_
 rw [List.map_map] at a0
 obtain ⟨qs,q1,q2⟩:=Yr (f:=fun p:D×Addr=>Value.ref p.2) a0.symm rfl
 have em:ms=qs.map (·.1):=trL_inj a1 (by
  have:=Kl (qs:=qs) fun q hq=>hT q (q1.mem_iff.mp hq)
  rw [q2] at this
  exact this)
 rw [em] at a3
 obtain ⟨e,he⟩:=sortedAll_at s.heap ((ps.map (·.2)).map Value.ref) out
 refine ⟨.ref (s.heap.objs.size+1),_,I.laid (t':=s.toks) (fun b o=>sortedAll_old) (Nat.le_succ _) (show ObjOk X.prog X.w _ _ _ (.lst ((qs.map (·.2)).map V.ref)) from ⟨?_,out.toList,e,?_,?_⟩),rfl,q _ qs (I.hok.fresh (Nat.le_succ _)) q1 a3⟩
 ·rw [List.length_map,List.length_map,q1.length_eq]
  exact Nat.le_trans most Jd
 ·rw [← q2,show qs.map (fun p:D×Addr=>Value.ref p.2)=(qs.map (·.2)).map Value.ref by rw [List.map_map];rfl]
  exact JC _
 ·rw [Array.toArray_toList]
  exact he
end L2
namespace LW
open PySem L2
abbrev kQ:Stmt:=jfO (top 7) 0
abbrev qh:Stmt:=top 10
abbrev yf:Stmt:=top 11
structure Ini (H:Hp) (b C dx:Addr) (fs:List (Str×V)) (os:List (Prod Addr HO)) (G:Hp):Prop where
 hb:G b=some (.ins C dx fs)
 k:∀ a o,a≠b→H a=some o→G a=some o
 o:∀ p∈os,G p.1=some p.2∧H p.1=none
 ne:∀ p∈os,p.1≠b
 nd:(os.map (·.1)).Nodup
 f:∀ a,G a=none→H a=none
theorem Ini.step {H:Hp} {b C dx:Addr} {fs:List (Str×V)} {os:List (Prod Addr HO)} {G:Hp} (I:Ini H b C dx fs os G) {p:Addr} (hp:G p=none) (o:HO) (fs':List (Str×V)):Ini H b C dx fs' (os++[(p,o)]) (upd (upd G p o) b (.ins C dx fs')):=by
 have pb:p≠b:=(jt I.hb hp).symm
 refine ⟨jg,fun a u hab ha=>?_,fun q hq=>?_,fun q hq=>?_,?_,fun a ha=>?_⟩
 ·rw [jB hab,jB (jt (I.k a u hab ha) hp)]
  exact I.k a u hab ha
 ·rcases List.mem_append.mp hq with hq | hq
  ·obtain ⟨h1,h2⟩:=I.o q hq
   exact ⟨by rw [jB (I.ne q hq),jB (jt h1 hp)];exact h1,h2⟩
  ·cases List.mem_singleton.mp hq
   exact ⟨by rw [jB pb,jg],I.f _ hp⟩
 ·rcases List.mem_append.mp hq with hq | hq
  ·exact I.ne q hq
  ·cases List.mem_singleton.mp hq
   exact pb
 ·rw [List.map_append,List.nodup_append]
  refine ⟨I.nd,by simp,fun x hx y hy=>?_⟩
  cases List.mem_singleton.mp hy
  obtain ⟨q,q1,rfl⟩:=List.mem_map.mp hx
  exact jt (I.o q q1).1 hp
 ·by_cases z:a=b
  ·rw [z,jg] at ha;cases ha
  ·rw [jB z] at ha
   by_cases y:a=p
   ·rw [y];exact I.f _ hp
   ·rw [jB y] at ha;exact I.f _ ha
theorem jfS {l:List Addr} {i:Nat} {d:Addr} (h:i < l.length):l.getD i d∈l:=by
 rw [List.getD_eq_getElem?_getD,List.getElem?_eq_getElem h]
 exact List.getElem_mem h
theorem jfG {l:List Addr} {i j:Nat} {d:Addr} (n:l.Nodup) (hi:i < l.length) (hj:j < l.length) (e:l.getD i d=l.getD j d):i=j:=by
 rw [List.getD_eq_getElem?_getD,List.getElem?_eq_getElem hi,List.getD_eq_getElem?_getD,List.getElem?_eq_getElem hj] at e
 exact (List.getElem_inj n).mp e
def jiw (A:CA) (H:Hp):Prop:=H A.nu=none∧H A.ve=none∧H A.na=none∧∀ i,i < 6→H (A.l i)=none
def jdl (C:Addr):Sp:=fun vs H Q _=>∃ (b dx:Addr),vs=[.ref b]∧H b=some (.ins C dx [])∧∀ A H',A.o=b→(∀ a o,a≠b→H a=some o→H' a=some o)→jiw A H→CsAt C 0 A Cs.none H'→Q .non H'
section
variable {P:Program} {w:World} {K:W.Frag} {mg:Str→Option Value} {base:Heap} {C:Addr}
theorem jfE {f:Addr} {fd:FuncData} (T:ClsC K C) (F:Fun K "__init__" "Case.__init__" kQ f fd):FnOk P w K mg base CX0 1 f fd ["self"] (jdl C):=by
 have sc:FnScope ["self"] ["self"] (jp kQ):=fQ
 refine F.okZ sc (fun vs H Q E h=>?_) (fun cdv A outer s H vs Q E hr h=>?_)
 ·obtain ⟨b,dx,rfl,_⟩:=h
  rfl
 obtain ⟨b,dx,rfl,hb,q⟩:=h
 refine ⟨_,(jd (qk (zpv 0) kK rfl)
   (jd (qk (zpv 0) kK rfl)
   (jd (qk (zpv 0) kK rfl)
   (jd (qk (zpv 0) (jY jb) rfl)
   (jd (qk (zpv 0) (jY jb) rfl)
   (jd (qk (zpv 0) (jY jb) rfl)
   (jd (qk (zpv 0) (jY jb) rfl)
   (jd (qk (zpv 0) (jY jb) rfl)
   (jh (qk (zpv 0) (jY jb) rfl)))))))))),?_⟩
 refine jI (σ':=[some (.ref b)]) rfl ?_
 try dsimp only [yp]
 refine jei ?_
 intro _ _ _ _ _ _ _ _
 have I0:Ini H b C dx [] [] H:=⟨hb,fun _ _ _ e=>e,fun _ h=>(nomatch h),fun _ h=>(nomatch h),List.nodup_nil,fun _ e=>e⟩
 refine fun p1 h1=>⟨_,rfl,b,C,dx,_,rfl,jo (jt I0.hb h1) I0.hb,T.c,T.n1,by show 0 < 1000;decide,?_⟩
 have I1:=I0.step h1 (.dK []) [("numbers",.ref p1)]
 refine (?_:jF _ _ _ _ (upd (upd H p1 (.dK [])) b (.ins C dx [("numbers",.ref p1)])))
 generalize upd (upd H p1 (.dK [])) b (.ins C dx [("numbers",.ref p1)])=G1 at *
 refine fun p2 h2=>⟨_,rfl,b,C,dx,_,rfl,jo (jt I1.hb h2) I1.hb,T.c,T.n2,by show 1 < 1000;decide,?_⟩
 have I2:=I1.step h2 (.dK []) [("numbers",.ref p1),("versions",.ref p2)]
 refine (?_:jF _ _ _ _ (upd (upd G1 p2 (.dK [])) b (.ins C dx [("numbers",.ref p1),("versions",.ref p2)])))
 generalize upd (upd G1 p2 (.dK [])) b (.ins C dx [("numbers",.ref p1),("versions",.ref p2)])=G2 at *
 refine fun p3 h3=>⟨_,rfl,b,C,dx,_,rfl,jo (jt I2.hb h3) I2.hb,T.c,T.n3,by show 2 < 1000;decide,?_⟩
 have I3:=I2.step h3 (.dK []) [("numbers",.ref p1),("versions",.ref p2),("named",.ref p3)]
 refine (?_:jF _ _ _ _ (upd (upd G2 p3 (.dK [])) b (.ins C dx [("numbers",.ref p1),("versions",.ref p2),("named",.ref p3)])))
 generalize upd (upd G2 p3 (.dK [])) b (.ins C dx [("numbers",.ref p1),("versions",.ref p2),("named",.ref p3)])=G3 at *
 refine ⟨sm rfl,fun p4 h4=>⟨_,rfl,b,C,dx,_,rfl,jo (jt I3.hb h4) I3.hb,T.c,T.n4,by show 3 < 1000;decide,?_⟩⟩
 have I4:=I3.step h4 (.lst []) [("numbers",.ref p1),("versions",.ref p2),("named",.ref p3),("lost",.ref p4)]
 refine (?_:jF _ _ _ _ (upd (upd G3 p4 (.lst [])) b (.ins C dx [("numbers",.ref p1),("versions",.ref p2),("named",.ref p3),("lost",.ref p4)])))
 generalize upd (upd G3 p4 (.lst [])) b (.ins C dx [("numbers",.ref p1),("versions",.ref p2),("named",.ref p3),("lost",.ref p4)])=G4 at *
 refine ⟨sm rfl,fun p5 h5=>⟨_,rfl,b,C,dx,_,rfl,jo (jt I4.hb h5) I4.hb,T.c,T.n5,by show 4 < 1000;decide,?_⟩⟩
 have I5:=I4.step h5 (.lst []) [("numbers",.ref p1),("versions",.ref p2),("named",.ref p3),("lost",.ref p4),("ties",.ref p5)]
 refine (?_:jF _ _ _ _ (upd (upd G4 p5 (.lst [])) b (.ins C dx [("numbers",.ref p1),("versions",.ref p2),("named",.ref p3),("lost",.ref p4),("ties",.ref p5)])))
 generalize upd (upd G4 p5 (.lst [])) b (.ins C dx [("numbers",.ref p1),("versions",.ref p2),("named",.ref p3),("lost",.ref p4),("ties",.ref p5)])=G5 at *
 refine ⟨sm rfl,fun p6 h6=>⟨_,rfl,b,C,dx,_,rfl,jo (jt I5.hb h6) I5.hb,T.c,T.n6,by show 5 < 1000;decide,?_⟩⟩
 have I6:=I5.step h6 (.lst []) [("numbers",.ref p1),("versions",.ref p2),("named",.ref p3),("lost",.ref p4),("ties",.ref p5),("spots",.ref p6)]
 refine (?_:jF _ _ _ _ (upd (upd G5 p6 (.lst [])) b (.ins C dx [("numbers",.ref p1),("versions",.ref p2),("named",.ref p3),("lost",.ref p4),("ties",.ref p5),("spots",.ref p6)])))
 generalize upd (upd G5 p6 (.lst [])) b (.ins C dx [("numbers",.ref p1),("versions",.ref p2),("named",.ref p3),("lost",.ref p4),("ties",.ref p5),("spots",.ref p6)])=G6 at *
 refine ⟨sm rfl,fun p7 h7=>⟨_,rfl,b,C,dx,_,rfl,jo (jt I6.hb h7) I6.hb,T.c,T.n7,by show 6 < 1000;decide,?_⟩⟩
 have I7:=I6.step h7 (.lst []) [("numbers",.ref p1),("versions",.ref p2),("named",.ref p3),("lost",.ref p4),("ties",.ref p5),("spots",.ref p6),("puts",.ref p7)]
 refine (?_:jF _ _ _ _ (upd (upd G6 p7 (.lst [])) b (.ins C dx [("numbers",.ref p1),("versions",.ref p2),("named",.ref p3),("lost",.ref p4),("ties",.ref p5),("spots",.ref p6),("puts",.ref p7)])))
 generalize upd (upd G6 p7 (.lst [])) b (.ins C dx [("numbers",.ref p1),("versions",.ref p2),("named",.ref p3),("lost",.ref p4),("ties",.ref p5),("spots",.ref p6),("puts",.ref p7)])=G7 at *
 refine ⟨sm rfl,fun p8 h8=>⟨_,rfl,b,C,dx,_,rfl,jo (jt I7.hb h8) I7.hb,T.c,T.n8,by show 7 < 1000;decide,?_⟩⟩
 have I8:=I7.step h8 (.lst []) [("numbers",.ref p1),("versions",.ref p2),("named",.ref p3),("lost",.ref p4),("ties",.ref p5),("spots",.ref p6),("puts",.ref p7),("eaches",.ref p8)]
 rw [show zu "eaches" (V.ref p8) [("numbers",V.ref p1),("versions",V.ref p2),("named",V.ref p3),("lost",V.ref p4),("ties",V.ref p5),("spots",V.ref p6),("puts",V.ref p7)]=([("numbers",V.ref p1),("versions",V.ref p2),("named",V.ref p3),("lost",V.ref p4),("ties",V.ref p5),("spots",V.ref p6),("puts",V.ref p7),("eaches",V.ref p8)]:List (Str×V)) from rfl]
 generalize upd (upd G7 p8 (.lst [])) b (.ins C dx [("numbers",.ref p1),("versions",.ref p2),("named",.ref p3),("lost",.ref p4),("ties",.ref p5),("spots",.ref p6),("puts",.ref p7),("eaches",.ref p8)])=G8 at *
 refine ⟨sm rfl,fun p9 h9=>⟨_,rfl,b,C,dx,_,rfl,jo (jt I8.hb h9) I8.hb,T.c,T.n9,by show 8 < 1000;decide,?_⟩⟩
 have I9:=I8.step h9 (.lst []) [("numbers",.ref p1),("versions",.ref p2),("named",.ref p3),("lost",.ref p4),("ties",.ref p5),("spots",.ref p6),("puts",.ref p7),("eaches",.ref p8),("rises",.ref p9)]
 rw [show zu "rises" (V.ref p9) [("numbers",V.ref p1),("versions",V.ref p2),("named",V.ref p3),("lost",V.ref p4),("ties",V.ref p5),("spots",V.ref p6),("puts",V.ref p7),("eaches",V.ref p8)]=([("numbers",V.ref p1),("versions",V.ref p2),("named",V.ref p3),("lost",V.ref p4),("ties",V.ref p5),("spots",V.ref p6),("puts",V.ref p7),("eaches",V.ref p8),("rises",V.ref p9)]:List (Str×V)) from rfl]
 generalize upd (upd G8 p9 (.lst [])) b (.ins C dx _)=G9 at *
 have hd:∀ p∈[p1,p2,p3],G9 p=some (.dK [])∧H p=none:=fun p hp=>I9.o (p,.dK []) (by simp at hp ⊢;exact hp)
 have hl:∀ p∈[p4,p5,p6,p7,p8,p9],G9 p=some (.lst [])∧H p=none:=fun p hp=>I9.o (p,.lst []) (by simp at hp ⊢;exact hp)
 have nd:=I9.nd
 simp only [List.map_append,List.map_cons,List.map_nil,List.nil_append,List.cons_append] at nd
 have n6:[p4,p5,p6,p7,p8,p9].Nodup:=((List.nodup_cons.mp (List.nodup_cons.mp (List.nodup_cons.mp nd).2).2).2)
 have g:∀ i,i < 6→[p4,p5,p6,p7,p8,p9].getD i p9∈[p4,p5,p6,p7,p8,p9]:=fun i hi=>jfS hi
 have z:∀ f:Str→Option D,(∀ x,f x=none)→∀ p∈[p1,p2,p3],DAt 0 f G9 p:=fun f hf p hp=>⟨[],(hd p hp).1,Nat.le_refl _,fun x=>⟨fun _=>rfl,fun d e=>by rw [hf x] at e;cases e⟩⟩
 have m1:p1∈[p1,p2,p3]:=by simp
 have m2:p2∈[p1,p2,p3]:=by simp
 have m3:p3∈[p1,p2,p3]:=by simp
 refine q ⟨b,dx,p1,p2,p3,fun i=>[p4,p5,p6,p7,p8,p9].getD i p9⟩ G9 rfl I9.k ⟨(hd _ m1).2,(hd _ m2).2,(hd _ m3).2,fun i hi=>(hl _ (g i hi)).2⟩ ⟨I9.hb,?_,?_,?_,fun i j hi hj e=>jfG n6 hi hj e,z _ (fun _=>rfl) _ m1,z _ (fun _=>rfl) _ m2,⟨[],(hd _ m3).1,Nat.le_refl _,rfl⟩,fun i hi=>⟨[],(hl _ (g i hi)).1,jw,Nat.le_refl _⟩⟩
 ·exact fun e=>(List.nodup_cons.mp nd).1 (by rw [show p1=p2 from e];simp)
 ·exact fun e=>(List.nodup_cons.mp nd).1 (by rw [show p1=p3 from e];simp)
 ·exact fun e=>(List.nodup_cons.mp (List.nodup_cons.mp nd).2).1 (by rw [show p2=p3 from e];simp)
end
end LW
namespace L2
open PySem PySem.Spec PyProof.Rows PySem.W PySem.Builtin PySem.Builtin.Str
section
variable {X:Cx}
def jht (K:W.Frag) (ta:TE):TT:=fun σ H Q=>ta σ H fun x H'=>∃ k,jf1 K x H' k∧Q k H'
theorem jcJ {a:Expr} {ta:TE} (ha:QE X a ta) (he:∀ whole,isTrue a X.env whole=(do let v ← whole;standAt a.pos;holding [v] (truthy v)):=by intro _;rfl):QT X a (jht X.K ta):=⟨jdz ha.h he⟩
theorem jhr {K:W.Frag} {H:Hp} {a:Addr} {xs:List V} (h:H a=some (.lst xs)):jf1 K (.ref a) H (!xs.isEmpty):=.inl ⟨xs,SqL.of h,rfl⟩
theorem jeJ {k k':Nat} {x:Str} {C:Addr} {ps:List Str} {sp:Sp} {p pos:Pos} (F:MkFn X.prog X.w X.K X.mg X.base k x C ps sp) (hr:Room k' X.A) (hk:k+1≤k':=by decide) (hg:Gl X x:=by rfl) (hd:(x == ("__debug__" : Str))=false:=by decide):QE X (.Call (.Name x p) [] [] pos) (jf9 C sp [] E0 jc6):=by
 obtain ⟨f,fd,M,G,b,m⟩:=F.ex
 exact ⟨jdI M G (hr.mono hk) hg m b .nil jgh hd⟩
end
end L2
namespace LW
open PySem L2
abbrev DA:Type:=Prod D Addr
def qQ (T:List DA) (p:DA):List DA:=match T.getLast? with
 | none=>[p]
 | some l=>if l.1=p.1 then T else T++[p]
def kr (ps:List DA):List DA:=ps.foldl qQ []
def jas:Sp:=fun vs H Q _=>∃ (a:Addr) (ps:List DA),vs=[.ref a]∧H a=some (.lst ((ps.map (·.2)).map V.ref))∧(∀ q∈ps,Held H q.1 (.ref q.2))∧SortT (ps.map (·.1)) 200∧ps.length≤1000∧
 ∀ l qs H',Same H H'→H l=none→qs.Perm ps→(qs.map (·.1)).Pairwise (fun a b=>dLt b a=false)→H' l=some (.lst (((kr qs).map (·.2)).map V.ref))→Q (.ref l) H'
theorem jdR {T:List DA} {p:DA}:∀ q∈qQ T p,q∈T∨q=p:=by
 unfold qQ
 intro q hq
 split at hq
 ·exact .inr (List.mem_singleton.mp hq)
 ·split at hq
  ·exact .inl hq
  ·rcases List.mem_append.mp hq with h | h
   ·exact .inl h
   ·exact .inr (List.mem_singleton.mp h)
theorem KC (ps:List DA) (p:DA):kr (ps++[p])=qQ (kr ps) p:=by
 unfold kr
 rw [List.foldl_append]
 rfl
theorem JD (ps:List DA):∀ q∈kr ps,q∈ps:=by
 have:∀ (ps T:List DA),∀ q∈ps.foldl qQ T,q∈T∨q∈ps:=by
  intro ps
  induction ps with
  | nil=>intro T q hq;exact .inl hq
  | cons p ps ih=>
   intro T q hq
   rcases ih _ q hq with h | h
   ·rcases jdR q h with h | h
    ·exact .inl h
    ·exact .inr (by rw [h];exact List.mem_cons_self ..)
   ·exact .inr (List.mem_cons_of_mem _ h)
 intro q hq
 rcases this ps [] q hq with h | h
 ·cases h
 ·exact h
theorem Yt (ps:List DA):(kr ps).length≤ps.length:=by
 have:∀ (ps T:List DA),(ps.foldl qQ T).length≤T.length+ps.length:=by
  intro ps
  induction ps with
  | nil=>intro T;exact Nat.le_refl _
  | cons p ps ih=>
   intro T
   refine Nat.le_trans (ih _) ?_
   have:(qQ T p).length≤T.length+1:=by
    unfold qQ
    split
    ·simp
    ·split
     ·omega
     ·simp
   simp only [List.length_cons]
   omega
 have:=this ps []
 simp only [List.length_nil,Nat.zero_add] at this
 exact this
section
variable {P:Program} {w:World} {K:W.Frag} {mg:Str→Option Value} {base:Heap}
theorem jfu {f:Addr} {fd:FuncData} (F:Fun K "each_once" "each_once" qh f fd) (B:Free0 mg):FnOk P w K mg base CX0 14 f fd ["things"] jas:=by
 have sc:FnScope ["things","told","thing"] ["things"] (jp qh):=fQ
 refine F.okZ sc (fun vs H Q E h=>?_) (fun cdv A outer s H vs Q E hr h=>?_)
 ·obtain ⟨a,ps,rfl,_⟩:=h
  rfl
 have hu3:(A.deeper (PyProof.Rows.envOfC "each_once" (jp qh) s.heap.objs.size f cdv)).units+3+200 < cLine:=by have:=hr.un;omega
 have hu9:(A.deeper (PyProof.Rows.envOfC "each_once" (jp qh) s.heap.objs.size f cdv)).units+1+200 < cLine:=by omega
 obtain ⟨a,ps,rfl,ha,hk,hS,hl,q⟩:=h
 refine ⟨_,(jd (jv (i:=1) sc.nd rfl oQ (jY jb))
   (jd (zY PassesOwn.never rfl (zG (kW (Jo (n:=200) hu3) (by rfl) B.sorted_ JM (ja (zpv 0) jb))) (jC (i:=2) sc.nd rfl oQ) (jh (jL (Kb (YK (jcJ (zpv 1))) (JZ (jy (jfn 200 hu9) (jm jV (zpv 1) (jcL jcW jc) (fun _ _=>rfl)) (zpv 2) (jH _)))).pt (jh (jz (ko PySem.F.plainAttrs_list PySem.F.slot_list_append PySem.F.type_list_append j0 (zpv 1) (ja (zpv 2) jb)))) jG)))
   (jh (jx (zpv 1))))),?_⟩
 refine jI (σ':=[some (.ref a),none,none]) rfl ?_
 refine ⟨sm rfl,fun l0 h0=>?_⟩
 refine gQ ?_
 have s1:=jj h0 (.lst [])
 have e1:upd H l0 (.lst []) l0=some (.lst []):=jg
 generalize upd H l0 (.lst [])=H1 at *
 refine ⟨_,rfl,a,ps,rfl,s1 _ _ ha,fun q hq=>(hk q hq).mono s1,hS,hl,fun ls qs hls hp hs=>?_⟩
 have s2:=jj hls (.lst ((qs.map (·.2)).map V.ref))
 have e2:upd H1 ls (.lst ((qs.map (·.2)).map V.ref)) ls=some (.lst ((qs.map (·.2)).map V.ref)):=jg
 generalize upd H1 ls (.lst ((qs.map (·.2)).map V.ref))=H2 at *
 have n1:l0≠ls:=jt e1 hls
 have hk2:∀ q∈qs,Held H2 q.1 (.ref q.2):=fun q hq=>((hk q (hp.mem_iff.mp hq)).mono s1).mono s2
 have hq:qs.length≤1000:=by rw [hp.length_eq];exact hl
 let Pv:Nat→St→Hp→Prop:=fun i σ G=>∃ u,σ=[some (.ref a),some (.ref l0),u]∧(∀ b o,b≠l0→H2 b=some o→G b=some o)∧G l0=some (.lst (((kr (qs.take i)).map (·.2)).map V.ref))
 refine ⟨ls,rfl,⟨_,SqL.of e2⟩,?_⟩
 refine Z5 (xs:=(qs.map (·.2)).map V.ref) Pv ⟨none,rfl,fun _ _ _ e=>e,s2 _ _ e1⟩ ?_ ?_ ?_
 ·rintro i σ G _ ⟨u,rfl,k,_⟩
  exact SqL.of (k _ _ n1.symm e2)
 ·rintro i x σ G hx ⟨u,rfl,k,hT⟩
  have hi:i < qs.length:=by have:=(List.getElem?_eq_some_iff.mp hx).1;simpa using this
  have ex:x=.ref qs[i].2:=by
   rw [List.getElem?_map,List.getElem?_map,List.getElem?_eq_getElem hi] at hx
   exact (Option.some.inj hx).symm
  subst ex
  refine gQ ?_
  have tkG:∀ q∈qs,Held G q.1 (.ref q.2):=fun q hq=>(show TK H2 G from fun b xs e=>k b _ (jD e (s2 _ _ e1) (by intro z;cases z)) e).held (hk2 q hq)
  have hm:qs[i]∈qs:=List.getElem_mem hi
  have et:qs.take (i+1)=qs.take i++[qs[i]]:=by rw [List.take_succ,List.getElem?_eq_getElem hi];rfl
  have hsub:=JD (qs.take i)
  have hlen:=Yt (qs.take i)
  have hpn:kr (qs.take (i+1))=qQ (kr (qs.take i)) qs[i]:=by rw [et,KC]
  generalize qs[i]=p at *
  generalize hTT:kr (qs.take i)=T at *
  have hTl:T.length≤1000:=Nat.le_trans hlen (by rw [List.length_take];omega)
  have app:qQ T p=T++[p]→(jc7 (tBM K "list" jbs (jap 1) (ja7 (jap 2) jc6))) { nx:=Pv (i+1),rt:=Q,ct:=Pv (i+1),bk:=jgr (jap 1) { nx:=fun x H'=>Q V.non H',rt:=Q } } [some (.ref a),some (.ref l0),some (.ref p.2)] G:=fun e=>by
   refine ⟨_,rfl,.inl ⟨rfl,_,SqL.of hT⟩,_,rfl,l0,_,_,rfl,rfl,hT,jJ (by rw [List.length_map,List.length_map];exact hTl),⟨_,rfl,fun b o hb eb=>jo hb (k b o hb eb),?_⟩⟩
   rw [jg,hpn,e,List.map_append,List.map_append]
   rfl
  rcases List.eq_nil_or_concat T with rfl | ⟨T',l,rfl⟩
  ·exact ⟨_,rfl,_,jhr hT,kO (kO (app rfl))⟩
  ·rw [List.concat_eq_append] at hT hsub hpn app hTl hlen
   have hg:(T'++[l]).getLast?=some l:=by simp
   have hT':G l0=some (.lst ((T'.map (·.2)).map V.ref++[.ref l.2])):=by rw [hT,List.map_append,List.map_append];rfl
   have hl2:l∈qs:=List.mem_of_mem_take (hsub l (by simp))
   have tr:∀ q∈qs,∃ ds xs,q.1=.tup ds∧G q.2=some (.tup xs)∧HeldL G ds xs∧D.depthL ds≤200:=fun q hq=>by
    have hm':q.1∈ps.map (·.1):=List.mem_map.mpr ⟨q,hp.mem_iff.mp hq,rfl⟩
    obtain ⟨ds,e⟩:=hS.tup _ hm'
    have hd:=hS.dep _ hm'
    have hh:=tkG q hq
    rw [e] at hd hh
    obtain ⟨b,xs,eb,h1,h2⟩:=jQ hh
    cases eb
    exact ⟨ds,xs,e,h1,h2,Nat.le_trans (Nat.le_succ _) hd⟩
   obtain ⟨d1,x1,f1,g1,k1,j1⟩:=tr l hl2
   obtain ⟨d2,x2,f2,g2,k2,_⟩:=tr p hm
   have zt:=jhr (K:=K) hT'
   rw [show (!((T'.map (·.2)).map V.ref++[V.ref l.2]).isEmpty)=true by simp] at zt
   refine ⟨_,rfl,true,zt,kh ?_⟩
   refine ⟨_,rfl,1,rfl,l0,_,-1,.ref l.2,rfl,rfl,SqL.of hT',jeC _ _,_,rfl,l.2,p.2,x1,x2,d1,d2,rfl,rfl,g1,g2,j1,k1,k2,_,rfl,?_⟩
   have ec:qQ (T'++[l]) p=if d1=d2 then T'++[l] else (T'++[l])++[p]:=by
    unfold qQ
    rw [hg]
    show (if l.1=p.1 then _ else _)=_
    by_cases z:d1=d2
    ·rw [if_pos z,if_pos (by rw [f1,f2,z])]
    ·rw [if_neg z,if_neg (by rw [f1,f2];exact fun e=>z (by cases e;rfl))]
   by_cases z:d1=d2
   ·rw [decide_eq_true z]
    exact kh ⟨_,rfl,k,by rw [hpn,ec,if_pos z];exact hT⟩
   ·rw [decide_eq_false z]
    exact kO (app (by rw [ec,if_neg z]))
 ·rintro σ G ⟨u,rfl,k,hT⟩
  refine ⟨_,rfl,?_⟩
  rw [List.length_map,List.length_map,List.take_length] at hT
  exact q l0 qs G (fun b o e=>k b o (jt e h0) (s2 _ _ (s1 _ _ e))) h0 hp hs hT
end
abbrev YZ:Stmt:=top 8
abbrev Kv:Stmt:=top 9
theorem Yp (R:List Rw) (r:Rw):∀ (c:Cs) (n:Nat),c.rows (R++[r]) n=(c.rows R n).take (n+R.length) r:=by
 induction R with
 | nil=>intro c n;rfl
 | cons q R ih=>
  intro c n
  show (c.take n q).rows (R++[r]) (n+1)=((c.take n q).rows R (n+1)).take (n+(R.length+1)) r
  rw [ih,show n+1+R.length=n+(R.length+1) by omega]
def kf (R:List Rw) (k:Cl):Cs:=(Cs.none.rows R 0).deny k
theorem qS {H:Hp}:∀ {ds:List D} {xs:List V},HeldL H ds xs→(∀ d∈ds,∃ es,d=.tup es)→∃ ps:List DA,ps.map (·.1)=ds∧xs=(ps.map (·.2)).map V.ref∧∀ q∈ps,Held H q.1 (.ref q.2)
 | [],_,h,_=>⟨[],rfl,jO h,fun _ z=>nomatch z⟩
 | d :: ds,_,h,ht=>by
  obtain ⟨v,r,rfl,h1,h2⟩:=jk h
  obtain ⟨ps,e1,e2,e3⟩:=qS h2 fun d hd=>ht d (List.mem_cons_of_mem _ hd)
  obtain ⟨es,rfl⟩:=ht d (List.mem_cons_self ..)
  obtain ⟨a,xs,rfl,_,_⟩:=jQ h1
  refine ⟨(.tup es,a) :: ps,by rw [List.map_cons,e1],by rw [List.map_cons,List.map_cons,e2],fun q hq=>?_⟩
  rcases List.mem_cons.mp hq with rfl | hq
  ·exact h1
  ·exact e3 q hq
theorem zQ {H:Hp}:∀ {ds:List D} {xs:List V} {i:Nat} {d:D} {x:V},HeldL H ds xs→ds[i]?=some d→xs[i]?=some x→Held H d x
 | [],_,i,_,_,_,e,_=>by simp at e
 | d :: ds,_,i,_,_,h,e,f=>by
  obtain ⟨v,r,rfl,h1,h2⟩:=jk h
  cases i with
  | zero=>cases e;cases f;exact h1
  | succ i=>exact zQ h2 e f
theorem qP {H:Hp}:∀ {ps:List DA},(∀ q∈ps,Held H q.1 (.ref q.2))→HeldL H (ps.map (·.1)) ((ps.map (·.2)).map V.ref)
 | [],_=>jw
 | p :: ps,h=>je (h p (List.mem_cons_self ..)) (qP fun q hq=>h q (List.mem_cons_of_mem _ hq))
def Cs.once (c:Cs) (es:List D):Cs:={ c with l:=fun i=>if i=2 then es else c.l i }
def jat (C o1 o2:Addr):Sp:=fun vs H Q _=>∃ (a:Addr) (R:List Rw) (rs:List V) (k:Cl) (v:V),vs=[.ref a,v]∧H a=some (.lst rs)∧HeldL H (R.map Rw.toD) rs∧R.length≤40∧Own H o1 o2∧Held H k.toD v∧SortT ((kf R k).l 2) 200∧
 ∀ (A:CA) (ps qs:List DA) (H':Hp),Same H H'→H (A.l 2)=none→ps.map (·.1)=(kf R k).l 2→qs.Perm ps→(qs.map (·.1)).Pairwise (fun a b=>dLt b a=false)→CsAt C 330 A ((kf R k).once ((kr qs).map (·.1))) H'→Q (.ref A.o) H'
section
variable {P:Program} {w:World} {K:W.Frag} {mg:Str→Option Value} {base:Heap} {C o1 o2:Addr}
theorem jfz {f:Addr} {fd:FuncData} (T:ClsC K C) (F:Fun K "gathered" "gathered" yf f fd) (B:Free0 mg) (Z_enumerate:mg "enumerate" = none) (M_Case:MkFn P w K mg base 1 "Case" C ["self"] (jdl C)) (F_take_row:Fn P w K mg base 6 "take_row" ["case","n","row"] (jdf C)) (F_deny:Fn P w K mg base 5 "deny" ["case","goal"] (jdj C o1 o2)) (F_each_once:Fn P w K mg base 14 "each_once" ["things"] jas):FnOk P w K mg base CX0 15 f fd ["rows","goal"] (jat C o1 o2):=by
 have sc:FnScope ["rows","goal","case","n","row"] ["rows","goal"] (jp yf):=fQ
 refine F.okZ sc (fun vs H Q E h=>?_) (fun cdv A outer s H vs Q E hr h=>?_)
 ·obtain ⟨a,R,rs,k,v,rfl,_⟩:=h
  rfl
 obtain ⟨a,R,rs,k,v,rfl,ha,hrs,hl,ho,hv,hS,q⟩:=h
 refine ⟨_,(jd (jv (i:=2) sc.nd rfl oQ (jeJ M_Case hr))
   (jd (zY PassesOwn.never rfl (Kc (by rfl) Z_enumerate (ja (zpv 0) jb)) (kU rfl (jE (jC (i:=3) sc.nd rfl oQ) (jE (jC (i:=4) sc.nd rfl oQ) kD))) (jh (jz (ji F_take_row hr (ja (zpv 2) (ja (zpv 3) (ja (zpv 4) jb)))))))
   (jd (jz (ji F_deny hr (ja (zpv 2) (ja (zpv 1) jb))))
   (jd (qk (zpv 2) (ji F_each_once hr (ja (jZ (zpv 2) rfl) jb)) rfl)
   (jh (jx (zpv 2))))))),?_⟩
 refine jI (σ':=[some (.ref a),some v,none,none,none]) rfl ?_
 try dsimp only [yp]
 refine jh5 ?_
 intro r4 r3 r2 r1
 refine (fun x dx hx hdx hne=>⟨x,dx,rfl,jg,fun B0 H2 eo k2 hn I2=>⟨rfl,?_⟩⟩)
 subst eo
 have fresh:∀ b,upd (upd H dx (.own B0.o)) B0.o (.ins C dx []) b=none→H b=none:=fun b hb=>by
  by_cases z:b=B0.o
  ·rw [z,jg] at hb;cases hb
  by_cases z2:b=dx
  ·rw [jB z,z2,jg] at hb;cases hb
  ·rw [jB z,jB z2] at hb;exact hb
 have s2:Same H H2:=fun b o e=>k2 _ _ (jt e hx) (by rw [jB (jt e hx),jB (jt e hdx)];exact e)
 obtain ⟨n1,n2,n3,n4⟩:=hn
 have mvS:∀ {G:Hp},Mv B0 H2 G→Same H G:=fun m b o e=>m b o (fun z=>by rw [z,fresh _ n1] at e;cases e) (fun z=>by rw [z,fresh _ n2] at e;cases e) (fun z=>by rw [z,fresh _ n3] at e;cases e) (fun i hi z=>by rw [z,fresh _ (n4 i hi)] at e;cases e) (s2 b o e)
 have l2n:=fresh _ (n4 2 (by decide))
 clear fresh hdx hne k2 n1 n2 n3 n4
 refine gQ ?_
 have hrl:=hrs.length
 rw [List.length_map] at hrl
 let Pv:Nat→St→Hp→Prop:=fun i σ G=>∃ u3 u4,σ=[some (.ref a),some v,some (.ref B0.o),u3,u4]∧Mv B0 H2 G∧CsAt C (8 * i) B0 (Cs.none.rows (R.take i) 0) G
 refine ⟨_,rfl,a,rfl,⟨_,SqL.of (s2 _ _ ha)⟩,?_⟩
 refine KP (xs:=rs) Pv ⟨none,none,rfl,.same (fun _ _ e=>e),I2⟩ ?_ ?_ ?_
 ·rintro i σ G _ ⟨u3,u4,rfl,m,_⟩
  exact SqL.of (mvS m _ _ ha)
 ·rintro i y σ G t hy ⟨u3,u4,rfl,m,I⟩ ht
  have hi:i < R.length:=by rw [hrl];exact (List.getElem?_eq_some_iff.mp hy).1
  have hyd:Held H R[i].toD y:=zQ hrs (by rw [List.getElem?_map,List.getElem?_eq_getElem hi];rfl) hy
  have s3:=jj ht (.tup [.int i,y])
  have e3:upd G t (.tup [.int i,y]) t=some (.tup [.int i,y]):=jg
  have I':=I.same s3
  generalize upd G t (.tup [.int i,y])=G1 at *
  refine ⟨t,_,rfl,SqT.of e3,rfl,_,_,rfl,_,_,rfl,rfl,?_⟩
  refine jI (σ':=[some (.ref a),some v,some (.ref B0.o),some (.int i),some y]) rfl ?_
  refine ⟨_,rfl,_,rfl,_,rfl,8 * i,B0,_,i,R[i],y,rfl,I',by omega,(hyd.mono (mvS m)).mono s3,fun G2 m2 I2=>⟨_,_,rfl,m.trans ((Mv.same s3).trans m2),?_⟩⟩
  rw [List.take_succ,List.getElem?_eq_getElem hi]
  show CsAt C (8 * (i+1)) B0 (Cs.none.rows (R.take i++[R[i]]) 0) G2
  rw [Yp,List.length_take,Nat.min_eq_left (Nat.le_of_lt hi),Nat.zero_add]
  exact I2.mono (by omega)
 ·rintro σ G ⟨u3,u4,rfl,m,I⟩
  rw [← hrl,List.take_length] at I
  have sG:=mvS m
  refine ⟨_,rfl,_,rfl,8 * R.length,B0,_,k,v,rfl,I,by omega,ho.tk (.same sG),hv.mono sG,fun G1 m1 I1=>?_⟩
  have I1:CsAt C (8 * R.length+10) B0 (kf R k) G1:=I1
  obtain ⟨xs,l1,l2,l3⟩:=I1.l 2 (by decide)
  obtain ⟨ps,p1,rfl,p3⟩:=qS l2 hS.tup
  have l4:ps.length≤1000:=by
   rw [List.length_map,List.length_map] at l3
   omega
  refine ⟨_,rfl,B0.o,C,B0.dx,_,_,rfl,I1.o,T.c,T.n6,rfl,B0.l 2,ps,rfl,l1,p3,by rw [p1];exact hS,l4,fun lo qs G2 g2 hlo hp hs hG2=>?_⟩
  have I3:=I1.same g2
  refine ⟨_,rfl,B0.o,C,B0.dx,_,rfl,I3.o,T.c,T.n6,by show 9 < 1000;decide,?_⟩
  refine ⟨_,rfl,q { B0 with l:=fun i=>if i=2 then lo else B0.l i } ps qs _ ?_ ?_ p1 hp hs ?_⟩
  ·exact fun b o e=>jo (jt e hx) (g2 _ _ (mvS (m.trans m1) _ _ e))
  ·show H lo=none
   cases z:H lo with
   | none=>rfl
   | some o=>rw [mvS (m.trans m1) _ _ z] at hlo;cases hlo
  ·have t4:TK G2 (upd G2 B0.o (.ins C B0.dx (zu "spots" (V.ref lo) (jie B0)))):=fun b ys e=>jo (jD e I3.o (by intro z;cases z)) e
   have J:=I3.mono (show 8 * R.length+10≤330 by omega)
   obtain ⟨k1,h1,_⟩:=I3.nu
   obtain ⟨k2,h2,_⟩:=I3.ve
   obtain ⟨k3,h3,_⟩:=I3.na
   have lne:∀ j,j < 6→lo≠B0.l j:=fun j hj z=>by
    obtain ⟨ys,y1,_⟩:=I1.l j hj
    rw [z,y1] at hlo
    cases hlo
   refine ⟨jg,I3.n1,I3.n2,I3.n3,fun i j hi hj e=>?_,J.nu.tk t4 fun o=>jo (jD h1 I3.o (by intro z;cases z)),J.ve.tk t4 fun o=>jo (jD h2 I3.o (by intro z;cases z)),J.na.tk fun o=>jo (jD h3 I3.o (by intro z;cases z)),fun i hi=>?_⟩
   ·have e:(if i=2 then lo else B0.l i)=if j=2 then lo else B0.l j:=e
    by_cases a1:i=2
    ·by_cases a2:j=2
     ·rw [a1,a2]
     ·rw [if_pos a1,if_neg a2] at e
      exact absurd e (lne j hj)
    ·by_cases a2:j=2
     ·rw [if_neg a1,if_pos a2] at e
      exact absurd e.symm (lne i hi)
     ·rw [if_neg a1,if_neg a2] at e
      exact I3.inj i j hi hj e
   ·show LAt 330 (if i=2 then (kr qs).map (·.1) else (kf R k).l i) _ (if i=2 then lo else B0.l i)
    by_cases a1:i=2
    ·rw [if_pos a1,if_pos a1]
     refine ⟨_,jo (jD hG2 I3.o (by intro z;cases z)) hG2,t4.heldL ((TK.same g2).heldL (qP fun p hp'=>p3 p (hp.mem_iff.mp (JD qs p hp')))),?_⟩
     rw [List.length_map,List.length_map] at l3 ⊢
     have:=Yt qs
     rw [hp.length_eq] at this
     omega
    ·rw [if_neg a1,if_neg a1]
     obtain ⟨ys,y1,_⟩:=I3.l i hi
     exact (J.l i hi).tk t4 fun o=>jo (jD y1 I3.o (by intro z;cases z))
end
def ZL:D→D
 | .tup [_,u,_]=>u
 | d=>d
def Cs.ends (c:Cs):List D:=(c.l 4++c.l 5).map ZL
def jeE (H:Hp) (o1 o2 a:Addr) (R:List Rw) (k:Cl) (v:V):Prop:=(∃ rs,H a=some (.lst rs)∧HeldL H (R.map Rw.toD) rs)∧R.length≤40∧Own H o1 o2∧Held H k.toD v
def jcE (R:List Rw) (k:Cl) (es:List D):Prop:=∃ ps qs:List DA,ps.map (·.1)=(kf R k).l 2∧qs.Perm ps∧(qs.map (·.1)).Pairwise (fun a b=>dLt b a=false)∧es=(kr qs).map (·.1)
def jbe (o1 o2:Addr):Sp:=fun vs H Q _=>∃ (a:Addr) (R:List Rw) (k:Cl) (v:V),vs=[.ref a,v]∧jeE H o1 o2 a R k v∧SortT ((kf R k).l 2) 200∧
 ∀ (lo:Addr) (es:List D) (xs:List V) (H':Hp),Same H H'→H lo=none→jcE R k es→H' lo=some (.lst xs)→HeldL H' es xs→Q (.ref lo) H'
def jba (o1 o2:Addr):Sp:=fun vs H Q _=>∃ (a:Addr) (R:List Rw) (k:Cl) (v:V),vs=[.ref a,v]∧jeE H o1 o2 a R k v∧SortT ((kf R k).l 2++(kf R k).ends) 200∧(∀ d∈(kf R k).l 4++(kf R k).l 5,∃ x u y,d=.tup [x,u,y])∧
 ∀ (es:List D) (ps qs:List DA) (H':Hp),Same H H'→jcE R k es→ps.map (·.1)=es++(kf R k).ends→qs.Perm ps→(qs.map (·.1)).Pairwise (fun a b=>dLt b a=false)→Q (.int ((kr qs).length:Nat)) H'
theorem ye {ds es:List D} {n:Nat} (x:SortT ds n) (p:∀ d∈es,d∈ds):SortT es n:=⟨⟨fun d hd e he=>x.cmp d (p d hd) e (p e he),fun d hd=>x.dep d (p d hd),fun d hd=>x.tup d (p d hd)⟩,fun d hd=>x.fst d (p d hd)⟩
theorem Kn {R:List Rw} {k:Cl} {es:List D} (h:jcE R k es):∀ d∈es,d∈(kf R k).l 2:=by
 obtain ⟨ps,qs,h1,h2,_,rfl⟩:=h
 intro d hd
 obtain ⟨q,q1,rfl⟩:=List.mem_map.mp hd
 rw [← h1]
 exact List.mem_map.mpr ⟨q,h2.mem_iff.mp (JD _ _ q1),rfl⟩
theorem jet {K:W.Frag} {a p:Addr} {H:Hp} {ds:List D} {xs:List V} {Q:VK} (ha:H a=some (.lst xs)) (hx:HeldL H ds xs) (hp:H p=none) (hl:xs.length≤1000) (hsh:∀ d∈ds,∃ x u y,d=.tup [x,u,y]) (q:∀ ys H',Same H H'→H' p=some (.lst ys)→HeldL H (ds.map ZL) ys→Q (.ref p) H') :
  K1 (Itl K a) p (qd 0) ZB (tOp (jgx K) (jap 0) (tC (.int 1))) Q [none] (upd H p (.lst [])):=by
 have hlen:=hx.length
 refine JK (xs:=xs) (fun i σ' G=>∃ u ys,σ'=[u]∧Same H G∧G p=some (.lst ys)∧HeldL H ((ds.take i).map ZL) ys) ⟨none,[],rfl,jj hp _,jg,jw⟩ ?_ ?_ ?_
 ·rintro i σ' G _ ⟨u,ys,rfl,sG,_⟩
  exact SqL.of (sG _ _ ha)
 ·rintro i x σ' G hxi ⟨u,ys,rfl,sG,hG,hy⟩
  have hi:i < ds.length:=by rw [hlen];exact (List.getElem?_eq_some_iff.mp hxi).1
  obtain ⟨z1,z2,z3,ez⟩:=hsh ds[i] (List.getElem_mem hi)
  have hd:=zQ hx (List.getElem?_eq_getElem hi) hxi
  rw [ez] at hd
  obtain ⟨t,xs',rfl,ht,hx'⟩:=jQ hd
  obtain ⟨y1,r,rfl,h1,h2⟩:=jk hx'
  obtain ⟨y2,r,rfl,h3,h4⟩:=jk h2
  unfold qd ZB
  refine kO ?_
  refine ⟨_,rfl,t,_,_,_,rfl,rfl,SqT.of (sG _ _ ht),jf (j:=1) rfl,ys,hG,jJ ?_,_,_,rfl,?_,jg,?_⟩
  ·rw [← hy.length,List.length_map,List.length_take]
   omega
  ·intro b o e
   rw [jB (jt e hp)]
   exact sG _ _ e
  ·rw [List.take_succ,List.getElem?_eq_getElem hi,List.map_append]
   refine kT hy (je ?_ jw)
   rw [ez]
   exact h3
 ·rintro σ' G ⟨u,ys,rfl,sG,hG,hy⟩
  rw [← hlen,List.take_length] at hy
  exact q ys G sG hG hy
section
variable {P:Program} {w:World} {K:W.Frag} {mg:Str→Option Value} {base:Heap} {C o1 o2:Addr}
theorem jdY {f:Addr} {fd:FuncData} (T:ClsC K C) (F:Fun K "spots" "spots" YZ f fd) (F_gathered:Fn P w K mg base 15 "gathered" ["rows","goal"] (jat C o1 o2)):FnOk P w K mg base CX0 16 f fd ["rows","goal"] (jbe o1 o2):=by
 have sc:FnScope ["rows","goal"] ["rows","goal"] (jp YZ):=fQ
 refine F.okZ sc (fun vs H Q E h=>?_) (fun cdv A outer s H vs Q E hr h=>?_)
 ·obtain ⟨a,R,k,v,rfl,_⟩:=h
  rfl
 obtain ⟨a,R,k,v,rfl,⟨⟨rs,ha,hrs⟩,hl,ho,hv⟩,hS,q⟩:=h
 refine ⟨_,(jh (jx (jZ (ji F_gathered hr (ja (zpv 0) (ja (zpv 1) jb))) rfl))),?_⟩
 refine jI (σ':=[some (.ref a),some v]) rfl ?_
 refine ⟨_,rfl,_,rfl,a,R,rs,k,v,rfl,ha,hrs,hl,ho,hv,hS,fun B ps qs H1 s1 hn p1 hp hs I=>?_⟩
 obtain ⟨xs,l1,l2,_⟩:=I.l 2 (by decide)
 exact ⟨B.o,C,B.dx,_,_,rfl,I.o,T.c,T.n6,rfl,q _ _ xs H1 s1 hn ⟨ps,qs,p1,hp,hs,rfl⟩ l1 l2⟩
theorem jdT {f:Addr} {fd:FuncData} (T:ClsC K C) (F:Fun K "width" "width" Kv f fd) (B:Free0 mg) (F_gathered:Fn P w K mg base 15 "gathered" ["rows","goal"] (jat C o1 o2)) (F_each_once:Fn P w K mg base 14 "each_once" ["things"] jas):FnOk P w K mg base CX0 16 f fd ["rows","goal"] (jba o1 o2):=by
 have sc:FnScope ["rows","goal","case","ends"] ["rows","goal"] (jp Kv):=fQ
 refine F.okZ sc (fun vs H Q E h=>?_) (fun cdv A outer s H vs Q E hr h=>?_)
 ·obtain ⟨a,R,k,v,rfl,_⟩:=h
  rfl
 obtain ⟨a,R,k,v,rfl,⟨⟨rs,ha,hrs⟩,hl,ho,hv⟩,hS,hsh,q⟩:=h
 refine ⟨_,(jd (jv (i:=2) sc.nd rfl oQ (ji F_gathered hr (ja (zpv 0) (ja (zpv 1) jb))))
   (jd (zF (i:=3) sc.nd rfl oQ ["known"] [] rfl (yl (sc:=jp Kv) (N:=["rows","goal","case","ends"]) rfl rfl (by decide +kernel)) (zG (jq jdQ (jZ (zpv 2) rfl) (jZ (zpv 2) rfl))) (fun s H ex=>⟨(jC (i:=0) (show List.Nodup (["known"]:List Str) by decide +kernel) rfl oQ),zE,(jm jfN (zpv 0) jc (fun _ _=>rfl))⟩))
   (jh (jx (kW kM (by rfl) B.len_ yH (ja (ji F_each_once hr (ja (jq jdQ (jZ (zpv 2) rfl) (zpv 3)) jb)) jb)))))),?_⟩
 refine jI (σ':=[some (.ref a),some v,none,none]) rfl ?_
 refine ⟨_,rfl,_,rfl,a,R,rs,k,v,rfl,ha,hrs,hl,ho,hv,ye hS (fun d hd=>List.mem_append_left _ hd),fun A0 ps qs H1 s1 hn p1 hp hs I=>?_⟩
 refine gQ ?_
 obtain ⟨xs,l1,l2,l3⟩:=I.l 4 (by decide)
 obtain ⟨ys,l4,l5,l6⟩:=I.l 5 (by decide)
 refine ⟨_,rfl,A0.o,C,A0.dx,_,_,rfl,I.o,T.c,T.n8,rfl,_,rfl,A0.o,C,A0.dx,_,_,rfl,I.o,T.c,T.n9,rfl,A0.l 4,A0.l 5,xs,ys,rfl,rfl,l1,l4,zL (by omega),fun lc hlc=>?_⟩
 have s2:=jj hlc (.lst (xs++ys))
 have e2:upd H1 lc (.lst (xs++ys)) lc=some (.lst (xs++ys)):=jg
 generalize upd H1 lc (.lst (xs++ys))=H2 at *
 refine ⟨lc,rfl,⟨_,SqL.of e2⟩,fun p hp'=>jet e2 (kT (l2.mono s2) (l5.mono s2)) hp' (by rw [List.length_append];omega) hsh fun zs H3 s3 hz hzs=>?_⟩
 refine gQ ?_
 have hzl:=hzs.length
 rw [List.length_map,List.length_append,l2.length,l5.length] at hzl
 have I3:=I.same (s2.trans s3)
 obtain ⟨ws,l7,l8,l9⟩:=I3.l 2 (by decide)
 refine ⟨_,rfl,A0.o,C,A0.dx,_,_,rfl,I3.o,T.c,T.n6,rfl,_,rfl,A0.l 2,p,ws,zs,rfl,rfl,l7,hz,zL (by omega),fun ld hld=>?_⟩
 have s4:=jj hld (.lst (ws++zs))
 have e4:upd H3 ld (.lst (ws++zs)) ld=some (.lst (ws++zs)):=jg
 generalize upd H3 ld (.lst (ws++zs))=H4 at *
 have hsp:jcE R k ((kr qs).map (·.1)):=⟨ps,qs,p1,hp,hs,rfl⟩
 have hS4:SortT ((kr qs).map (·.1)++(kf R k).ends) 200:=ye hS fun d hd=>by
  rcases List.mem_append.mp hd with hd | hd
  ·exact List.mem_append_left _ (Kn hsp d hd)
  ·exact List.mem_append_right _ hd
 obtain ⟨ps2,g1,g2,g3⟩:=qS (kT (l8.mono s4) ((hzs.mono s3).mono s4)) hS4.tup
 rw [g2] at e4
 refine ⟨_,ps2,rfl,e4,g3,by rw [g1];exact hS4,?_,fun l qs2 H5 s5 hl5 hp2 hs2 h5=>?_⟩
 ·have:ps2.length=ws.length+zs.length:=by
   have:=congrArg List.length g2
   rw [List.length_append,List.length_map,List.length_map] at this
   exact this.symm
  omega
 ·have hlast:=q _ ps2 qs2 H5 (s1.trans (s2.trans (s3.trans (s4.trans s5)))) hsp g1 hp2 hs2
  refine ⟨l,_,rfl,.inl (SqL.of h5),?_⟩
  rw [List.length_map,List.length_map]
  exact hlast
end
abbrev jeT:Stmt:=top 36
abbrev jbn:Stmt:=top 37
abbrev Y1:Stmt:=top 42
def Wd (x:Str):Prop:=(∀ c∈x.cps.toList,(97≤c∧c≤122)∨c=46)∧x.length≤40
inductive Ver:D→Prop
 | row {r:Str} (h:Wd r):Ver (jgw r)
 | lost {n:Nat} (h:n≤1000):Ver (KF n)
 | put {n:Nat} (h:n≤1000):Ver (yo n)
inductive Src:Nat→D→Prop
 | nought {m:Nat}:Src m J3.1
 | start {m:Nat} {x:Str} (h:Wd x):Src m (YQ x).1
 | pick {m n:Nat} (h:n≤1000):Src m (jbv n).1
 | own {m:Nat} {i:Int} (h:i.natAbs≤1000):Src m (j4 i).1
 | ent {m:Nat} {v d:D} {c:Int} (hv:Ver v) (hd:Src m d) (hc:c.natAbs < 10 ^ 30):Src (m+1) (qb v (d,c)).1
theorem Src.mono {m:Nat} {d:D} (h:Src m d):∀ {n:Nat},m≤n→Src n d:=by
 induction h with
 | nought=>intro n _;exact .nought
 | start h=>intro n _;exact .start h
 | pick h=>intro n _;exact .pick h
 | own h=>intro n _;exact .own h
 | @ent m v d c hv hd hc ih=>
  intro n hn
  obtain ⟨k,rfl⟩:∃ k,n=k+1:=⟨n - 1,by omega⟩
  exact .ent hv (ih (by omega)) hc
theorem zH {x:Str} (h:x.cps.toList.all (fun c=>decide (97≤c∧c≤122))=true):OkD (.str x):=fun c hc=>.inl (of_decide_eq_true (List.all_eq_true.mp h c hc))
theorem i39 {i:Int} (h:i.natAbs < 10 ^ 30):OkD (.int i):=Nat.lt_of_lt_of_le h (by decide)
theorem n39 {n:Nat} (h:n≤1000):OkD (.int (n:Int)):=by
 show (n:Int).natAbs < 10 ^ 39
 exact Nat.lt_of_le_of_lt (by omega:(n:Int).natAbs≤1000) (by decide)
theorem Ver.ok {v:D} (h:Ver v):OkD v∧v.depth≤1∧v.big≤100:=by
 cases h with
 | @row r h=>exact ⟨⟨zH (by decide +kernel),h.1,trivial⟩,(by show max 0 (max 0 0)+1≤1;decide),by
   show ((Str.ofString "row").length+2)+2+(r.length+2+2+0)+3≤100
   have:=h.2
   have e:(Str.ofString "row").length=3:=rfl
   omega⟩
 | lost h=>exact ⟨⟨zH (by decide +kernel),n39 h,trivial⟩,(by show max 0 (max 0 0)+1≤1;decide),by show ((Str.ofString "lost").length+2)+2+(40+2+0)+3≤100;decide +kernel⟩
 | put h=>exact ⟨⟨zH (by decide +kernel),n39 h,trivial⟩,(by show max 0 (max 0 0)+1≤1;decide),by show ((Str.ofString "put").length+2)+2+(40+2+0)+3≤100;decide +kernel⟩
theorem Src.ok {m:Nat} {d:D} (h:Src m d):OkD d∧d.depth≤2 * m+1∧d.big≤200 * m+100:=by
 induction h with
 | nought=>exact ⟨⟨zH (by decide +kernel),trivial⟩,(by show max 0 0+1≤_;simp),by show ((Str.ofString "nought").length+2)+2+0+3≤_;have e:(Str.ofString "nought").length=6:=rfl;omega⟩
 | @start m x h=>exact ⟨⟨zH (by decide +kernel),h.1,trivial⟩,(by show max 0 (max 0 0)+1≤_;simp),by
   show ((Str.ofString "start").length+2)+2+(x.length+2+2+0)+3≤_
   have:=h.2
   have e:(Str.ofString "start").length=5:=rfl
   omega⟩
 | pick h=>exact ⟨⟨zH (by decide +kernel),n39 h,trivial⟩,(by show max 0 (max 0 0)+1≤_;simp),by show ((Str.ofString "pick").length+2)+2+(40+2+0)+3≤_;have e:(Str.ofString "pick").length=4:=rfl;omega⟩
 | own h=>exact ⟨⟨zH (by decide +kernel),(Nat.lt_of_le_of_lt h (by decide):_ < 10 ^ 39),trivial⟩,(by show max 0 (max 0 0)+1≤_;simp),by show ((Str.ofString "own").length+2)+2+(40+2+0)+3≤_;have e:(Str.ofString "own").length=3:=rfl;omega⟩
 | @ent m v d c hv hd hc ih=>
  obtain ⟨i1,i2,i3⟩:=ih
  obtain ⟨v1,v2,v3⟩:=hv.ok
  refine ⟨⟨zH (by decide +kernel),v1,⟨i1,i39 hc,trivial⟩,trivial⟩,?_,?_⟩
  ·show max 0 (max v.depth (max (max d.depth (max 0 0)+1) 0))+1≤_
   omega
  ·show ((Str.ofString "entry").length+2)+2+(v.big+2+((d.big+2+(40+2+0)+3)+2+0))+3≤_
   have e:(Str.ofString "entry").length=5:=rfl
   omega
def Gp (m:Nat) (p:P2):Prop:=Src m p.1∧p.2.natAbs < 10 ^ 30
def Shw (d:D):Prop:=OkD d∧d.depth≤200∧d.big≤100000
theorem Gp.shw {m:Nat} {p:P2} (h:Gp m p) (hm:m≤90):Shw (p2 p):=by
 obtain ⟨a,b,c⟩:=h.1.ok
 refine ⟨⟨a,i39 h.2,trivial⟩,?_,?_⟩
 ·show max p.1.depth (max 0 0)+1≤200
  omega
 ·show p.1.big+2+(40+2+0)+3≤100000
  omega
theorem kR {m:Nat} {p q:P2} (h:Gp m p) (k:Gp m q) (hm:m≤90):Shw (kx p q):=by
 obtain ⟨a,b,c⟩:=h.1.ok
 obtain ⟨a',b',c'⟩:=k.1.ok
 refine ⟨⟨a,a',?_,trivial⟩,?_,?_⟩
 ·show (q.2 - p.2).natAbs < 10 ^ 39
  have:=h.2
  have:=k.2
  omega
 ·show max p.1.depth (max q.1.depth (max 0 0))+1≤200
  omega
 ·show p.1.big+2+(q.1.big+2+(40+2+0))+3≤100000
  omega
section
variable {P:Program} {w:World} {K:W.Frag} {mg:Str→Option Value} {base:Heap}
theorem jfs {f:Addr} {fd:FuncData} (F:Fun K "_law_tie" "_law_tie" jeT f fd):FnOk P w K mg base CX0 1 f fd ["_law_one","_law_other"] yr:=by
 have sc:FnScope ["_law_one","_law_other"] ["_law_one","_law_other"] (jp jeT):=fQ
 refine F.okZ sc (fun vs H Q E h=>?_) (fun cdv A outer s H vs Q E hr h=>?_)
 ·obtain ⟨v,u,p,q,rfl,_⟩:=h
  rfl
 obtain ⟨v,u,p,q,rfl,hv,hu,k⟩:=h
 refine ⟨_,(jh (jx (zpd (jX (jr (qE (jm ju (zpv 0) jc (fun _ _=>rfl))) (jr (qE (jm ju (zpv 1) jc (fun _ _=>rfl))) (jr (qE (jq qw (jm ju (zpv 1) jc (fun _ _=>rfl)) (jm ju (zpv 0) jc (fun _ _=>rfl)))) jN))))))),?_⟩
 refine jI (σ':=[some v,some u]) rfl ?_
 obtain ⟨t,x,rfl,ht,hx⟩:=yB hv
 obtain ⟨t',y,rfl,ht',hy⟩:=yB hu
 refine ⟨kx p q,⟨_,rfl,Nat.le_of_ble_eq_true rfl,_,_,rfl,(fun G sG Q q=>?_),_,_,rfl,(fun G sG Q q=>?_),_,_,rfl,(fun G sG Q q=>?_),rfl⟩,fun v H' s h=>k v H' s h⟩
 ·exact ⟨_,rfl,t,_,_,_,rfl,rfl,SqT.of (sG _ _ ht),jf (j:=0) rfl,q _ _ (fun _ _ e=>e) (hx.mono sG)⟩
 ·exact ⟨_,rfl,t',_,_,_,rfl,rfl,SqT.of (sG _ _ ht'),jf (j:=0) rfl,q _ _ (fun _ _ e=>e) (hy.mono sG)⟩
 ·exact ⟨_,rfl,t',_,_,_,rfl,rfl,SqT.of (sG _ _ ht'),jf (j:=1) rfl,_,rfl,t,_,_,_,rfl,rfl,SqT.of (sG _ _ ht),jf (j:=1) rfl,_,_,rfl,rfl,q _ _ (fun _ _ e=>e) jK⟩
theorem jd0 {f:Addr} {fd:FuncData} (F:Fun K "_law_more" "_law_more" jbn f fd):FnOk P w K mg base CX0 1 f fd ["_law_one","_law_more_here"] qg:=by
 have sc:FnScope ["_law_one","_law_more_here"] ["_law_one","_law_more_here"] (jp jbn):=fQ
 refine F.okZ sc (fun vs H Q E h=>?_) (fun cdv A outer s H vs Q E hr h=>?_)
 ·obtain ⟨v,d,p,rfl,_⟩:=h
  rfl
 obtain ⟨v,d,p,rfl,hv,k⟩:=h
 refine ⟨_,(jh (jx (zpd (jX (jr (qE (jm ju (zpv 0) jc (fun _ _=>rfl))) (jr (qE (jq kN (jm ju (zpv 0) jc (fun _ _=>rfl)) (zpv 1))) jN)))))),?_⟩
 refine jI (σ':=[some v,some (.int d)]) rfl ?_
 obtain ⟨t,x,rfl,ht,hx⟩:=yB hv
 refine ⟨p2 (mor p d),⟨_,rfl,Nat.le_of_ble_eq_true rfl,_,_,rfl,(fun G sG Q q=>?_),_,_,rfl,(fun G sG Q q=>?_),rfl⟩,fun v H' s h=>k v H' s h⟩
 ·exact ⟨_,rfl,t,_,_,_,rfl,rfl,SqT.of (sG _ _ ht),jf (j:=0) rfl,q _ _ (fun _ _ e=>e) (hx.mono sG)⟩
 ·exact ⟨_,rfl,t,_,_,_,rfl,rfl,SqT.of (sG _ _ ht),jf (j:=1) rfl,_,rfl,_,_,rfl,rfl,q _ _ (fun _ _ e=>e) jK⟩
theorem jfA {f:Addr} {fd:FuncData} (F:Fun K "_law_entry" "_law_entry" Y1 f fd):FnOk P w K mg base CX0 1 f fd ["_law_version_here","_law_spot_here"] yq:=by
 have sc:FnScope ["_law_version_here","_law_spot_here"] ["_law_version_here","_law_spot_here"] (jp Y1):=fQ
 refine F.okZ sc (fun vs H Q E h=>?_) (fun cdv A outer s H vs Q E hr h=>?_)
 ·obtain ⟨v,u,d,p,rfl,_⟩:=h
  rfl
 obtain ⟨v,u,d,p,rfl,hv,hu,k⟩:=h
 refine ⟨_,(jh (jx (zpd (jX (jr (jX (jr kz (jr (ke 0) (jr (ke 1) jN)))) (jr qv jN)))))),?_⟩
 refine jI (σ':=[some v,some u]) rfl ?_
 exact ⟨p2 (qb d p),⟨_,rfl,Nat.le_of_ble_eq_true rfl,_,_,rfl,⟨_,rfl,Nat.le_of_ble_eq_true rfl,_,_,rfl,rfl,_,_,rfl,⟨_,rfl,hv⟩,_,_,rfl,⟨_,rfl,hu⟩,rfl⟩,_,_,rfl,rfl,rfl⟩,fun v H' s h=>k v H' s h⟩
end
abbrev Yo:Stmt:=top 40
abbrev Kx:Stmt:=top 38
abbrev Y0:Stmt:=top 39
abbrev zO:Stmt:=top 41
def TAt (n:Nat) (L:List D) (H:Hp) (a:Addr):Prop:=∃ (ds:List D) (kvs:List (Key×V)),H a=some (.dK kvs)∧kvs.map (·.1)=ds.map (fun d=>Sum.inr d.py.shown)∧HeldL H ds (kvs.map (·.2))∧ds.Nodup∧(∀ d,d∈ds↔d∈L)∧(∀ d∈ds,OkD d)∧kvs.length≤n
theorem TAt.tk {n:Nat} {L:List D} {H H':Hp} {a:Addr} (h:TAt n L H a) (t:TK H H') (e:∀ o,H a=some o→H' a=some o):TAt n L H' a:=by
 obtain ⟨ds,kvs,h1,h2,h3,h4,h5,h6,h7⟩:=h
 exact ⟨ds,kvs,e _ h1,h2,t.heldL h3,h4,h5,h6,h7⟩
theorem TAt.congr {n m:Nat} {L L':List D} {H:Hp} {a:Addr} (h:TAt n L H a) (hn:n≤m) (e:∀ d,d∈L↔d∈L'):TAt m L' H a:=by
 obtain ⟨ds,kvs,h1,h2,h3,h4,h5,h6,h7⟩:=h
 exact ⟨ds,kvs,h1,h2,h3,h4,fun d=>(h5 d).trans (e d),h6,Nat.le_trans h7 hn⟩
theorem YA {H:Hp} {k:Key} {d:D} {v:V} (hv:Held H d v):∀ {ds:List D} {kvs:List (Key×V)},HeldL H ds (kvs.map (·.2))→(∀ (i:Nat) (e:D) (p:Key×V),ds[i]?=some e→kvs[i]?=some p→p.1=k→e=d)→HeldL H ds ((kvs.map fun kv=>if kv.1=k then (kv.1,v) else kv).map (·.2))
 | [],[],h,_=>h
 | [],_ :: _,h,_=>by cases jO h
 | e :: ds,[],h,_=>by obtain ⟨_,_,z,_⟩:=jk h;cases z
 | e :: ds,p :: kvs,h,hs=>by
  obtain ⟨x,r,z,h1,h2⟩:=jk h
  cases z
  rw [List.map_cons,List.map_cons]
  refine je ?_ (YA hv h2 fun i e p a b=>hs (i+1) e p a b)
  by_cases c:p.1=k
  ·rw [if_pos c,hs 0 e p rfl rfl c]
   exact hv
  ·rw [if_neg c]
   exact h1
theorem TAt.put {n:Nat} {L:List D} {H:Hp} {a:Addr} {kvs:List (Key×V)} {d:D} {v:V} (h:TAt n L H a) (e:H a=some (.dK kvs)) (hv:Held H d v) (hd:OkD d):TAt (n+1) (L++[d]) (upd H a (.dK (kc kvs (.inr d.py.shown) v))) a:=by
 have t:TK H (upd H a (.dK (kc kvs (.inr d.py.shown) v))):=fun b xs eb=>jo (jD eb e (by intro z;cases z)) eb
 obtain ⟨ds,k1,h1,h2,h3,h4,h5,h6,h7⟩:=h
 obtain rfl:k1=kvs:=by rw [h1] at e;cases e;rfl
 have hin:∀ q,q∈L++[d]↔q∈L∨q=d:=fun q=>by rw [List.mem_append,List.mem_singleton]
 by_cases z:d∈ds
 ·have kin:(Sum.inr d.py.shown:Key)∈k1.map (·.1):=by rw [h2];exact List.mem_map.mpr ⟨d,z,rfl⟩
  refine ⟨ds,_,jg,(jbE _ kin).trans h2,?_,h4,fun q=>?_,h6,Nat.le_trans (ky _ _ _) (Nat.succ_le_succ h7)⟩
  ·obtain ⟨p,p1,p2'⟩:=List.mem_map.mp kin
   refine t.heldL ?_
   unfold kc
   rw [if_pos (List.any_eq_true.mpr ⟨p,p1,decide_eq_true p2'⟩)]
   refine YA hv h3 fun i x p a b c=>?_
   have:(k1.map (·.1))[i]?=some p.1:=by rw [List.getElem?_map,b];rfl
   rw [h2,List.getElem?_map,a] at this
   have:Sum.inr x.py.shown=p.1:=Option.some.inj this
   rw [c] at this
   exact JB (h6 x (List.mem_of_getElem? a)) hd (Sum.inr.inj this)
  ·rw [hin,← h5]
   exact ⟨.inl,fun w=>w.elim id fun y=>by rw [y];exact z⟩
 ·have kout:(Sum.inr d.py.shown:Key) ∉ k1.map (·.1):=fun y=>by
   rw [h2] at y
   obtain ⟨x,x1,x2⟩:=List.mem_map.mp y
   have:=JB (h6 x x1) hd (Sum.inr.inj x2)
   rw [this] at x1
   exact z x1
  have ep:kc k1 (Sum.inr d.py.shown) v=k1++[(Sum.inr d.py.shown,v)]:=by
   unfold kc
   refine if_neg fun y=>?_
   obtain ⟨p,p1,p2'⟩:=List.any_eq_true.mp y
   exact kout (List.mem_map.mpr ⟨p,p1,of_decide_eq_true p2'⟩)
  rw [ep] at t ⊢
  refine ⟨ds++[d],_,jg,by rw [List.map_append,List.map_append,h2];rfl,?_,?_,fun q=>?_,fun q hq=>?_,by rw [List.length_append];exact Nat.succ_le_succ h7⟩
  ·rw [List.map_append]
   exact t.heldL (kT h3 (je hv jw))
  ·rw [List.nodup_append]
   exact ⟨h4,by simp,fun x hx y hy=>by cases List.mem_singleton.mp hy;exact fun w=>z (by rw [← w];exact hx)⟩
  ·rw [hin,← h5,List.mem_append,List.mem_singleton]
  ·rcases List.mem_append.mp hq with hq | hq
   ·exact h6 q hq
   ·rw [List.mem_singleton.mp hq];exact hd
structure BA where
 o:Addr
 st:Addr
 nw:Addr
 vs:Addr
 t:Nat→Addr
 l:Nat→Addr
def qV (A:BA):List (Key×V):=[(.inr "stands",.ref A.st),(.inr "now",.ref A.nw),(.inr "versions",.ref A.vs),(.inr "spots",.ref (A.t 0)),(.inr "ends",.ref (A.t 1)),(.inr "ties",.ref (A.t 2)),(.inr "each",.ref (A.l 0)),(.inr "rise",.ref (A.l 1)),(.inr "puts",.ref (A.l 2))]
def tOf (c:Cs) (i:Nat):List D:=if i=0 then c.l 2 else if i=1 then c.ends else c.l 1
structure BxAt (n:Nat) (A:BA) (c:Cs) (H:Hp):Prop where
 o:H A.o=some (.dK (qV A))
 nd:[A.o,A.st,A.nw,A.t 0,A.t 1,A.t 2].Nodup
 inj:∀ i j,i < 3→j < 3→A.l i=A.l j→i=j
 st:DAt n (fun x=>(c.nu x).map p2) H A.st
 nw:DAt n c.ve H A.nw
 vs:∃ kvs:List (List Key×V),H A.vs=some (.dT kvs)∧kvs.length≤n
 t:∀ i,i < 3→TAt n (tOf c i) H (A.t i)
 l:∀ i,i < 3→∃ xs,H (A.l i)=some (.lst xs)∧xs.length≤n
def MvB (A:BA) (H H':Hp):Prop:=∀ b o,b≠A.st→b≠A.nw→b≠A.vs→(∀ i,i < 3→b≠A.t i)→(∀ i,i < 3→b≠A.l i)→H b=some o→H' b=some o
theorem MvB.same {A:BA} {H H':Hp} (s:Same H H'):MvB A H H':=fun b o _ _ _ _ _ e=>s b o e
theorem MvB.trans {A:BA} {H H1 H2:Hp} (h:MvB A H H1) (k:MvB A H1 H2):MvB A H H2:=fun b o a1 a2 a3 a4 a5 e=>k b o a1 a2 a3 a4 a5 (h b o a1 a2 a3 a4 a5 e)
theorem DAt.mono {n m:Nat} {f:Str→Option D} {H:Hp} {a:Addr} (h:DAt n f H a) (k:n≤m):DAt m f H a:=by
 obtain ⟨kvs,h1,h2,h3⟩:=h
 exact ⟨kvs,h1,Nat.le_trans h2 k,h3⟩
theorem BxAt.keep {n m:Nat} {A:BA} {c:Cs} {H H':Hp} (I:BxAt n A c H) (hm:n≤m) (t:TK H H') (e:∀ a o,H a=some o→(∀ xs,o≠.tup xs)→H' a=some o):BxAt m A c H':=by
 obtain ⟨k1,h1,_⟩:=I.st
 obtain ⟨k2,h2,_⟩:=I.nw
 obtain ⟨k3,h3,h4⟩:=I.vs
 refine ⟨e _ _ I.o (by intro _ z;cases z),I.nd,I.inj,(I.st.tk t fun o ho=>by rw [h1] at ho;cases ho;exact e _ _ h1 (by intro _ z;cases z)).mono hm,(I.nw.tk t fun o ho=>by rw [h2] at ho;cases ho;exact e _ _ h2 (by intro _ z;cases z)).mono hm,⟨k3,e _ _ h3 (by intro _ z;cases z),Nat.le_trans h4 hm⟩,fun i hi=>?_,fun i hi=>?_⟩
 ·have:=I.t i hi
  refine (this.tk t fun o ho=>?_).congr hm fun _=>Iff.rfl
  obtain ⟨_,kv,q,_⟩:=this
  rw [q] at ho;cases ho
  exact e _ _ q (by intro _ z;cases z)
 ·obtain ⟨xs,q1,q2⟩:=I.l i hi
  exact ⟨xs,e _ _ q1 (by intro _ z;cases z),Nat.le_trans q2 hm⟩
theorem BxAt.same {n:Nat} {A:BA} {c:Cs} {H H':Hp} (I:BxAt n A c H) (s:Same H H'):BxAt n A c H':=I.keep (Nat.le_refl _) (.same s) fun a o e _=>s a o e
theorem BxAt.mono {n m:Nat} {A:BA} {c:Cs} {H:Hp} (I:BxAt n A c H) (h:n≤m):BxAt m A c H:=I.keep h (fun _ _ e=>e) fun _ _ e _=>e
theorem BxAt.tk {n:Nat} {A:BA} {c:Cs} {H H':Hp} (I:BxAt n A c H) (m:MvB A H H'):TK H H':=fun b xs e=>by
 obtain ⟨k1,h1,_⟩:=I.st
 obtain ⟨k2,h2,_⟩:=I.nw
 obtain ⟨k3,h3,_⟩:=I.vs
 refine m b _ (fun z=>?_) (fun z=>?_) (fun z=>?_) (fun i hi z=>?_) (fun i hi z=>?_) e
 ·rw [z,h1] at e;cases e
 ·rw [z,h2] at e;cases e
 ·rw [z,h3] at e;cases e
 ·obtain ⟨_,_,h4,_⟩:=I.t i hi
  rw [z,h4] at e;cases e
 ·obtain ⟨_,h4,_⟩:=I.l i hi
  rw [z,h4] at e;cases e
theorem BxAt.congr {n m:Nat} {A:BA} {c c':Cs} {H:Hp} (I:BxAt n A c H) (hm:n≤m) (h1:c'.nu=c.nu) (h2:c'.ve=c.ve) (h3:∀ i,i < 3→∀ d,d∈tOf c i↔d∈tOf c' i):BxAt m A c' H:=by
 have J:=I.mono hm
 exact ⟨J.o,J.nd,J.inj,by rw [h1];exact J.st,by rw [h2];exact J.nw,J.vs,fun i hi=>(J.t i hi).congr (Nat.le_refl _) (h3 i hi),J.l⟩
theorem BxAt.ne {n:Nat} {A:BA} {c:Cs} {H:Hp} (I:BxAt n A c H):A.o≠A.st∧A.o≠A.nw∧A.st≠A.nw∧(∀ i,i < 3→A.o≠A.t i∧A.st≠A.t i∧A.nw≠A.t i)∧∀ i j,i < 3→j < 3→A.t i=A.t j→i=j:=by
 have h:=I.nd
 simp only [List.nodup_cons,List.mem_cons,List.not_mem_nil,or_false,not_or,List.nodup_nil,and_true,not_false_eq_true] at h
 obtain ⟨⟨a1,a2,a3,a4,a5⟩,⟨b1,b2,b3,b4⟩,⟨c1,c2,c3⟩,⟨d1,d2⟩,e1⟩:=h
 refine ⟨a1,a2,b1,fun i hi=>?_,fun i j hi hj e=>?_⟩
 ·have:i=0∨i=1∨i=2:=by omega
  rcases this with rfl | rfl | rfl
  ·exact ⟨a3,b2,c1⟩
  ·exact ⟨a4,b3,c2⟩
  ·exact ⟨a5,b4,c3⟩
 ·have hi3:i=0∨i=1∨i=2:=by omega
  have hj3:j=0∨j=1∨j=2:=by omega
  rcases hi3 with rfl | rfl | rfl <;> rcases hj3 with rfl | rfl | rfl <;> first | rfl | exact absurd e d1 | exact absurd e d2 | exact absurd e e1 | exact absurd e.symm d1 | exact absurd e.symm d2 | exact absurd e.symm e1
theorem BxAt.put {n:Nat} {A:BA} {c c':Cs} {H:Hp} {i:Nat} {kvs:List (Key×V)} {d:D} {v:V} (I:BxAt n A c H) (hi:i < 3) (e:H (A.t i)=some (.dK kvs)) (hv:Held H d v) (hd:OkD d) (h1:c'.nu=c.nu) (h2:c'.ve=c.ve) (h3:∀ x,x∈tOf c i++[d]↔x∈tOf c' i) (h4:∀ j,j < 3→j≠i→∀ x,x∈tOf c j↔x∈tOf c' j) :
  MvB A H (upd H (A.t i) (.dK (kc kvs (.inr d.py.shown) v)))∧BxAt (n+1) A c' (upd H (A.t i) (.dK (kc kvs (.inr d.py.shown) v))):=by
 obtain ⟨ne1,ne2,ne3,ne4,ne5⟩:=I.ne
 have mv:MvB A H (upd H (A.t i) (.dK (kc kvs (.inr d.py.shown) v))):=fun b o _ _ _ h _ eb=>jo (h i hi) eb
 have t:=I.tk mv
 have J:=I.mono (Nat.le_succ n)
 obtain ⟨k3,v3,v4⟩:=J.vs
 refine ⟨mv,jo (ne4 i hi).1 I.o,I.nd,I.inj,by rw [h1];exact J.st.tk t fun o=>jo (ne4 i hi).2.1,by rw [h2];exact J.nw.tk t fun o=>jo (ne4 i hi).2.2,⟨k3,jo (jD v3 e (by intro z;cases z)) v3,v4⟩,fun j hj=>?_,fun j hj=>?_⟩
 ·by_cases z:j=i
  ·subst z
   exact ((I.t j hi).put e hv hd).congr (Nat.le_refl _) h3
  ·exact ((J.t j hj).tk t fun o=>jo fun q=>z (ne5 j i hj hi q)).congr (Nat.le_refl _) (h4 j hj z)
 ·obtain ⟨xs,q1,q2⟩:=J.l j hj
  exact ⟨xs,jo (jD q1 e (by intro z;cases z)) q1,q2⟩
theorem BxAt.setst {n:Nat} {A:BA} {c:Cs} {H:Hp} {kvs:List (Key×V)} {x:Str} {p:P2} {v:V} (I:BxAt n A c H) (e:H A.st=some (.dK kvs)) (hv:Held H (p2 p) v) :
  MvB A H (upd H A.st (.dK (kc kvs (.inr x) v)))∧BxAt (n+1) A (c.setn x p) (upd H A.st (.dK (kc kvs (.inr x) v))):=by
 obtain ⟨ne1,ne2,ne3,ne4,ne5⟩:=I.ne
 obtain ⟨t,d⟩:=J6 (x:=x) I.st e hv
 have J:=I.mono (Nat.le_succ n)
 obtain ⟨k3,v3,v4⟩:=J.vs
 refine ⟨fun b o h _ _ _ _ eb=>jo h eb,jo ne1 I.o,I.nd,I.inj,?_,J.nw.tk t fun o=>jo ne3.symm,⟨k3,jo (jD v3 e (by intro z;cases z)) v3,v4⟩,fun j hj=>(J.t j hj).tk t fun o=>jo (ne4 j hj).2.1.symm,fun j hj=>?_⟩
 ·have:(fun y=>((yn c.nu x p) y).map p2)=yn (fun y=>(c.nu y).map p2) x (p2 p):=by
   funext y
   unfold yn
   split <;> rfl
  show DAt _ (fun y=>((yn c.nu x p) y).map p2) _ _
  rw [this]
  exact d
 ·obtain ⟨xs,q1,q2⟩:=J.l j hj
  exact ⟨xs,jo (jD q1 e (by intro z;cases z)) q1,q2⟩
theorem BxAt.setnw {n:Nat} {A:BA} {c:Cs} {H:Hp} {kvs:List (Key×V)} {r:Str} {d:D} {v:V} (I:BxAt n A c H) (e:H A.nw=some (.dK kvs)) (hv:Held H d v) :
  MvB A H (upd H A.nw (.dK (kc kvs (.inr r) v)))∧BxAt (n+1) A (c.setv r d) (upd H A.nw (.dK (kc kvs (.inr r) v))):=by
 obtain ⟨ne1,ne2,ne3,ne4,ne5⟩:=I.ne
 obtain ⟨t,d⟩:=J6 (x:=r) I.nw e hv
 have J:=I.mono (Nat.le_succ n)
 obtain ⟨k3,v3,v4⟩:=J.vs
 refine ⟨fun b o _ h _ _ _ eb=>jo h eb,jo ne2 I.o,I.nd,I.inj,J.st.tk t fun o=>jo ne3,d,⟨k3,jo (jD v3 e (by intro z;cases z)) v3,v4⟩,fun j hj=>(J.t j hj).tk t fun o=>jo (ne4 j hj).2.2.symm,fun j hj=>?_⟩
 obtain ⟨xs,q1,q2⟩:=J.l j hj
 exact ⟨xs,jo (jD q1 e (by intro z;cases z)) q1,q2⟩
theorem BxAt.setvs {n:Nat} {A:BA} {c:Cs} {H:Hp} {kvs:List (List Key×V)} {k:List Key} {v:V} (I:BxAt n A c H) (e:H A.vs=some (.dT kvs)) (hl:kvs.length≤n) :
  MvB A H (upd H A.vs (.dT (kc kvs k v)))∧BxAt (n+1) A c (upd H A.vs (.dT (kc kvs k v))):=by
 have mv:MvB A H (upd H A.vs (.dT (kc kvs k v))):=fun b o _ _ h _ _ eb=>jo h eb
 have t:=I.tk mv
 have J:=I.mono (Nat.le_succ n)
 obtain ⟨k1,h1,_⟩:=I.st
 obtain ⟨k2,h2,_⟩:=I.nw
 refine ⟨mv,jo (jD I.o e (by intro z;cases z)) I.o,I.nd,I.inj,J.st.tk t fun o=>jo (jD h1 e (by intro z;cases z)),J.nw.tk t fun o=>jo (jD h2 e (by intro z;cases z)),⟨_,jg,Nat.le_trans (ky _ _ _) (Nat.succ_le_succ hl)⟩,fun j hj=>?_,fun j hj=>?_⟩
 ·obtain ⟨_,_,q1,_⟩:=I.t j hj
  exact (J.t j hj).tk t fun o=>jo (jD q1 e (by intro z;cases z))
 ·obtain ⟨xs,q1,q2⟩:=J.l j hj
  exact ⟨xs,jo (jD q1 e (by intro z;cases z)) q1,q2⟩
theorem BxAt.addl {n:Nat} {A:BA} {c:Cs} {H:Hp} {xs:List V} {i:Nat} {v:V} (I:BxAt n A c H) (hi:i < 3) (e:H (A.l i)=some (.lst xs)) (hl:xs.length≤n) :
  MvB A H (upd H (A.l i) (.lst (xs++[v])))∧BxAt (n+1) A c (upd H (A.l i) (.lst (xs++[v]))):=by
 have mv:MvB A H (upd H (A.l i) (.lst (xs++[v]))):=fun b o _ _ _ _ h eb=>jo (h i hi) eb
 have t:=I.tk mv
 have J:=I.mono (Nat.le_succ n)
 obtain ⟨k1,h1,_⟩:=I.st
 obtain ⟨k2,h2,_⟩:=I.nw
 obtain ⟨k3,v3,v4⟩:=J.vs
 refine ⟨mv,jo (jD I.o e (by intro z;cases z)) I.o,I.nd,I.inj,J.st.tk t fun o=>jo (jD h1 e (by intro z;cases z)),J.nw.tk t fun o=>jo (jD h2 e (by intro z;cases z)),⟨k3,jo (jD v3 e (by intro z;cases z)) v3,v4⟩,fun j hj=>?_,fun j hj=>?_⟩
 ·obtain ⟨_,_,q1,_⟩:=I.t j hj
  exact (J.t j hj).tk t fun o=>jo (jD q1 e (by intro z;cases z))
 ·obtain ⟨ys,q1,q2⟩:=J.l j hj
  by_cases z:j=i
  ·rw [z]
   exact ⟨_,jg,by rw [List.length_append];exact Nat.succ_le_succ hl⟩
  ·exact ⟨ys,jo (fun q=>z (I.inj j i hj hi q)) q1,q2⟩
abbrev yT:Stmt:=top 43
theorem jfW:bootBuiltins "repr" = some (.builtin "repr"):=by decide +kernel
theorem Zl {H:Hp} {A:BA} (h:H A.o=some (.dK (qV A))) {x:Str} {v:V} (e:k0 (qV A) (.inr x)=some v):DGet H A.o (.str x) (some v):=.inl ⟨_,.inr x,.inl h,rfl,e.symm⟩
theorem jew {H:Hp} {A:BA} (h:H A.o=some (.dK (qV A))):DGet H A.o (.str "stands") (some (.ref A.st)):=Zl h (by rfl)
theorem jex {H:Hp} {A:BA} (h:H A.o=some (.dK (qV A))):DGet H A.o (.str "now") (some (.ref A.nw)):=Zl h (by rfl)
theorem jgo {H:Hp} {A:BA} (h:H A.o=some (.dK (qV A))):DGet H A.o (.str "versions") (some (.ref A.vs)):=Zl h (by rfl)
theorem yy {H:Hp} {A:BA} (h:H A.o=some (.dK (qV A))):DGet H A.o (.str "spots") (some (.ref (A.t 0))):=Zl h (by rfl)
theorem jev {H:Hp} {A:BA} (h:H A.o=some (.dK (qV A))):DGet H A.o (.str "ends") (some (.ref (A.t 1))):=Zl h (by rfl)
theorem yx {H:Hp} {A:BA} (h:H A.o=some (.dK (qV A))):DGet H A.o (.str "ties") (some (.ref (A.t 2))):=Zl h (by rfl)
theorem jih {H:Hp} {A:BA} (h:H A.o=some (.dK (qV A))):DGet H A.o (.str "each") (some (.ref (A.l 0))):=Zl h (by rfl)
theorem jig {H:Hp} {A:BA} (h:H A.o=some (.dK (qV A))):DGet H A.o (.str "rise") (some (.ref (A.l 1))):=Zl h (by rfl)
theorem jif {H:Hp} {A:BA} (h:H A.o=some (.dK (qV A))):DGet H A.o (.str "puts") (some (.ref (A.l 2))):=Zl h (by rfl)
theorem jeN {c:Cs} {i j:Nat} {ds:List D} {r:Str} (hj:j < 3) (hi:j≠i) (h:i=0):∀ x,x∈tOf c j↔x∈tOf ((c.add 2 ds).name r) j:=by
 subst h
 intro x
 unfold tOf
 rw [if_neg hi,if_neg hi]
 exact Iff.rfl
def Kr:Sp:=fun vs H Q _=>∃ (a:Addr) (v:V) (kvs:List (Key×V)) (d:D),vs=[.ref a,v]∧H a=some (.dK kvs)∧kvs.length≤990∧Held H d v∧(∃ es,d=.tup es)∧Shw d∧Q .non (upd H a (.dK (kc kvs (.inr d.py.shown) v)))
def yP:Sp:=fun vs H Q _=>∃ (n:Nat) (A:BA) (c:Cs) (x:Str),vs=[.ref A.o,.str x]∧BxAt n A c H∧∀ v H',Same H H'→Held H' (p2 (c.num x)) v→Q v H'
def yQ:Sp:=fun vs H Q _=>∃ (n:Nat) (A:BA) (c:Cs) (x:Str) (d:Int) (v:V),vs=[.ref A.o,v]∧BxAt n A c H∧Held H (plD x d) v∧∀ v H',Same H H'→Held H' (p2 (c.spot x d)) v→Q v H'
def Jy:Sp:=fun vs H Q _=>∃ (n:Nat) (A:BA) (c:Cs) (r:Str),vs=[.ref A.o,.str r]∧BxAt n A c H∧n≤980∧∀ v H',MvB A H H'→BxAt (n+1) A c H'→Held H' (c.ver r) v→Q v H'
def jbd:Sp:=fun vs H Q _=>∃ (n m:Nat) (A:BA) (c:Cs) (t:Tm) (v:V),vs=[.ref A.o,v]∧BxAt n A c H∧n≤970∧Held H t.toD v∧m≤90∧(∀ r x d,t=.at_ r x d→Gp m (c.spot x d))∧∀ v H',MvB A H H'→BxAt (n+2) A (c.stand t).2 H'→Held H' (p2 (c.stand t).1) v→Q v H'
section
variable {P:Program} {w:World} {K:W.Frag} {mg:Str→Option Value} {base:Heap}
theorem jfy {f:Addr} {fd:FuncData} (F:Fun K "_law_kept" "_law_kept" Yo f fd) (Z_repr:mg "repr" = none):FnOk P w K mg base CX0 14 f fd ["_law_some","_law_one"] Kr:=by
 have sc:FnScope ["_law_some","_law_one"] ["_law_some","_law_one"] (jp Yo):=fQ
 refine F.okZ sc (fun vs H Q E h=>?_) (fun cdv A outer s H vs Q E hr h=>?_)
 ·obtain ⟨a,v,kvs,d,rfl,_⟩:=h
  rfl
 have hu:(A.deeper (PyProof.Rows.envOfC "_law_kept" (jp Yo) s.heap.objs.size f cdv)).units+1 < cLine:=by have:=hr.un;omega
 have hu9:(A.deeper (PyProof.Rows.envOfC "_law_kept" (jp Yo) s.heap.objs.size f cdv)).units+2+200 < cLine:=by have:=hr.un;omega
 obtain ⟨a,v,kvs,d,rfl,ha,hl,hv,⟨es,rfl⟩,hw,q⟩:=h
 refine ⟨_,(jh (kg hu (zpv 0) (kW (jcD hr.gd (n:=200) hu9) (by rfl) Z_repr jfW (ja (zpv 1) jb)) (zpv 1) rfl)),?_⟩
 refine jI (σ':=[some (.ref a),some v]) rfl ?_
 obtain ⟨t,xs,rfl,ht,hx⟩:=jQ hv
 exact ⟨_,rfl,_,rfl,_,rfl,t,_,rfl,hv,hw.2.1,hw.1,hw.2.2,a,_,rfl,.k (k:=.inr _) ha (jJ (by omega)),q⟩
theorem jce {f:Addr} {fd:FuncData} (F:Fun K "_law_stand" "_law_stand" Kx f fd):FnOk P w K mg base CX0 1 f fd ["_law_box","_law_x"] yP:=by
 have sc:FnScope ["_law_box","_law_x"] ["_law_box","_law_x"] (jp Kx):=fQ
 refine F.okZ sc (fun vs H Q E h=>?_) (fun cdv A outer s H vs Q E hr h=>?_)
 ·obtain ⟨n,A,c,x,rfl,_⟩:=h
  rfl
 have hu:(A.deeper (PyProof.Rows.envOfC "_law_stand" (jp Kx) s.heap.objs.size f cdv)).units+1 < cLine:=by have:=hr.units;omega
 obtain ⟨n,B,c,x,rfl,I,q⟩:=h
 refine ⟨_,(jd (jL (jy j8 (zpv 1) jl (jH _)) (jh (jx (zpd (jX (jr (jX (jr kz jN)) (jr qv jN)))))) jG)
   (jh (jx (zZ hu (jM hu (zpv 0) jl (fun _ _=>rfl)) (zpv 1) (zpd (jX (jr (jX (jr kz (jr (ke 1) jN))) (jr qv jN)))) ⟨rfl,rfl,rfl,rfl⟩)))),?_⟩
 refine jI (σ':=[some (.ref B.o),some (.str x)]) rfl ?_
 obtain ⟨kvs,h1,_,h3⟩:=I.st
 unfold Cs.num at q
 refine ⟨_,rfl,rfl,_,rfl,zD (fun d=>?_) (fun d=>?_)⟩
 ·rw [if_pos (V.str.inj (of_decide_eq_true d))] at q
  exact ⟨p2 J3,⟨_,rfl,Nat.le_of_ble_eq_true rfl,_,_,rfl,⟨_,rfl,Nat.le_of_ble_eq_true rfl,_,_,rfl,rfl,rfl⟩,_,_,rfl,rfl,rfl⟩,fun v H' s h=>q v H' s h⟩
 ·rw [if_neg (fun e=>d (decide_eq_true (congrArg V.str e)))] at q
  refine ⟨_,rfl,B.o,_,rfl,jew I.o,B.st,rfl,.inl ⟨kvs,.inl h1⟩,_,rfl,p2 (YQ x),⟨_,rfl,Nat.le_of_ble_eq_true rfl,_,_,rfl,⟨_,rfl,Nat.le_of_ble_eq_true rfl,_,_,rfl,rfl,_,_,rfl,⟨_,rfl,jA⟩,rfl⟩,_,_,rfl,rfl,rfl⟩,fun v H' s h=>⟨_,.k (k:=.inr x) (s _ _ h1),?_⟩⟩
  cases e:c.nu x with
  | none=>
   rw [(h3 x).1 (by show (c.nu x).map p2=none;rw [e];rfl)]
   rw [e] at q
   exact q _ _ s h
  | some p=>
   obtain ⟨u,u1,u2⟩:=(h3 x).2 (p2 p) (by show (c.nu x).map p2=_;rw [e];rfl)
   rw [u1]
   rw [e] at q
   exact q _ _ s (u2.mono s)
theorem jdZ {f:Addr} {fd:FuncData} (F:Fun K "_law_spot" "_law_spot" Y0 f fd) (F_stand:Fn P w K mg base 1 "_law_stand" ["_law_box","_law_x"] yP) (F_more:Fn P w K mg base 1 "_law_more" ["_law_one","_law_more_here"] qg):FnOk P w K mg base CX0 2 f fd ["_law_box","_law_place_here"] yQ:=by
 have sc:FnScope ["_law_box","_law_place_here"] ["_law_box","_law_place_here"] (jp Y0):=fQ
 refine F.okZ sc (fun vs H Q E h=>?_) (fun cdv A outer s H vs Q E hr h=>?_)
 ·obtain ⟨n,A,c,x,d,v,rfl,_⟩:=h
  rfl
 obtain ⟨n,A,c,x,d,v,rfl,I,hv,q⟩:=h
 refine ⟨_,(jh (jx (ji F_more hr (ja (ji F_stand hr (ja (zpv 0) (ja (jm ju (zpv 1) jc (fun _ _=>rfl)) jb))) (ja (jm ju (zpv 1) jc (fun _ _=>rfl)) jb))))),?_⟩
 refine jI (σ':=[some (.ref A.o),some v]) rfl ?_
 obtain ⟨t,rfl,ht⟩:=yA hv
 exact ⟨_,rfl,_,rfl,t,_,_,_,rfl,rfl,SqT.of ht,jf (j:=0) rfl,n,A,c,x,rfl,I,fun v H1 s1 h1=>⟨_,rfl,t,_,_,_,rfl,rfl,SqT.of (s1 _ _ ht),jf (j:=1) rfl,v,d,_,rfl,h1,fun v H2 s2 h2=>q v H2 (s1.trans s2) h2⟩⟩
theorem jfp {f:Addr} {fd:FuncData} (F:Fun K "_law_version" "_law_version" zO f fd):FnOk P w K mg base CX0 1 f fd ["_law_box","_law_r"] Jy:=by
 have sc:FnScope ["_law_box","_law_r"] ["_law_box","_law_r"] (jp zO):=fQ
 refine F.okZ sc (fun vs H Q E h=>?_) (fun cdv A outer s H vs Q E hr h=>?_)
 ·obtain ⟨n,A,c,r,rfl,_⟩:=h
  rfl
 have hu:(A.deeper (PyProof.Rows.envOfC "_law_version" (jp zO) s.heap.objs.size f cdv)).units+1 < cLine:=by have:=hr.units;omega
 obtain ⟨n,B,c,r,rfl,I,hn,q⟩:=h
 refine ⟨_,(jd (kg hu (jM hu (zpv 0) jl (fun _ _=>rfl)) (jW (ja jl (ja (zpv 1) jb))) qY rfl)
   (jh (jx (zZ hu (jM hu (zpv 0) jl (fun _ _=>rfl)) (zpv 1) (jW (ja jl (ja (zpv 1) jb))) ⟨rfl,rfl,rfl,rfl⟩)))),?_⟩
 refine jI (σ':=[some (.ref B.o),some (.str r)]) rfl ?_
 obtain ⟨ks,j1,j2⟩:=I.vs
 refine ⟨_,rfl,B.o,_,rfl,jgo I.o,_,rfl,sm rfl,fun p hp=>?_⟩
 have s1:=jj hp (.tup [.str "row",.str r])
 have e1:upd H p (.tup [.str "row",.str r]) p=some (.tup (([.inr "row",.inr r]:List Key).map kV)):=jg
 have I1:=I.same s1
 generalize upd H p (.tup [.str "row",.str r])=H1 at *
 refine ⟨B.vs,_,rfl,.t (k:=[.inr "row",.inr r]) (s1 _ _ j1) e1 (jJ (by omega)),?_⟩
 obtain ⟨m2,I2⟩:=I1.setvs (k:=[.inr "row",.inr r]) (v:=.bl true) (s1 _ _ j1) j2
 generalize upd H1 B.vs _=H2 at *
 have M2:=(MvB.same s1).trans m2
 obtain ⟨kvs,k1,_,k3⟩:=I2.nw
 refine ⟨_,rfl,B.o,_,rfl,jex I2.o,B.nw,rfl,.inl ⟨kvs,.inl k1⟩,_,rfl,_,rfl,sm rfl,fun p hp=>?_⟩
 have s3:=jj hp (.tup [.str "row",.str r])
 refine ⟨_,.k (k:=.inr r) (s3 _ _ k1),?_⟩
 have m3:=M2.trans (.same s3)
 cases e:c.ve r with
 | none=>
  rw [(k3 r).1 e]
  exact q _ _ m3 (I2.same s3) (by unfold Cs.ver;rw [e];exact jP jg (je jA (je jA jw)))
 | some d=>
  obtain ⟨u,u1,u2⟩:=(k3 r).2 d e
  rw [u1]
  exact q _ _ m3 (I2.same s3) (by unfold Cs.ver;rw [e];exact u2.mono s3)
theorem jgV {f:Addr} {fd:FuncData} (F:Fun K "_law_source" "_law_source" yT f fd) (F_stand:Fn P w K mg base 1 "_law_stand" ["_law_box","_law_x"] yP) (F_spot:Fn P w K mg base 2 "_law_spot" ["_law_box","_law_place_here"] yQ) (F_kept:Fn P w K mg base 14 "_law_kept" ["_law_some","_law_one"] Kr) (F_version:Fn P w K mg base 1 "_law_version" ["_law_box","_law_r"] Jy) (F_entry:Fn P w K mg base 1 "_law_entry" ["_law_version_here","_law_spot_here"] yq):FnOk P w K mg base CX0 15 f fd ["_law_box","_law_term_here"] jbd:=by
 have sc:FnScope ["_law_box","_law_term_here","_law_spot_here"] ["_law_box","_law_term_here"] (jp yT):=fQ
 refine F.okZ sc (fun vs H Q E h=>?_) (fun cdv A outer s H vs Q E hr h=>?_)
 ·obtain ⟨n,m,A,c,t,v,rfl,_⟩:=h
  rfl
 have hu:(A.deeper (PyProof.Rows.envOfC "_law_source" (jp yT) s.heap.objs.size f cdv)).units+1 < cLine:=by have:=hr.units;omega
 obtain ⟨n,m,B,c,t,v,rfl,I,hn,hv,hm,hg,q⟩:=h
 refine ⟨_,(jd (jL (jy j8 (jm ju (zpv 1) jc (fun _ _=>rfl)) jl (jH _)) (jh (jx (ji F_stand hr (ja (zpv 0) (ja (jm ju (zpv 1) jc (fun _ _=>rfl)) jb))))) jG)
   (jd (jv (i:=2) sc.nd rfl oQ (ji F_spot hr (ja (zpv 0) (ja (jm ju (zpv 1) jc (fun _ _=>rfl)) jb))))
   (jd (jz (ji F_kept hr (ja (jM hu (zpv 0) jl (fun _ _=>rfl)) (ja (zpv 2) jb))))
   (jh (jx (ji F_entry hr (ja (ji F_version hr (ja (zpv 0) (ja (jm ju (zpv 1) jc (fun _ _=>rfl)) jb))) (ja (zpv 2) jb)))))))),?_⟩
 refine jI (σ':=[some (.ref B.o),some v,none]) rfl ?_
 rcases jc4 hv with ⟨x,a,rfl,rfl,ha⟩ | ⟨r,x,d,a,u,rfl,rfl,ha,hu'⟩
 ·refine ⟨_,rfl,a,_,_,_,rfl,rfl,SqT.of ha,jf (j:=0) rfl,rfl,_,rfl,kO ?_⟩
  exact ⟨_,rfl,_,rfl,a,_,_,_,rfl,rfl,SqT.of ha,jf (j:=1) rfl,n,B,c,x,rfl,I,fun v H' s h=>q v H' (.same s) ((I.same s).mono (by omega)) h⟩
 ·refine ⟨_,rfl,a,_,_,_,rfl,rfl,SqT.of ha,jf (j:=0) rfl,rfl,_,rfl,kh ?_⟩
  refine ⟨_,rfl,_,rfl,a,_,_,_,rfl,rfl,SqT.of ha,jf (j:=2) rfl,n,B,c,x,d,u,rfl,I,hu',fun v H1 s1 hv=>?_⟩
  refine jI (σ':=[some (.ref B.o),some (.ref a),some v]) rfl ?_
  have I1:=I.same s1
  have ht:=I1.t 0 (by decide)
  obtain ⟨ds,kvs,l1,_,_,_,_,_,l3⟩:=ht
  have hs:=(hg r x d rfl).shw hm
  refine ⟨_,rfl,B.o,_,rfl,yy I1.o,_,rfl,B.t 0,v,kvs,_,rfl,l1,by omega,hv,⟨_,rfl⟩,hs,?_⟩
  obtain ⟨m2,I2⟩:=I1.put (c':=(c.stand (.at_ r x d)).2) (i:=0) (by decide) l1 hv hs.1 rfl rfl (fun _=>Iff.rfl) (fun j hj hji=>jeN hj hji rfl)
  have t2:=I1.tk m2
  have hv2:=t2.held hv
  have ha2:=t2 _ _ (s1 _ _ ha)
  generalize upd H1 (B.t 0) _=H2 at *
  refine ⟨_,rfl,_,rfl,a,_,_,_,rfl,rfl,SqT.of ha2,jf (j:=1) rfl,n+1,B,_,r,rfl,I2,by omega,fun u H3 m3 I3 hu3=>?_⟩
  have t3:=I2.tk m3
  refine ⟨_,rfl,u,v,_,_,rfl,hu3,t3.held hv2,fun y H4 s4 h4=>?_⟩
  exact q y H4 (((MvB.same s1).trans m2).trans (m3.trans (.same s4))) (I3.same s4) h4
end
end LW
namespace L2
open PySem PySem.Spec PyProof.Rows
variable {X:Cx} {pins:List (Addr×Obj)} {s:Shared} {σ:St} {H:Hp}
theorem Vals.back:∀ {xs:List V} {us:List Value} {i:Nat} {u:Value},Vals xs us→us[i]?=some u→∃ x,xs[i]?=some x∧RelV x u
 | _,_,_,_,.nil,e=>by simp at e
 | _,_,0,_,.cons r _,e=>by simp at e;subst e;exact ⟨_,rfl,r⟩
 | _,_,i+1,_,.cons _ t,e=>by simp only [List.getElem?_cons_succ] at e ⊢;exact Vals.back t e
open Classical in
theorem jis (I:Inv X pins σ H s) {n:Nat} {A:Around} {d:D} {ds:List D} {x:V} {v:Value} {xs:List V} {its:List Value} (hd:D.depthL ds≤n) (hA:A.units+n < cLine) (hx:Held H d x) (hxs:HeldL H ds xs) (rx:RelV x v) (rv:Vals xs its) :
  ∃ f:Value→Bool,(∀ u∈its,SeqAt.EqAt A s u v (f u))∧its.any f=decide (d∈ds):=by
 have l1:=hxs.length
 have l3:=rv.length
 have one:∀ (j:Nat) u,its[j]?=some u→∃ d' x',ds[j]?=some d'∧Held H d' x'∧RelV x' u:=by
  intro j u e
  obtain ⟨x',h1,h2⟩:=rv.back e
  have hj:j < ds.length:=by
   have:=(List.getElem?_eq_some_iff.mp h1).1
   omega
  obtain ⟨x'',g1,g2⟩:=hxs.get (List.getElem?_eq_getElem hj)
  rw [g1] at h1
  cases h1
  exact ⟨_,_,List.getElem?_eq_getElem hj,g2,h2⟩
 refine ⟨fun u=>decide (∃ x',RelV x' u∧Held H d x'),fun u hu=>?_,?_⟩
 ·obtain ⟨j,hj,e⟩:=List.mem_iff_getElem.mp hu
  obtain ⟨d',x',h1,h2,h3⟩:=one j u (List.getElem?_eq_some_iff.mpr ⟨hj,e⟩)
  have key:=jbN I n A d' d x' x u v (by have:=D.depthL_get h1;omega) hA h2 hx h3 rx
  have:dEq d' d=decide (∃ x',RelV x' u∧Held H d x'):=by
   rw [jbR]
   by_cases h:d'=d
   ·subst h
    rw [decide_eq_true rfl,decide_eq_true ⟨x',h3,h2⟩]
   ·rw [decide_eq_false h,decide_eq_false]
    rintro ⟨x2,g1,g2⟩
    rw [RelV.inj g1 h3] at g2
    exact h (Jg h2 g2)
  rw [this] at key
  exact key
 ·apply Bool.eq_iff_iff.mpr
  rw [List.any_eq_true,decide_eq_true_iff]
  constructor
  ·rintro ⟨u,hu,h⟩
   obtain ⟨x2,g1,g2⟩:=of_decide_eq_true h
   obtain ⟨j,hj,e⟩:=List.mem_iff_getElem.mp hu
   obtain ⟨d',x',h1,h2,h3⟩:=one j u (List.getElem?_eq_some_iff.mpr ⟨hj,e⟩)
   rw [RelV.inj g1 h3] at g2
   rw [Jg g2 h2]
   exact List.mem_iff_getElem?.mpr ⟨j,h1⟩
  ·intro h
   obtain ⟨j,hj⟩:=List.mem_iff_getElem?.mp h
   obtain ⟨x',g1,g2⟩:=hxs.get hj
   obtain ⟨u,g3,g4⟩:=rv.get g1
   exact ⟨u,List.mem_iff_getElem?.mpr ⟨j,g3⟩,decide_eq_true ⟨x',g4,g2⟩⟩
variable {X:Cx}
theorem jfo (n:Nat) (hu:X.A.units+1+n < cLine):OpR X (compareOp .In) (fun x y H Q=>∃ p xs d ds,y=.ref p∧H p=some (.tup xs)∧D.depthL ds≤n∧Held H d x∧HeldL H ds xs∧Q (.bl (decide (d∈ds))) H):=by
 intro pins s σ H x y v u Q I rx ry h
 obtain ⟨p,xs,d,ds,rfl,hp,hd,hx,hxs,q⟩:=h
 cases ry
 obtain ⟨its,r,pl,hz⟩:=I.tuple (SqT.of hp)
 obtain ⟨f,h1,h2⟩:=jis I (A:=X.A.in1) hd (by show X.A.units+1+n < cLine;exact hu) hx hxs rx r
 refine SeqAt.in_tupleAt f pl (fun w hw=>h1 w (by simpa using hw)) ⟨.bl _,H,I,rfl,?_⟩
 rw [show its.toArray.any f=its.any f by simp,h2]
 exact q
end L2
namespace LW
open PySem L2
abbrev yZ:Stmt:=top 44
abbrev Kz:Stmt:=top 45
def Cs.facing (c:Cs):Bd→D
 | .is x=>p2 (c.num x)
 | .row q=>c.ver q
def agD (c:Cs) (r way:Str) (b:Bd) (k:Int):D:=.tup [c.ver r,.str way,c.facing b,.int k]
def Jz:Sp:=fun vs H Q _=>∃ (n:Nat) (A:BA) (c:Cs) (t u:Str) (td ud:Int) (r way:Str) (b:Bd) (k:Int) (v:V),vs=[.ref A.o,v]∧BxAt n A c H∧n≤970∧Held H (Cl.each t td u ud r way b k).toD v∧∀ v H',MvB A H H'→BxAt (n+2) A c H'→Held H' (agD c r way b k) v→Q v H'
def jbk:Sp:=fun vs H Q _=>∃ (c:Cs) (r way:Str) (b:Bd) (k:Int) (s:P2) (v u:V),vs=[v,u,.bl true]∧Held H (agD c r way b k) v∧Held H (p2 s) u∧(∀ q,b=.row q→Ver (c.ver q))∧(∀ x,b=.is x→∃ es,(c.num x).1=.tup es)∧∀ v H',Same H H'→Held H' (JN (zB (c.ver r) way (c.bnd b s) k s)) v→Q v H'
theorem Ver.shape {v:D} (h:Ver v):∃ a e,v=.tup [.str a,e]∧(.str a:D)∈[D.str "row",.str "lost",.str "put"]:=by
 cases h with
 | row h=>exact ⟨_,_,rfl,by simp⟩
 | lost h=>exact ⟨_,_,rfl,by simp⟩
 | put h=>exact ⟨_,_,rfl,by simp⟩
theorem jc2 (v:D) (b s:P2) (k:Int):JN (kx (mor b k) (qb v s))=kx (qb v s) (mor b (k - 1)):=by
 show D.tup [_,_,D.int (-1 - (0 - (b.2+k)))]=D.tup [_,_,D.int (b.2+(k - 1) - 0)]
 rw [show -1 - (0 - (b.2+k))=b.2+(k - 1) - 0 by omega]
 rfl
theorem jc1 (v:D) (b s:P2) (k:Int):JN (kx (qb v s) (mor b k))=kx (mor b (k+1)) (qb v s):=by
 show D.tup [_,_,D.int (-1 - (b.2+k - 0))]=D.tup [_,_,D.int (0 - (b.2+(k+1)))]
 rw [show -1 - (b.2+k - 0)=0 - (b.2+(k+1)) by omega]
 rfl
section
variable {P:Program} {w:World} {K:W.Frag} {mg:Str→Option Value} {base:Heap}
theorem jaA {f:Addr} {fd:FuncData} (F:Fun K "_law_against" "_law_against" yZ f fd) (F_version:Fn P w K mg base 1 "_law_version" ["_law_box","_law_r"] Jy) (F_stand:Fn P w K mg base 1 "_law_stand" ["_law_box","_law_x"] yP):FnOk P w K mg base CX0 2 f fd ["_law_box","_law_claim_here"] Jz:=by
 have sc:FnScope ["_law_box","_law_claim_here"] ["_law_box","_law_claim_here"] (jp yZ):=fQ
 refine F.okZ sc (fun vs H Q E h=>?_) (fun cdv A outer s H vs Q E hr h=>?_)
 ·obtain ⟨n,A,c,t,u,td,ud,r,way,b,k,v,rfl,_⟩:=h
  rfl
 obtain ⟨n,B,c,t,u,td,ud,r,way,b,k,v,rfl,I,hn,hv,q⟩:=h
 refine ⟨_,(jd (jL (jy j8 (jm ju (jm ju (zpv 1) jc (fun _ _=>rfl)) jc (fun _ _=>rfl)) jl (jH _)) (jh (jx (jW (ja (ji F_version hr (ja (zpv 0) (ja (jm ju (zpv 1) jc (fun _ _=>rfl)) jb))) (ja (jm ju (zpv 1) jc (fun _ _=>rfl)) (ja (ji F_stand hr (ja (zpv 0) (ja (jm ju (jm ju (zpv 1) jc (fun _ _=>rfl)) jc (fun _ _=>rfl)) jb))) (ja (jm ju (zpv 1) jc (fun _ _=>rfl)) jb))))))) jG)
   (jh (jx (jW (ja (ji F_version hr (ja (zpv 0) (ja (jm ju (zpv 1) jc (fun _ _=>rfl)) jb))) (ja (jm ju (zpv 1) jc (fun _ _=>rfl)) (ja (ji F_version hr (ja (zpv 0) (ja (jm ju (jm ju (zpv 1) jc (fun _ _=>rfl)) jc (fun _ _=>rfl)) jb))) (ja (jm ju (zpv 1) jc (fun _ _=>rfl)) jb)))))))),?_⟩
 refine jI (σ':=[some (.ref B.o),some v]) rfl ?_
 obtain ⟨t,va,vb,x,rfl,ht,_,_,hb⟩:=zh hv
 have fin:∀ {y z:V} {G:Hp},MvB B H G→BxAt (n+2) B c G→Held G (c.ver r) y→Held G (c.facing b) z→∀ o,G o=none→Q (.ref o) (upd G o (.tup [y,.str way,z,.int k])):=fun {y z G} m J hy hz o ho=>by
  have s5:=jj ho (.tup [y,.str way,z,.int k])
  exact q _ _ (m.trans (.same s5)) (J.same s5) (jP jg (je (hy.mono s5) (je jA (je (hz.mono s5) (je jK jw)))))
 rcases b with x' | r'
 ·refine ⟨_,rfl,t,_,_,_,rfl,rfl,SqT.of ht,jf (j:=5) rfl,x,_,_,_,rfl,rfl,SqT.of hb,jf (j:=0) rfl,rfl,_,rfl,kO ?_⟩
  refine ⟨_,rfl,_,rfl,t,_,_,_,rfl,rfl,SqT.of ht,jf (j:=3) rfl,n,B,c,r,rfl,I,by omega,fun y H1 m1 I1 hy=>?_⟩
  have t1:=I.tk m1
  refine ⟨_,rfl,t,_,_,_,rfl,rfl,SqT.of (t1 _ _ ht),jf (j:=4) rfl,_,rfl,_,rfl,t,_,_,_,rfl,rfl,SqT.of (t1 _ _ ht),jf (j:=5) rfl,x,_,_,_,rfl,rfl,SqT.of (t1 _ _ hb),jf (j:=1) rfl,n+1,B,c,x',rfl,I1,fun z H2 s2 hz=>?_⟩
  exact ⟨_,rfl,t,_,_,_,rfl,rfl,SqT.of (s2 _ _ (t1 _ _ ht)),jf (j:=6) rfl,sm rfl,fun o ho=>fin (m1.trans (.same s2)) ((I1.same s2).mono (by omega)) (hy.mono s2) hz o ho⟩
 ·refine ⟨_,rfl,t,_,_,_,rfl,rfl,SqT.of ht,jf (j:=5) rfl,x,_,_,_,rfl,rfl,SqT.of hb,jf (j:=0) rfl,rfl,_,rfl,kh ?_⟩
  refine ⟨_,rfl,_,rfl,t,_,_,_,rfl,rfl,SqT.of ht,jf (j:=3) rfl,n,B,c,r,rfl,I,by omega,fun y H1 m1 I1 hy=>?_⟩
  have t1:=I.tk m1
  refine ⟨_,rfl,t,_,_,_,rfl,rfl,SqT.of (t1 _ _ ht),jf (j:=4) rfl,_,rfl,_,rfl,t,_,_,_,rfl,rfl,SqT.of (t1 _ _ ht),jf (j:=5) rfl,x,_,_,_,rfl,rfl,SqT.of (t1 _ _ hb),jf (j:=1) rfl,n+1,B,c,r',rfl,I1,by omega,fun z H2 m2 I2 hz=>?_⟩
  have t2:=I1.tk m2
  exact ⟨_,rfl,t,_,_,_,rfl,rfl,SqT.of (t2 _ _ (t1 _ _ ht)),jf (j:=6) rfl,sm rfl,fun o ho=>fin (m1.trans m2) I2 (t2.held hy) hz o ho⟩
theorem jd5 {f:Addr} {fd:FuncData} (F:Fun K "_law_body" "_law_body" Kz f fd) (B:Free0 mg) (F_entry:Fn P w K mg base 1 "_law_entry" ["_law_version_here","_law_spot_here"] yq) (F_more:Fn P w K mg base 1 "_law_more" ["_law_one","_law_more_here"] qg) (F_tie:Fn P w K mg base 1 "_law_tie" ["_law_one","_law_other"] yr):FnOk P w K mg base CX0 2 f fd ["_law_body_here","_law_spot_here","_law_about"] jbk:=by
 have sc:FnScope ["_law_body_here","_law_spot_here","_law_about","_law_here","_law_there"] ["_law_body_here","_law_spot_here","_law_about"] (jp Kz):=fQ
 refine F.okZ sc (fun vs H Q E h=>?_) (fun cdv A outer s H vs Q E hr h=>?_)
 ·obtain ⟨c,r,way,b,k,s,v,u,rfl,_⟩:=h
  rfl
 have hu9:(A.deeper (PyProof.Rows.envOfC "_law_body" (jp Kz) s.heap.objs.size f cdv)).units+1+8 < cLine:=by have:=hr.units;omega
 obtain ⟨c,r,way,b,k,p,v,u,rfl,hv,hu,hb,hb2,q⟩:=h
 refine ⟨_,(jd (jv (i:=3) sc.nd rfl oQ (ji F_entry hr (ja (jm ju (zpv 0) jc (fun _ _=>rfl)) (ja (zpv 1) jb))))
   (jd (jv (i:=4) sc.nd rfl oQ (jm ju (zpv 0) jc (fun _ _=>rfl)))
   (jd (yJ (jL (jy (jfo 8 hu9) (jm ju (zpv 4) jc (fun _ _=>rfl)) (jW (ja jl (ja jl (ja jl jb)))) rfl) (jh (jv (i:=4) sc.nd rfl oQ (ji F_entry hr (ja (zpv 4) (ja (zpv 1) jb))))) jG))
   (jd (jL (jy jgi (za j8 (jm ju (zpv 0) jc (fun _ _=>rfl)) jl (jH _)) (zpv 2) (jH _)) (jh (jx (ji F_tie hr (ja (ji F_more hr (ja (zpv 4) (ja (jq kN (jm ju (zpv 0) jc (fun _ _=>rfl)) (qX qD (by rfl) B.int_ yI (ja (zpv 2) jb))) jb))) (ja (zpv 3) jb))))) jG)
   (jh (jx (ji F_tie hr (ja (zpv 3) (ja (ji F_more hr (ja (zpv 4) (ja (jq qw (jm ju (zpv 0) jc (fun _ _=>rfl)) (qX qD (by rfl) B.int_ yI (ja (zpv 2) jb))) jb))) jb))))))))),?_⟩
 refine jI (σ':=[some v,some u,some (.bl true),none,none]) rfl ?_
 obtain ⟨t,x1,x2,x3,x4,rfl,ht,g1,g2,g3,g4⟩:=zR hv
 cases js g2
 cases j9 g4
 refine ⟨_,rfl,t,_,_,_,rfl,rfl,SqT.of ht,jf (j:=0) rfl,_,rfl,x1,u,_,_,rfl,g1,hu,fun y H1 s1 hy=>?_⟩
 refine gQ ?_
 refine ⟨_,rfl,t,_,_,_,rfl,rfl,SqT.of (s1 _ _ ht),jf (j:=2) rfl,?_⟩
 refine gQ ?_
 have ht1:=s1 _ _ ht
 have hu1:=hu.mono s1
 have g31:=g3.mono s1
 refine ⟨fun σ' G=>∃ z,σ'=[some (.ref t),some u,some (.bl true),some y,some z]∧Same H1 G∧Held G (p2 (c.bnd b p)) z,?_,?_⟩
 ·have three:∀ {G:Hp},HeldL G [.str "row",.str "lost",.str "put"] [.str "row",.str "lost",.str "put"]:=je jA (je jA (je jA jw))
  rcases b with x | r'
  ·obtain ⟨es,he⟩:=hb2 x rfl
   obtain ⟨t3,y3,rfl,h3,hs⟩:=yB g31
   refine ⟨_,rfl,t3,_,_,_,rfl,rfl,SqT.of h3,jf (j:=0) rfl,sm rfl,fun o ho=>?_⟩
   have s2:=jj ho (.tup [.str "row",.str "lost",.str "put"])
   refine ⟨o,_,_,[.str "row",.str "lost",.str "put"],rfl,jg,(by show max 0 (max 0 (max 0 0))≤8;decide),hs.mono s2,three,_,rfl,?_⟩
   rw [decide_eq_false (by rw [he];simp)]
   exact kh ⟨_,rfl,s2,g31.mono s2⟩
  ·obtain ⟨a,e,ea,hin⟩:=(hb r' rfl).shape
   have g32:Held H1 (.tup [.str a,e]) x3:=by rw [← ea];exact g31
   obtain ⟨t3,y3,y4,rfl,h3,hs,_⟩:=ql g32
   cases js hs
   refine ⟨_,rfl,t3,_,_,_,rfl,rfl,SqT.of h3,jf (j:=0) rfl,sm rfl,fun o ho=>?_⟩
   have s2:=jj ho (.tup [.str "row",.str "lost",.str "put"])
   refine ⟨o,_,.str a,[.str "row",.str "lost",.str "put"],rfl,jg,(by show max 0 (max 0 (max 0 0))≤8;decide),jA,three,_,rfl,?_⟩
   rw [decide_eq_true hin]
   exact kO ⟨_,rfl,_,rfl,_,u,c.ver r',p,rfl,g31.mono s2,hu1.mono s2,fun z G sG hz=>⟨z,rfl,s2.trans sG,hz⟩⟩
 ·rintro σ' G ⟨z,rfl,sG,hz⟩
  have ht2:=sG _ _ ht1
  have hy2:=hy.mono sG
  refine ⟨_,rfl,t,_,_,_,rfl,rfl,SqT.of ht2,jf (j:=1) rfl,rfl,_,rfl,rfl,_,rfl,?_⟩
  unfold zB at q
  by_cases hw:way = ">="
  ·rw [if_pos hw] at q
   rw [decide_eq_true (congrArg V.str hw)]
   refine kh ?_
   refine ⟨_,rfl,_,rfl,_,rfl,t,_,_,_,rfl,rfl,SqT.of ht2,jf (j:=3) rfl,_,rfl,.inr ⟨true,rfl,k,1,rfl,rfl,z,k - 1,_,rfl,hz,fun v G1 s2 hv=>⟨y,v,_,_,rfl,hy2.mono s2,hv,fun x G2 s3 hx=>q x G2 (s1.trans (sG.trans (s2.trans s3))) (by rw [jc2];exact hx)⟩⟩⟩
  ·rw [if_neg hw] at q
   rw [decide_eq_false (fun e=>hw (V.str.inj e))]
   refine kO ?_
   refine ⟨_,rfl,_,rfl,t,_,_,_,rfl,rfl,SqT.of ht2,jf (j:=3) rfl,_,rfl,.inr ⟨true,rfl,k,1,rfl,rfl,z,k+1,_,rfl,hz,fun v G1 s2 hv=>⟨_,rfl,v,y,_,_,rfl,hv,hy2.mono s2,fun x G2 s3 hx=>q x G2 (s1.trans (sG.trans (s2.trans s3))) (by rw [jc1];exact hx)⟩⟩⟩
end
abbrev Ky:Stmt:=top 46
def NmG (x:Str):Prop:=x = ""∨Wd x
def TmG:Tm→Prop
 | .is x=>NmG x
 | .at_ r x d=>Wd r∧NmG x∧d.natAbs≤10 ^ 20
def BdG:Bd→Prop
 | .is x=>NmG x
 | .row q=>Wd q
def ClG:Cl→Prop
 | .least a b k=>TmG a∧TmG b∧k.natAbs≤10 ^ 19
 | .each t td u ud r _ b k=>NmG t∧td.natAbs≤10 ^ 20∧NmG u∧ud.natAbs≤10 ^ 20∧Wd r∧BdG b∧k.natAbs≤10 ^ 19
 | .rise t td u ud r=>NmG t∧td.natAbs≤10 ^ 20∧NmG u∧ud.natAbs≤10 ^ 20∧Wd r
def Gs (m:Nat) (p:P2):Prop:=Src m p.1∧p.2.natAbs≤m * 10 ^ 20
theorem Gs.gp {m:Nat} {p:P2} (h:Gs m p) (hm:m≤90):Gp m p:=⟨h.1,Nat.lt_of_le_of_lt h.2 (Nat.lt_of_le_of_lt (Nat.mul_le_mul_right _ hm) (by decide))⟩
theorem Gs.mono {m k:Nat} {p:P2} (h:Gs m p) (hm:m≤k):Gs k p:=⟨h.1.mono hm,Nat.le_trans h.2 (Nat.mul_le_mul_right _ hm)⟩
theorem Gs.mor {m:Nat} {p:P2} {d:Int} (h:Gs m p) (hd:d.natAbs≤10 ^ 20):Gs (m+1) (mor p d):=⟨h.1.mono (Nat.le_succ _),by
 show (p.2+d).natAbs≤(m+1) * 10 ^ 20
 have:=h.2
 omega⟩
structure St (m:Nat) (c:Cs):Prop where
 nu:∀ x p,c.nu x=some p→Gs m p
 ve:∀ r d,c.ve r=some d→Ver d
theorem St.num {m:Nat} {c:Cs} (S:St m c) {x:Str} (h:NmG x):Gs m (c.num x):=by
 unfold Cs.num
 split
 ·exact ⟨.nought,Nat.zero_le _⟩
 ·rename_i n
  cases e:c.nu x with
  | none=>exact ⟨.start (h.resolve_left n),Nat.zero_le _⟩
  | some p=>exact S.nu x p e
theorem St.spot {m:Nat} {c:Cs} (S:St m c) {x:Str} {d:Int} (h:NmG x) (hd:d.natAbs≤10 ^ 20):Gs (m+1) (c.spot x d):=(S.num h).mor hd
theorem St.ver {m:Nat} {c:Cs} (S:St m c) {r:Str} (h:Wd r):Ver (c.ver r):=by
 unfold Cs.ver
 cases e:c.ve r with
 | none=>exact .row h
 | some d=>exact S.ve r d e
theorem St.stand {m:Nat} {c:Cs} (S:St m c) (hm:m≤88) {t:Tm} (h:TmG t):Gs (m+1) (c.stand t).1:=by
 cases t with
 | is x=>exact (S.num h).mono (Nat.le_succ _)
 | at_ r x d=>exact ⟨.ent (S.ver h.1) (S.num h.2.1).1 (((S.spot h.2.1 h.2.2).gp (by omega)).2),Nat.zero_le _⟩
theorem ZG (c:Cs) (t:Tm):(c.stand t).2.nu=c.nu:=by cases t <;> rfl
theorem ZF (c:Cs) (t:Tm):(c.stand t).2.ve=c.ve:=by cases t <;> rfl
theorem St.congr {m:Nat} {c c':Cs} (S:St m c) (h1:c'.nu=c.nu) (h2:c'.ve=c.ve):St m c':=⟨by rw [h1];exact S.nu,by rw [h2];exact S.ve⟩
theorem Jv (c:Cs) (a b:Tm):((c.stand a).2.stand b).1=(c.stand b).1:=by cases a <;> cases b <;> rfl
theorem ja8 {m:Nat} {d:D} (h:Src m d):∃ es,d=.tup es:=by cases h <;> exact ⟨_,rfl⟩
def jbh:Sp:=fun vs H Q _=>∃ (n m:Nat) (A:BA) (c:Cs) (k:Cl) (v:V),vs=[.ref A.o,v]∧BxAt n A c H∧n≤950∧St m c∧m≤82∧ClG k∧Held H k.toD v∧∀ H',MvB A H H'→BxAt (n+8) A (c.know k) H'→Q .non H'
theorem jd9 {l:List D} {p q x:D}:x∈l++[p]++[q]↔x∈l++[q]++[p]:=by
 simp only [List.mem_append,List.mem_singleton,or_assoc,or_comm (a:=x=p)]
theorem Kh (c:Cs) (a b:Tm):(∀ x,x∈((c.stand a).2.stand b).2.l 2↔x∈((c.stand b).2.stand a).2.l 2)∧(∀ j,j≠2→((c.stand a).2.stand b).2.l j=c.l j):=by
 refine ⟨fun x=>?_,fun j hj=>?_⟩
 ·cases a <;> cases b <;> first | exact Iff.rfl | exact jd9
 ·cases a <;> cases b <;> first | rfl | exact if_neg hj | exact (if_neg hj).trans (if_neg hj)
theorem zv (c:Cs) (a b:Tm) (k:Int):(c.know (.least a b k)).nu=((c.stand a).2.stand b).2.nu∧(c.know (.least a b k)).ve=((c.stand a).2.stand b).2.ve∧(∀ x,x∈tOf ((c.stand a).2.stand b).2 2++[kx (mor (c.stand b).1 k) (c.stand a).1]↔x∈tOf (c.know (.least a b k)) 2)∧∀ j,j < 3→j≠2→∀ x,x∈tOf ((c.stand a).2.stand b).2 j↔x∈tOf (c.know (.least a b k)) j:=by
 refine ⟨by cases a <;> cases b <;> rfl,by cases a <;> cases b <;> rfl,fun x=>?_,fun j hj h2 x=>?_⟩
 ·show x∈((c.stand a).2.stand b).2.l 1++[_]↔x∈((c.stand b).2.stand a).2.l 1++[kx (mor (c.stand b).1 k) ((c.stand b).2.stand a).1]
  rw [(Kh c a b).2 1 (by decide),(Kh c b a).2 1 (by decide),Jv]
 ·have:j=0∨j=1:=by omega
  rcases this with rfl | rfl
  ·exact (Kh c a b).1 x
  ·show x∈(((c.stand a).2.stand b).2.l 4++((c.stand a).2.stand b).2.l 5).map ZL↔x∈(((c.stand b).2.stand a).2.l 4++((c.stand b).2.stand a).2.l 5).map ZL
   rw [(Kh c a b).2 4 (by decide),(Kh c b a).2 4 (by decide),(Kh c a b).2 5 (by decide),(Kh c b a).2 5 (by decide)]
theorem jbA {f:D→D} {a b:List D} {t x:D}:x∈(a++b).map f++[f t]↔x∈((a++[t])++b).map f:=by
 simp only [List.map_append,List.map_cons,List.map_nil,List.mem_append,List.mem_singleton,or_assoc,or_comm (a:=x=f t)]
theorem jfI {f:D→D} {a b:List D} {t x:D}:x∈(a++b).map f++[f t]↔x∈(a++(b++[t])).map f:=by
 simp only [List.map_append,List.map_cons,List.map_nil,List.mem_append,List.mem_singleton,or_assoc]
theorem YN {j i:Nat} (hj:j < 3) (h:j≠i):(i=0→j=1∨j=2)∧(i=1→j=0∨j=2):=by omega
theorem Jx (c:Cs) (d:D) (j:Nat) (hj:j < 3) (h:j≠0) (x:D):x∈tOf c j↔x∈tOf (c.add 2 [d]) j:=by
 rcases (YN hj h).1 rfl with rfl | rfl <;> exact Iff.rfl
theorem Yx (c:Cs) (x:Str) (d:Int) (y:Str) (e:Int) (r way:Str) (b:Bd) (k:Int):(∀ z,z∈tOf (c.add 2 [p2 (c.spot x d)]) 1++[p2 (c.spot y e)]↔z∈tOf (c.know (.each x d y e r way b k)) 1)∧∀ j,j < 3→j≠1→∀ z,z∈tOf (c.add 2 [p2 (c.spot x d)]) j↔z∈tOf (c.know (.each x d y e r way b k)) j:=by
 refine ⟨fun z=>?_,fun j hj h z=>?_⟩
 ·cases b with
  | is q=>exact jbA (f:=ZL) (a:=c.l 4) (b:=c.l 5) (t:=.tup [p2 (c.spot x d),p2 (c.spot y e),((c.add 2 [p2 (c.spot x d)]).body r way (.is q) k).1])
  | row q=>exact jbA (f:=ZL) (a:=c.l 4) (b:=c.l 5) (t:=.tup [p2 (c.spot x d),p2 (c.spot y e),((c.add 2 [p2 (c.spot x d)]).body r way (.row q) k).1])
 ·rcases (YN hj h).2 rfl with rfl | rfl <;> cases b <;> exact Iff.rfl
theorem Yw (c:Cs) (x:Str) (d:Int) (y:Str) (e:Int) (r:Str):(∀ z,z∈tOf (c.add 2 [p2 (c.spot x d)]) 1++[p2 (c.spot y e)]↔z∈tOf (c.know (.rise x d y e r)) 1)∧∀ j,j < 3→j≠1→∀ z,z∈tOf (c.add 2 [p2 (c.spot x d)]) j↔z∈tOf (c.know (.rise x d y e r)) j:=by
 refine ⟨fun z=>?_,fun j hj h z=>?_⟩
 ·exact jfI (f:=ZL) (a:=c.l 4) (b:=c.l 5) (t:=.tup [p2 (c.spot x d),p2 (c.spot y e),c.ver r])
 ·rcases (YN hj h).2 rfl with rfl | rfl <;> exact Iff.rfl
section
variable {P:Program} {w:World} {K:W.Frag} {mg:Str→Option Value} {base:Heap}
theorem jd1 {f:Addr} {fd:FuncData} (F:Fun K "_law_known" "_law_known" Ky f fd) (F_source:Fn P w K mg base 15 "_law_source" ["_law_box","_law_term_here"] jbd) (F_kept:Fn P w K mg base 14 "_law_kept" ["_law_some","_law_one"] Kr) (F_tie:Fn P w K mg base 1 "_law_tie" ["_law_one","_law_other"] yr) (F_more:Fn P w K mg base 1 "_law_more" ["_law_one","_law_more_here"] qg) (F_spot:Fn P w K mg base 2 "_law_spot" ["_law_box","_law_place_here"] yQ) (F_against:Fn P w K mg base 2 "_law_against" ["_law_box","_law_claim_here"] Jz) (F_version:Fn P w K mg base 1 "_law_version" ["_law_box","_law_r"] Jy):FnOk P w K mg base CX0 16 f fd ["_law_box","_law_claim_here"] jbh:=by
 have sc:FnScope ["_law_box","_law_claim_here","_law_a","_law_b","_law_t","_law_u"] ["_law_box","_law_claim_here"] (jp Ky):=fQ
 refine F.okZ sc (fun vs H Q E h=>?_) (fun cdv A outer s H vs Q E hr h=>?_)
 ·obtain ⟨n,m,A,c,k,v,rfl,_⟩:=h
  rfl
 have hu:(A.deeper (PyProof.Rows.envOfC "_law_known" (jp Ky) s.heap.objs.size f cdv)).units+1 < cLine:=by have:=hr.units;omega
 obtain ⟨n,m,B,c,k,v,rfl,I,hn,S,hm,hG,hv,q⟩:=h
 refine ⟨_,(jd (jL (jy j8 (jm ju (zpv 1) jc (fun _ _=>rfl)) jl (jH _)) (jd (jv (i:=2) sc.nd rfl oQ (ji F_source hr (ja (zpv 0) (ja (jm ju (zpv 1) jc (fun _ _=>rfl)) jb))))
   (jd (jv (i:=3) sc.nd rfl oQ (ji F_source hr (ja (zpv 0) (ja (jm ju (zpv 1) jc (fun _ _=>rfl)) jb))))
   (jd (jz (ji F_kept hr (ja (jM hu (zpv 0) jl (fun _ _=>rfl)) (ja (ji F_tie hr (ja (ji F_more hr (ja (zpv 3) (ja (jm ju (zpv 1) jc (fun _ _=>rfl)) jb))) (ja (zpv 2) jb))) jb))))
   (jh q5)))) jG)
   (jd (jv (i:=4) sc.nd rfl oQ (ji F_spot hr (ja (zpv 0) (ja (jm ju (zpv 1) jc (fun _ _=>rfl)) jb))))
   (jd (jv (i:=5) sc.nd rfl oQ (ji F_spot hr (ja (zpv 0) (ja (jm ju (zpv 1) jc (fun _ _=>rfl)) jb))))
   (jd (jz (ji F_kept hr (ja (jM hu (zpv 0) jl (fun _ _=>rfl)) (ja (zpv 4) jb))))
   (jd (jz (ji F_kept hr (ja (jM hu (zpv 0) jl (fun _ _=>rfl)) (ja (zpv 5) jb))))
   (jh (jL (jy j8 (jm ju (zpv 1) jc (fun _ _=>rfl)) jl (jH _)) (jh (jz (ko PySem.F.plainAttrs_list PySem.F.slot_list_append PySem.F.type_list_append j0 (jM hu (zpv 0) jl (fun _ _=>rfl)) (ja (jW (ja (zpv 4) (ja (zpv 5) (ja (ji F_against hr (ja (zpv 0) (ja (zpv 1) jb))) jb)))) jb)))) (jh (jz (ko PySem.F.plainAttrs_list PySem.F.slot_list_append PySem.F.type_list_append j0 (jM hu (zpv 0) jl (fun _ _=>rfl)) (ja (jW (ja (zpv 4) (ja (zpv 5) (ja (ji F_version hr (ja (zpv 0) (ja (jm ju (zpv 1) jc (fun _ _=>rfl)) jb))) jb)))) jb))))))))))),?_⟩
 refine jI (σ':=[some (.ref B.o),some v,none,none,none,none]) rfl ?_
 try dsimp only [yp]
 refine jh4 ?_
 intro _ _ _ _ _
 rcases k with ⟨a,b,k⟩ | ⟨x,d,y,e,r,way,b,k⟩ | ⟨x,d,y,e,r⟩
 ·obtain ⟨g1,g2,g3⟩:=hG
  obtain ⟨t,va,vb,rfl,ht,ha,hb⟩:=qC hv
  refine ⟨_,rfl,t,_,_,_,rfl,rfl,SqT.of ht,jf (j:=0) rfl,rfl,_,rfl,kO ?_⟩
  have gsp:∀ {c':Cs} {u:Tm},c'.nu=c.nu→c'.ve=c.ve→TmG u→∀ r x d,u=.at_ r x d→Gp (m+1) (c'.spot x d):=fun h1 h2 hu r x d eu=>by
   subst eu
   exact ((S.congr h1 h2).spot hu.2.1 hu.2.2).gp (by omega)
  refine ⟨_,rfl,_,rfl,t,_,_,_,rfl,rfl,SqT.of ht,jf (j:=1) rfl,n,m+1,B,c,a,va,rfl,I,by omega,ha,by omega,gsp rfl rfl g1,fun ya H1 m1 I1 hya=>?_⟩
  refine gQ ?_
  have t1:=I.tk m1
  refine ⟨_,rfl,_,rfl,t,_,_,_,rfl,rfl,SqT.of (t1 _ _ ht),jf (j:=2) rfl,n+2,m+1,B,_,b,vb,rfl,I1,by omega,t1.held hb,by omega,gsp (ZG c a) (ZF c a) g2,fun yb H2 m2 I2 hyb=>?_⟩
  refine gQ ?_
  have t2:=I1.tk m2
  have hya2:=t2.held hya
  rw [Jv] at hyb
  refine ⟨_,rfl,B.o,_,rfl,yx I2.o,_,rfl,_,rfl,t,_,_,_,rfl,rfl,SqT.of (t2 _ _ (t1 _ _ ht)),jf (j:=3) rfl,yb,k,_,rfl,hyb,fun z H3 s3 hz=>⟨_,rfl,z,ya,_,_,rfl,hz,hya2.mono s3,fun x H4 s4 hx=>?_⟩⟩
  have I4:=I2.same (s3.trans s4)
  obtain ⟨ds,kvs,l1,_,_,_,_,_,l3⟩:=I4.t 2 (by decide)
  have hs:=kR (((S.stand (by omega) g2).mor (d:=k) (by omega)).gp (by omega)) (((S.stand (by omega) g1).mono (Nat.le_succ _)).gp (by omega)) (by omega)
  obtain ⟨m5,I5⟩:=I4.put (c':=c.know (.least a b k)) (i:=2) (by decide) l1 hx hs.1 (zv c a b k).1 (zv c a b k).2.1 (zv c a b k).2.2.1 (zv c a b k).2.2.2
  refine ⟨B.t 2,x,kvs,_,rfl,l1,by omega,hx,⟨_,rfl⟩,hs,?_⟩
  exact q _ ((m1.trans m2).trans ((MvB.same (s3.trans s4)).trans m5)) (I5.mono (by omega))
 ·obtain ⟨g1,g2,g3,g4,g5,g6,g7⟩:=hG
  obtain ⟨t,va,vb,vc,rfl,ht,ha,hb,hc⟩:=zh hv
  refine ⟨_,rfl,t,_,_,_,rfl,rfl,SqT.of ht,jf (j:=0) rfl,rfl,_,rfl,kh ?_⟩
  refine ⟨_,rfl,_,rfl,t,_,_,_,rfl,rfl,SqT.of ht,jf (j:=1) rfl,n,B,c,x,d,_,rfl,I,ku ha,fun sp H1 s1 hsp=>?_⟩
  refine gQ ?_
  refine ⟨_,rfl,_,rfl,t,_,_,_,rfl,rfl,SqT.of (s1 _ _ ht),jf (j:=2) rfl,n,B,c,y,e,_,rfl,I.same s1,ku (s1 _ _ hb),fun su H2 s2 hsu=>?_⟩
  refine gQ ?_
  have s3:=s1.trans s2
  have I2:=I.same s3
  have hsp2:=hsp.mono s2
  obtain ⟨ds,kvs,l1,_,_,_,_,_,l3⟩:=I2.t 0 (by decide)
  have w1:=((S.spot g1 g2).gp (by omega)).shw (by omega)
  have w2:=((S.spot g3 g4).gp (by omega)).shw (by omega)
  obtain ⟨m3,I3⟩:=I2.put (c':=c.add 2 [p2 (c.spot x d)]) (i:=0) (by decide) l1 hsp2 w1.1 rfl rfl (fun _=>Iff.rfl) (Jx c _)
  refine ⟨_,rfl,B.o,_,rfl,yy I2.o,_,rfl,B.t 0,sp,kvs,_,rfl,l1,by omega,hsp2,⟨_,rfl⟩,w1,?_⟩
  have t3:=I2.tk m3
  generalize upd H2 (B.t 0) _=H3 at *
  have hsu3:=t3.held hsu
  have ht3:=t3 _ _ (s3 _ _ ht)
  have hv3:=t3.held (hv.mono s3)
  obtain ⟨ds2,kv2,l4,_,_,_,_,_,l6⟩:=I3.t 1 (by decide)
  obtain ⟨m4,I4⟩:=I3.put (c':=c.know (.each x d y e r way b k)) (i:=1) (by decide) l4 hsu3 w2.1 (by cases b <;> rfl) (by cases b <;> rfl) (Yx c x d y e r way b k).1 (Yx c x d y e r way b k).2
  refine ⟨_,rfl,B.o,_,rfl,jev I3.o,_,rfl,B.t 1,su,kv2,_,rfl,l4,by omega,hsu3,⟨_,rfl⟩,w2,?_⟩
  have t4:=I3.tk m4
  generalize upd H3 (B.t 1) _=H4 at *
  have ht4:=t4 _ _ ht3
  refine ⟨_,rfl,t,_,_,_,rfl,rfl,SqT.of ht4,jf (j:=0) rfl,rfl,_,rfl,kO ?_⟩
  obtain ⟨ls,l7,l8⟩:=I4.l 0 (by decide)
  refine ⟨_,rfl,B.o,_,rfl,jih I4.o,.inl ⟨rfl,_,SqL.of l7⟩,_,rfl,_,rfl,_,rfl,_,rfl,n+1+1,B,_,x,y,d,e,r,way,b,k,_,rfl,I4,by omega,t4.held hv3,fun bo H5 m5 I5 hbo=>⟨sm rfl,fun p hp=>?_⟩⟩
  have s6:=jj hp (.tup [sp,su,bo])
  have I6:=I5.same s6
  obtain ⟨zs,l9,l10⟩:=I6.l 0 (by decide)
  obtain ⟨m7,I7⟩:=I6.addl (i:=0) (v:=.ref p) (by decide) l9 l10
  exact ⟨B.l 0,zs,_,rfl,rfl,l9,jJ (by omega),q _ (((MvB.same s3).trans m3).trans (m4.trans (m5.trans ((MvB.same s6).trans m7)))) (I7.mono (by omega))⟩
 ·obtain ⟨g1,g2,g3,g4,g5⟩:=hG
  obtain ⟨t,va,vb,rfl,ht,ha,hb⟩:=y6 hv
  refine ⟨_,rfl,t,_,_,_,rfl,rfl,SqT.of ht,jf (j:=0) rfl,rfl,_,rfl,kh ?_⟩
  refine ⟨_,rfl,_,rfl,t,_,_,_,rfl,rfl,SqT.of ht,jf (j:=1) rfl,n,B,c,x,d,_,rfl,I,ku ha,fun sp H1 s1 hsp=>?_⟩
  refine gQ ?_
  refine ⟨_,rfl,_,rfl,t,_,_,_,rfl,rfl,SqT.of (s1 _ _ ht),jf (j:=2) rfl,n,B,c,y,e,_,rfl,I.same s1,ku (s1 _ _ hb),fun su H2 s2 hsu=>?_⟩
  refine gQ ?_
  have s3:=s1.trans s2
  have I2:=I.same s3
  have hsp2:=hsp.mono s2
  obtain ⟨ds,kvs,l1,_,_,_,_,_,l3⟩:=I2.t 0 (by decide)
  have w1:=((S.spot g1 g2).gp (by omega)).shw (by omega)
  have w2:=((S.spot g3 g4).gp (by omega)).shw (by omega)
  obtain ⟨m3,I3⟩:=I2.put (c':=c.add 2 [p2 (c.spot x d)]) (i:=0) (by decide) l1 hsp2 w1.1 rfl rfl (fun _=>Iff.rfl) (Jx c _)
  refine ⟨_,rfl,B.o,_,rfl,yy I2.o,_,rfl,B.t 0,sp,kvs,_,rfl,l1,by omega,hsp2,⟨_,rfl⟩,w1,?_⟩
  have t3:=I2.tk m3
  generalize upd H2 (B.t 0) _=H3 at *
  have hsu3:=t3.held hsu
  have ht3:=t3 _ _ (s3 _ _ ht)
  obtain ⟨ds2,kv2,l4,_,_,_,_,_,l6⟩:=I3.t 1 (by decide)
  obtain ⟨m4,I4⟩:=I3.put (c':=c.know (.rise x d y e r)) (i:=1) (by decide) l4 hsu3 w2.1 rfl rfl (Yw c x d y e r).1 (Yw c x d y e r).2
  refine ⟨_,rfl,B.o,_,rfl,jev I3.o,_,rfl,B.t 1,su,kv2,_,rfl,l4,by omega,hsu3,⟨_,rfl⟩,w2,?_⟩
  have t4:=I3.tk m4
  generalize upd H3 (B.t 1) _=H4 at *
  have ht4:=t4 _ _ ht3
  refine ⟨_,rfl,t,_,_,_,rfl,rfl,SqT.of ht4,jf (j:=0) rfl,rfl,_,rfl,kh ?_⟩
  obtain ⟨ls,l7,l8⟩:=I4.l 1 (by decide)
  refine ⟨_,rfl,B.o,_,rfl,jig I4.o,.inl ⟨rfl,_,SqL.of l7⟩,_,rfl,_,rfl,_,rfl,_,rfl,t,_,_,_,rfl,rfl,SqT.of ht4,jf (j:=3) rfl,n+1+1,B,_,r,rfl,I4,by omega,fun bo H5 m5 I5 hbo=>⟨sm rfl,fun p hp=>?_⟩⟩
  have s6:=jj hp (.tup [sp,su,bo])
  have I6:=I5.same s6
  obtain ⟨zs,l9,l10⟩:=I6.l 1 (by decide)
  obtain ⟨m7,I7⟩:=I6.addl (i:=1) (v:=.ref p) (by decide) l9 l10
  exact ⟨B.l 1,zs,_,rfl,rfl,l9,jJ (by omega),q _ (((MvB.same s3).trans m3).trans (m4.trans (m5.trans ((MvB.same s6).trans m7)))) (I7.mono (by omega))⟩
end
abbrev yU:Stmt:=top 47
def ZJ:Sp:=fun vs H Q _=>∃ (n m:Nat) (A:BA) (c:Cs) (k:Cl) (v:V),vs=[.ref A.o,v]∧BxAt n A c H∧n≤940∧St m c∧m≤82∧ClG k∧Held H k.toD v∧∀ H',MvB A H H'→BxAt (n+12) A (c.deny k) H'→Q .non H'
theorem jc5 (c:Cs) (d:D) (j:Nat) (hj:j < 3) (h:j≠2) (x:D):x∈tOf c j↔x∈tOf (c.add 1 [d]) j:=by
 have:j=0∨j=1:=by omega
 rcases this with rfl | rfl <;> exact Iff.rfl
theorem BxAt.tie {n:Nat} {A:BA} {c:Cs} {H:Hp} {kvs:List (Key×V)} {d:D} {v:V} (I:BxAt n A c H) (e:H (A.t 2)=some (.dK kvs)) (hv:Held H d v) (hd:OkD d):MvB A H (upd H (A.t 2) (.dK (kc kvs (.inr d.py.shown) v)))∧BxAt (n+1) A (c.add 1 [d]) (upd H (A.t 2) (.dK (kc kvs (.inr d.py.shown) v))):=
 I.put (i:=2) (by decide) e hv hd rfl rfl (fun _=>Iff.rfl) (jc5 c d)
theorem BxAt.spot {n:Nat} {A:BA} {c:Cs} {H:Hp} {kvs:List (Key×V)} {d:D} {v:V} (I:BxAt n A c H) (e:H (A.t 0)=some (.dK kvs)) (hv:Held H d v) (hd:OkD d):MvB A H (upd H (A.t 0) (.dK (kc kvs (.inr d.py.shown) v)))∧BxAt (n+1) A (c.add 2 [d]) (upd H (A.t 0) (.dK (kc kvs (.inr d.py.shown) v))):=
 I.put (i:=0) (by decide) e hv hd rfl rfl (fun _=>Iff.rfl) (Jx c d)
theorem Y4 (i:Int) (h:i.natAbs≤1000) (m:Nat):Gs m (j4 i):=⟨.own h,Nat.zero_le _⟩
theorem BxAt.kv {n:Nat} {A:BA} {c:Cs} {H:Hp} (I:BxAt n A c H) (i:Nat) (hi:i < 3):∃ kvs,H (A.t i)=some (.dK kvs)∧kvs.length≤n:=by
 obtain ⟨_,kvs,h,_,_,_,_,_,l⟩:=I.t i hi
 exact ⟨kvs,h,l⟩
theorem Zg {m:Nat} {v:D} {i:Int} (hv:Ver v) (hi:i.natAbs≤1000):Gs (m+1) (qb v (j4 i)):=⟨.ent hv (.own hi) (by decide),Nat.zero_le _⟩
theorem St.bnd {m:Nat} {c:Cs} (S:St m c) {b:Bd} (h:BdG b):Gs (m+1) (c.bnd b (j4 0)):=by
 cases b with
 | is x=>exact (S.num h).mono (Nat.le_succ _)
 | row q=>exact Zg (S.ver h) (by decide)
theorem jc0 {m:Nat} {v:D} {way:Str} {b s:P2} {k:Int} (hm:m+1≤90) (h1:Gs (m+1) (qb v s)) (h2:Gs m b) (hk:k.natAbs≤10 ^ 19):Shw (JN (zB v way b k s)):=by
 unfold zB
 split
 ·rw [jc2]
  exact kR (h1.gp hm) ((h2.mor (d:=k - 1) (by omega)).gp hm) hm
 ·rw [jc1]
  exact kR ((h2.mor (d:=k+1) (by omega)).gp hm) (h1.gp hm) hm
theorem jcZ (v:D) (way:Str) (b:P2) (k:Int) (s:P2):∃ es,JN (zB v way b k s)=.tup es:=by
 obtain ⟨x,y,c,e⟩:=Yg v way b k s
 exact ⟨_,by rw [e];rfl⟩
section
variable {P:Program} {w:World} {K:W.Frag} {mg:Str→Option Value} {base:Heap}
theorem jch {f:Addr} {fd:FuncData} (F:Fun K "_law_denied" "_law_denied" yU f fd) (F_source:Fn P w K mg base 15 "_law_source" ["_law_box","_law_term_here"] jbd) (F_kept:Fn P w K mg base 14 "_law_kept" ["_law_some","_law_one"] Kr) (F_tie:Fn P w K mg base 1 "_law_tie" ["_law_one","_law_other"] yr) (F_more:Fn P w K mg base 1 "_law_more" ["_law_one","_law_more_here"] qg) (F_spot:Fn P w K mg base 2 "_law_spot" ["_law_box","_law_place_here"] yQ) (F_against:Fn P w K mg base 2 "_law_against" ["_law_box","_law_claim_here"] Jz) (F_body:Fn P w K mg base 2 "_law_body" ["_law_body_here","_law_spot_here","_law_about"] jbk) (F_version:Fn P w K mg base 1 "_law_version" ["_law_box","_law_r"] Jy) (F_entry:Fn P w K mg base 1 "_law_entry" ["_law_version_here","_law_spot_here"] yq):FnOk P w K mg base CX0 16 f fd ["_law_box","_law_goal"] ZJ:=by
 have sc:FnScope ["_law_box","_law_goal","_law_a","_law_b","_law_one","_law_two","_law_version_here","_law_tie_here"] ["_law_box","_law_goal"] (jp yU):=fQ
 refine F.okZ sc (fun vs H Q E h=>?_) (fun cdv A outer s H vs Q E hr h=>?_)
 ·obtain ⟨n,m,A,c,k,v,rfl,_⟩:=h
  rfl
 have hu:(A.deeper (PyProof.Rows.envOfC "_law_denied" (jp yU) s.heap.objs.size f cdv)).units+1 < cLine:=by have:=hr.units;omega
 obtain ⟨n,m,B,c,k,v,rfl,I,hn,S,hm,hG,hv,q⟩:=h
 refine ⟨_,(jd (jL (jy j8 (jm ju (zpv 1) jc (fun _ _=>rfl)) jl (jH _)) (jd (jv (i:=2) sc.nd rfl oQ (ji F_source hr (ja (zpv 0) (ja (jm ju (zpv 1) jc (fun _ _=>rfl)) jb))))
   (jd (jv (i:=3) sc.nd rfl oQ (ji F_source hr (ja (zpv 0) (ja (jm ju (zpv 1) jc (fun _ _=>rfl)) jb))))
   (jd (jz (ji F_kept hr (ja (jM hu (zpv 0) jl (fun _ _=>rfl)) (ja (ji F_tie hr (ja (ji F_more hr (ja (zpv 2) (ja (jq qw jc (jm ju (zpv 1) jc (fun _ _=>rfl))) jb))) (ja (zpv 3) jb))) jb))))
   (jh q5)))) jG)
   (jd (jv (i:=4) sc.nd rfl oQ (zpd (jX (jr (jX (jr kz (jr qv jN))) (jr qv jN)))))
   (jd (jv (i:=5) sc.nd rfl oQ (zpd (jX (jr (jX (jr kz (jr qv jN))) (jr qv jN)))))
   (jd (jz (ji F_kept hr (ja (jM hu (zpv 0) jl (fun _ _=>rfl)) (ja (zpv 4) jb))))
   (jd (jz (ji F_kept hr (ja (jM hu (zpv 0) jl (fun _ _=>rfl)) (ja (ji F_tie hr (ja (ji F_spot hr (ja (zpv 0) (ja (jm ju (zpv 1) jc (fun _ _=>rfl)) jb))) (ja (zpv 4) jb))) jb))))
   (jd (jL (jy j8 (jm ju (zpv 1) jc (fun _ _=>rfl)) jl (jH _)) (jd (jz (ji F_kept hr (ja (jM hu (zpv 0) jl (fun _ _=>rfl)) (ja (ji F_tie hr (ja (zpv 4) (ja (ji F_spot hr (ja (zpv 0) (ja (jm ju (zpv 1) jc (fun _ _=>rfl)) jb))) jb))) jb))))
   (jd (jz (ji F_kept hr (ja (jM hu (zpv 0) jl (fun _ _=>rfl)) (ja (ji F_body hr (ja (ji F_against hr (ja (zpv 0) (ja (zpv 1) jb))) (ja (zpv 4) (ja qY jb)))) jb))))
   (jh q5))) jG)
   (jd (jz (ji F_kept hr (ja (jM hu (zpv 0) jl (fun _ _=>rfl)) (ja (zpv 5) jb))))
   (jd (jv (i:=6) sc.nd rfl oQ (ji F_version hr (ja (zpv 0) (ja (jm ju (zpv 1) jc (fun _ _=>rfl)) jb))))
   (jd (zY PassesOwn.never rfl (zG (jY (ja (ji F_tie hr (ja (zpv 4) (ja (zpv 5) jb))) (ja (ji F_tie hr (ja (zpv 5) (ja (ji F_spot hr (ja (zpv 0) (ja (jm ju (zpv 1) jc (fun _ _=>rfl)) jb))) jb))) jb)))) (jC (i:=7) sc.nd rfl oQ) (jh (jz (ji F_kept hr (ja (jM hu (zpv 0) jl (fun _ _=>rfl)) (ja (zpv 7) jb))))))
   (jh (jz (ji F_kept hr (ja (jM hu (zpv 0) jl (fun _ _=>rfl)) (ja (ji F_tie hr (ja (ji F_more hr (ja (ji F_entry hr (ja (zpv 6) (ja (zpv 5) jb))) (ja jc jb))) (ja (ji F_entry hr (ja (zpv 6) (ja (zpv 4) jb))) jb))) jb)))))))))))))),?_⟩
 refine jI (σ':=[some (.ref B.o),some v,none,none,none,none,none,none]) rfl ?_
 try dsimp only [yp]
 refine jh3 ?_
 intro _ _ _ _ _ _ _ _ _
 have O0:∀ m,Gs m (j4 0):=Y4 0 (by decide)
 have O1:∀ m,Gs m (j4 1):=Y4 1 (by decide)
 rcases k with ⟨a,b,k⟩ | ⟨x,d,y,e,r,way,b,k⟩ | ⟨x,d,y,e,r⟩
 ·obtain ⟨g1,g2,g3⟩:=hG
  obtain ⟨t,va,vb,rfl,ht,ha,hb⟩:=qC hv
  refine ⟨_,rfl,t,_,_,_,rfl,rfl,SqT.of ht,jf (j:=0) rfl,rfl,_,rfl,kO ?_⟩
  have gsp:∀ {c':Cs} {u:Tm},c'.nu=c.nu→c'.ve=c.ve→TmG u→∀ r x d,u=.at_ r x d→Gp (m+1) (c'.spot x d):=fun h1 h2 hu r x d eu=>by
   subst eu
   exact ((S.congr h1 h2).spot hu.2.1 hu.2.2).gp (by omega)
  refine ⟨_,rfl,_,rfl,t,_,_,_,rfl,rfl,SqT.of ht,jf (j:=1) rfl,n,m+1,B,c,a,va,rfl,I,by omega,ha,by omega,gsp rfl rfl g1,fun ya H1 m1 I1 hya=>?_⟩
  refine gQ ?_
  have t1:=I.tk m1
  refine ⟨_,rfl,_,rfl,t,_,_,_,rfl,rfl,SqT.of (t1 _ _ ht),jf (j:=2) rfl,n+2,m+1,B,_,b,vb,rfl,I1,by omega,t1.held hb,by omega,gsp (ZG c a) (ZF c a) g2,fun yb H2 m2 I2 hyb=>?_⟩
  refine gQ ?_
  have t2:=I1.tk m2
  have hya2:=t2.held hya
  refine ⟨_,rfl,B.o,_,rfl,yx I2.o,_,rfl,_,rfl,t,_,_,_,rfl,rfl,SqT.of (t2 _ _ (t1 _ _ ht)),jf (j:=3) rfl,1,k,rfl,rfl,ya,1 - k,_,rfl,hya2,fun z H3 s3 hz=>⟨_,rfl,z,yb,_,_,rfl,hz,hyb.mono s3,fun x H4 s4 hx=>?_⟩⟩
  have I4:=I2.same (s3.trans s4)
  obtain ⟨kvs,l1,l3⟩:=I4.kv 2 (by decide)
  have hs:Shw (kx (mor (c.stand a).1 (1 - k)) ((c.stand a).2.stand b).1):=by
   rw [Jv]
   exact kR (((S.stand (by omega) g1).mor (d:=1 - k) (by omega)).gp (by omega)) (((S.stand (by omega) g2).mono (Nat.le_succ _)).gp (by omega)) (by omega)
  obtain ⟨m5,I5⟩:=I4.tie l1 hx hs.1
  exact ⟨B.t 2,x,kvs,_,rfl,l1,by omega,hx,⟨_,rfl⟩,hs,q _ ((m1.trans m2).trans ((MvB.same (s3.trans s4)).trans m5)) (I5.mono (by omega))⟩
 ·obtain ⟨g1,g2,g3,g4,g5,g6,g7⟩:=hG
  obtain ⟨t,va,vb,vc,rfl,ht,ha,hb,hc⟩:=zh hv
  refine ⟨_,rfl,t,_,_,_,rfl,rfl,SqT.of ht,jf (j:=0) rfl,rfl,_,rfl,kh ?_⟩
  refine ⟨p2 (j4 0),⟨_,rfl,Nat.le_of_ble_eq_true rfl,_,_,rfl,⟨_,rfl,Nat.le_of_ble_eq_true rfl,_,_,rfl,rfl,_,_,rfl,rfl,rfl⟩,_,_,rfl,rfl,rfl⟩,fun o1 H1 s1 h1=>?_⟩
  refine gQ ?_
  refine ⟨p2 (j4 1),⟨_,rfl,Nat.le_of_ble_eq_true rfl,_,_,rfl,⟨_,rfl,Nat.le_of_ble_eq_true rfl,_,_,rfl,rfl,_,_,rfl,rfl,rfl⟩,_,_,rfl,rfl,rfl⟩,fun o2 H2 s2 h2=>?_⟩
  refine gQ ?_
  have s3:=s1.trans s2
  have I2:=I.same s3
  have h12:=h1.mono s2
  obtain ⟨kvs,l1,l3⟩:=I2.kv 0 (by decide)
  have w1:=((O0 m).gp (by omega)).shw (by omega)
  obtain ⟨m3,I3⟩:=I2.spot l1 h12 w1.1
  refine ⟨_,rfl,B.o,_,rfl,yy I2.o,_,rfl,B.t 0,o1,kvs,_,rfl,l1,by omega,h12,⟨_,rfl⟩,w1,?_⟩
  have t3:=I2.tk m3
  generalize upd H2 (B.t 0) _=H3 at *
  have h13:=t3.held h12
  have ht3:=t3 _ _ (s3 _ _ ht)
  have ha3:=t3 _ _ (s3 _ _ ha)
  have hb3:=t3 _ _ (s3 _ _ hb)
  refine ⟨_,rfl,B.o,_,rfl,yx I3.o,_,rfl,_,rfl,t,_,_,_,rfl,rfl,SqT.of ht3,jf (j:=1) rfl,n+1,B,_,x,d,_,rfl,I3,ku ha3,fun sp H4 s4 hsp=>⟨_,rfl,sp,o1,_,_,rfl,hsp,h13.mono s4,fun ti H5 s5 hti=>?_⟩⟩
  have I5:=I3.same (s4.trans s5)
  obtain ⟨kv2,l4,l6⟩:=I5.kv 2 (by decide)
  have w2:=kR ((S.spot g1 g2).gp (by omega)) ((O0 (m+1)).gp (by omega)) (by omega)
  obtain ⟨m6,I6⟩:=I5.tie l4 hti w2.1
  refine ⟨B.t 2,ti,kv2,_,rfl,l4,by omega,hti,⟨_,rfl⟩,w2,?_⟩
  have t6:=(TK.same (s4.trans s5)).trans (I5.tk m6)
  generalize upd H5 (B.t 2) _=H6 at *
  have h16:=t6.held h13
  have ht6:=t6 _ _ ht3
  have hb6:=t6 _ _ hb3
  refine ⟨_,rfl,t,_,_,_,rfl,rfl,SqT.of ht6,jf (j:=0) rfl,rfl,_,rfl,kO ?_⟩
  refine ⟨_,rfl,B.o,_,rfl,yx I6.o,_,rfl,_,rfl,_,rfl,t,_,_,_,rfl,rfl,SqT.of ht6,jf (j:=2) rfl,n+1+1,B,_,y,e,_,rfl,I6,ku hb6,fun su H7 s7 hsu=>⟨o1,su,_,_,rfl,h16.mono s7,hsu,fun tj H8 s8 htj=>?_⟩⟩
  have I8:=I6.same (s7.trans s8)
  obtain ⟨kv3,l7,l9⟩:=I8.kv 2 (by decide)
  have w3:=kR ((O0 (m+1)).gp (by omega)) ((S.spot g3 g4).gp (by omega)) (by omega)
  obtain ⟨m9,I9⟩:=I8.tie l7 htj w3.1
  refine ⟨B.t 2,tj,kv3,_,rfl,l7,by omega,htj,⟨_,rfl⟩,w3,?_⟩
  have t9:=(TK.same (s7.trans s8)).trans (I8.tk m9)
  generalize upd H8 (B.t 2) _=H9 at *
  have h19:=t9.held h16
  have hv9:=t9.held (t6.held (t3.held (hv.mono s3)))
  refine ⟨_,rfl,B.o,_,rfl,yx I9.o,_,rfl,_,rfl,n+1+1+1,B,_,x,y,d,e,r,way,b,k,_,rfl,I9,by omega,hv9,fun bo H10 m10 I10 hbo=>⟨_,rfl,c,r,way,b,k,j4 0,bo,o1,rfl,(by cases b <;> exact hbo),(I9.tk m10).held h19,(fun z ez=>S.ver (by subst ez;exact g6)),(fun z ez=>by subst ez;exact ja8 (S.num g6).1),fun tb H11 s11 htb=>?_⟩⟩
  have I11:=I10.same s11
  obtain ⟨kv4,l10,l12⟩:=I11.kv 2 (by decide)
  have w4:=jc0 (m:=m+1) (v:=c.ver r) (way:=way) (s:=j4 0) (by omega) ((Zg (m:=m) (S.ver g5) (by decide)).mono (by omega)) (S.bnd g6) g7
  obtain ⟨m12,I12⟩:=I11.tie l10 htb w4.1
  refine ⟨B.t 2,tb,kv4,_,rfl,l10,by omega,htb,jcZ _ _ _ _ _,w4,?_⟩
  refine q _ ((((MvB.same s3).trans m3).trans ((MvB.same (s4.trans s5)).trans m6)).trans (((MvB.same (s7.trans s8)).trans m9).trans ((m10.trans (.same s11)).trans m12))) (I12.congr (by omega) (by cases b <;> rfl) (by cases b <;> rfl) fun j hj z=>?_)
  have h3:j=0∨j=1∨j=2:=by omega
  rcases h3 with rfl | rfl | rfl
  ·cases b <;> exact Iff.rfl
  ·cases b <;> exact Iff.rfl
  ·have:∀ (L:List D) (p q r:D),z∈L++[p]++[q]++[r]↔z∈L++[p,q,r]:=fun L p q r=>by simp only [List.append_assoc,List.cons_append,List.nil_append]
   cases b <;> exact this _ _ _ _
 ·obtain ⟨g1,g2,g3,g4,g5⟩:=hG
  obtain ⟨t,va,vb,rfl,ht,ha,hb⟩:=y6 hv
  refine ⟨_,rfl,t,_,_,_,rfl,rfl,SqT.of ht,jf (j:=0) rfl,rfl,_,rfl,kh ?_⟩
  refine ⟨p2 (j4 0),⟨_,rfl,Nat.le_of_ble_eq_true rfl,_,_,rfl,⟨_,rfl,Nat.le_of_ble_eq_true rfl,_,_,rfl,rfl,_,_,rfl,rfl,rfl⟩,_,_,rfl,rfl,rfl⟩,fun o1 H1 s1 h1=>?_⟩
  refine gQ ?_
  refine ⟨p2 (j4 1),⟨_,rfl,Nat.le_of_ble_eq_true rfl,_,_,rfl,⟨_,rfl,Nat.le_of_ble_eq_true rfl,_,_,rfl,rfl,_,_,rfl,rfl,rfl⟩,_,_,rfl,rfl,rfl⟩,fun o2 H2 s2 h2=>?_⟩
  refine gQ ?_
  have s3:=s1.trans s2
  have I2:=I.same s3
  have h12:=h1.mono s2
  obtain ⟨kvs,l1,l3⟩:=I2.kv 0 (by decide)
  have w1:=((O0 m).gp (by omega)).shw (by omega)
  obtain ⟨m3,I3⟩:=I2.spot l1 h12 w1.1
  refine ⟨_,rfl,B.o,_,rfl,yy I2.o,_,rfl,B.t 0,o1,kvs,_,rfl,l1,by omega,h12,⟨_,rfl⟩,w1,?_⟩
  have t3:=I2.tk m3
  generalize upd H2 (B.t 0) _=H3 at *
  have h13:=t3.held h12
  have ht3:=t3 _ _ (s3 _ _ ht)
  have ha3:=t3 _ _ (s3 _ _ ha)
  have hb3:=t3 _ _ (s3 _ _ hb)
  refine ⟨_,rfl,B.o,_,rfl,yx I3.o,_,rfl,_,rfl,t,_,_,_,rfl,rfl,SqT.of ht3,jf (j:=1) rfl,n+1,B,_,x,d,_,rfl,I3,ku ha3,fun sp H4 s4 hsp=>⟨_,rfl,sp,o1,_,_,rfl,hsp,h13.mono s4,fun ti H5 s5 hti=>?_⟩⟩
  have I5:=I3.same (s4.trans s5)
  obtain ⟨kv2,l4,l6⟩:=I5.kv 2 (by decide)
  have w2:=kR ((S.spot g1 g2).gp (by omega)) ((O0 (m+1)).gp (by omega)) (by omega)
  obtain ⟨m6,I6⟩:=I5.tie l4 hti w2.1
  refine ⟨B.t 2,ti,kv2,_,rfl,l4,by omega,hti,⟨_,rfl⟩,w2,?_⟩
  have t6:=(TK.same (s4.trans s5)).trans (I5.tk m6)
  generalize upd H5 (B.t 2) _=H6 at *
  have h16:=t6.held h13
  have ht6:=t6 _ _ ht3
  have hb6:=t6 _ _ hb3
  have h26:=t6.held (t3.held h2)
  refine ⟨_,rfl,t,_,_,_,rfl,rfl,SqT.of ht6,jf (j:=0) rfl,rfl,_,rfl,kh ?_⟩
  obtain ⟨kv3,l7,l9⟩:=I6.kv 0 (by decide)
  have w3:=((O1 m).gp (by omega)).shw (by omega)
  obtain ⟨m7,I7⟩:=I6.spot l7 h26 w3.1
  refine ⟨_,rfl,B.o,_,rfl,yy I6.o,_,rfl,B.t 0,o2,kv3,_,rfl,l7,by omega,h26,⟨_,rfl⟩,w3,?_⟩
  have t7:=I6.tk m7
  generalize upd H6 (B.t 0) _=H7 at *
  have ht7:=t7 _ _ ht6
  refine ⟨_,rfl,_,rfl,t,_,_,_,rfl,rfl,SqT.of ht7,jf (j:=3) rfl,n+1+1+1,B,_,r,rfl,I7,by omega,fun vv H8 m8 I8 hvv=>?_⟩
  refine gQ ?_
  have t8:=t7.trans (I7.tk m8)
  have h18:=t8.held h16
  have h28:=t8.held h26
  have M8:=(((MvB.same s3).trans m3).trans ((MvB.same (s4.trans s5)).trans m6)).trans (m7.trans m8)
  refine ⟨_,rfl,_,rfl,o1,o2,_,_,rfl,h18,h28,fun v1 G1 b1 k1=>⟨_,rfl,_,rfl,_,rfl,t,_,_,_,rfl,rfl,SqT.of (b1 _ _ (t8 _ _ ht6)),jf (j:=2) rfl,n+1+1+1+1,B,_,y,e,_,rfl,I8.same b1,ku (b1 _ _ (t8 _ _ hb6)),fun su G2 b2 hsu=>⟨o2,su,_,_,rfl,h28.mono (b1.trans b2),hsu,fun v2 G3 b3 k2=>⟨sm rfl,fun l hl=>?_⟩⟩⟩⟩
  have b4:=jj hl (.lst [v1,v2])
  have e4:upd G3 l (.lst [v1,v2]) l=some (.lst [v1,v2]):=jg
  generalize upd G3 l (.lst [v1,v2])=G4 at *
  have bb:=(b1.trans b2).trans (b3.trans b4)
  obtain ⟨c8,hc8⟩:∃ c8,c8=((c.add 2 [p2 (j4 0)]).add 1 [kx (c.spot x d) (j4 0)]).add 2 [p2 (j4 1)]:=⟨_,rfl⟩
  have I9:BxAt (n+1+1+1+1) B c8 G4:=by rw [hc8];exact I8.same bb
  have hds:HeldL G4 [kx (j4 0) (j4 1),kx (j4 1) (c.spot y e)] [v1,v2]:=je (k1.mono (b2.trans (b3.trans b4))) (je (k2.mono b4) jw)
  have wds:∀ d∈[kx (j4 0) (j4 1),kx (j4 1) (c.spot y e)],Shw d∧∃ es,d=.tup es:=fun d hd=>by
   rcases List.mem_cons.mp hd with rfl | hd
   ·exact ⟨kR ((O0 m).gp (by omega)) ((O1 m).gp (by omega)) (by omega),_,rfl⟩
   ·cases List.mem_singleton.mp hd
    exact ⟨kR ((O1 (m+1)).gp (by omega)) ((S.spot g3 g4).gp (by omega)) (by omega),_,rfl⟩
  generalize hT:[kx (j4 0) (j4 1),kx (j4 1) (c.spot y e)]=T at hds wds
  have lne:∀ i,i < 3→l≠B.l i:=fun i hi z=>by
   obtain ⟨ys,y1,_⟩:=(I8.same (b1.trans (b2.trans b3))).l i hi
   rw [z,y1] at hl
   cases hl
  have keepL:∀ {G:Hp},MvB B G4 G→G l=some (.lst [v1,v2]):=fun mv=>by
   obtain ⟨_,q1,_⟩:=I9.st
   obtain ⟨_,q2,_⟩:=I9.nw
   obtain ⟨_,q3,_⟩:=I9.vs
   refine mv _ _ (jD e4 q1 (by intro z;cases z)) (jD e4 q2 (by intro z;cases z)) (jD e4 q3 (by intro z;cases z)) (fun i hi=>?_) lne e4
   obtain ⟨_,q4,_⟩:=I9.kv i hi
   exact jD e4 q4 (by intro z;cases z)
  have TL:T.length=2:=by rw [← hT];rfl
  let Pv:Nat→L2.St→Hp→Prop:=fun i σ G=>∃ u,σ=[some (.ref B.o),some (.ref t),none,none,some o1,some o2,some vv,u]∧MvB B G4 G∧BxAt (n+4+i) B (c8.add 1 (T.take i)) G
  refine ⟨l,rfl,⟨_,SqL.of e4⟩,?_⟩
  refine Z5 (xs:=[v1,v2]) Pv ⟨none,rfl,.same (fun _ _ e=>e),I9.congr (by omega) rfl rfl fun j hj z=>?_⟩ ?_ ?_ ?_
  ·have h3:j=0∨j=1∨j=2:=by omega
   rcases h3 with rfl | rfl | rfl
   ·exact Iff.rfl
   ·exact Iff.rfl
   ·show z∈c8.l 1↔z∈c8.l 1++[]
    rw [List.append_nil]
  ·rintro i σ G _ ⟨u,rfl,mv,_⟩
   exact SqL.of (keepL mv)
  ·rintro i z σ G hz ⟨u,rfl,mv,J⟩
   refine gQ ?_
   have hi:i < T.length:=by rw [TL];exact (List.getElem?_eq_some_iff.mp hz).1
   have hd:=(I9.tk mv).held (zQ hds (List.getElem?_eq_getElem hi) hz)
   obtain ⟨w5,w6⟩:=wds T[i] (List.getElem_mem hi)
   obtain ⟨kv4,l10,l12⟩:=J.kv 2 (by decide)
   obtain ⟨m9,J9⟩:=J.tie l10 hd w5.1
   refine ⟨_,rfl,B.o,_,rfl,yx J.o,_,rfl,B.t 2,z,kv4,_,rfl,l10,by omega,hd,w6,w5,⟨_,rfl,mv.trans m9,J9.congr (by omega) rfl rfl fun j hj z=>?_⟩⟩
   have h3:j=0∨j=1∨j=2:=by omega
   rcases h3 with rfl | rfl | rfl
   ·exact Iff.rfl
   ·exact Iff.rfl
   ·show z∈c8.l 1++T.take i++[T[i]]↔z∈c8.l 1++T.take (i+1)
    rw [List.take_succ,List.getElem?_eq_getElem hi,List.append_assoc]
    exact Iff.rfl
  ·rintro σ G ⟨u,rfl,mv,J⟩
   have tz:=(TK.same bb).trans (I9.tk mv)
   have hvz:=tz.held hvv
   refine ⟨_,rfl,B.o,_,rfl,yx J.o,_,rfl,_,rfl,vv,o2,_,_,rfl,hvz,tz.held h28,fun e1 G5 a1 k5=>⟨e1,1,_,rfl,k5,fun e2 G6 a2 k6=>⟨_,rfl,_,rfl,vv,o1,_,_,rfl,hvz.mono (a1.trans a2),(tz.held h18).mono (a1.trans a2),fun e3 G7 a3 k7=>⟨e2,e3,_,_,rfl,k6.mono a3,k7,fun tl G8 a4 k8=>?_⟩⟩⟩⟩
   have aa:=(a1.trans a2).trans (a3.trans a4)
   have J8:=J.same aa
   obtain ⟨kv4,l10,l12⟩:=J8.kv 2 (by decide)
   have hver:Ver (c.ver r):=S.ver g5
   have w7:Shw (kx (mor (qb (c.ver r) (j4 1)) 1) (qb (c.ver r) (j4 0))):=kR (((Zg (m:=m) hver (by decide)).mor (d:=1) (by decide)).gp (by omega)) (((Zg (m:=m) hver (by decide)).mono (Nat.le_succ _)).gp (by omega)) (by omega)
   have k8:Held G8 (kx (mor (qb (c.ver r) (j4 1)) 1) (qb (c.ver r) (j4 0))) tl:=k8
   obtain ⟨m12,I12⟩:=J8.tie l10 k8 w7.1
   have l12:kv4.length≤n+4+2:=l12
   refine ⟨B.t 2,tl,kv4,_,rfl,l10,by omega,k8,⟨_,rfl⟩,w7,?_⟩
   refine q _ ((M8.trans (.same bb)).trans (mv.trans ((MvB.same aa).trans m12))) (I12.congr (show n+4+2+1≤n+12 by omega) (by rw [hc8];rfl) (by rw [hc8];rfl) fun j hj z=>?_)
   have h3:j=0∨j=1∨j=2:=by omega
   rcases h3 with rfl | rfl | rfl
   ·show z∈c8.l 2↔z∈c.l 2++[p2 (j4 0),p2 (j4 1)]
    rw [hc8]
    show z∈c.l 2++[p2 (j4 0)]++[p2 (j4 1)]↔_
    rw [List.append_assoc]
    exact Iff.rfl
   ·rw [hc8]
    exact Iff.rfl
   ·show z∈c8.l 1++T.take 2++[_]↔z∈c.l 1++_
    rw [hc8,← hT]
    show z∈c.l 1++[kx (c.spot x d) (j4 0)]++[kx (j4 0) (j4 1),kx (j4 1) (c.spot y e)]++[_]↔_
    simp only [List.append_assoc,List.cons_append,List.nil_append]
end
theorem ZS:∀ (n:Nat) (qs:List DA),qs.length=n→(∀ d,d∈(kr qs).map (·.1)↔d∈qs.map (·.1))∧((kr qs).getLast?.map (·.1)=qs.getLast?.map (·.1))∧((qs.map (·.1)).Pairwise (fun a b=>dLt b a=false)→((kr qs).map (·.1)).Pairwise (fun a b=>dLt a b=true)):=by
 intro n
 induction n with
 | zero=>
  intro qs h
  obtain rfl:qs=[]:=List.eq_nil_of_length_eq_zero h
  exact ⟨fun d=>Iff.rfl,rfl,fun _=>.nil⟩
 | succ n ih=>
  intro qs h
  rcases List.eq_nil_or_concat qs with rfl | ⟨ps,p,rfl⟩
  ·cases h
  rw [List.concat_eq_append] at h ⊢
  rw [List.length_append] at h
  obtain ⟨i1,i2,i3⟩:=ih ps (by simpa using h)
  rw [KC]
  generalize kr ps=T at *
  have hl:(ps++[p]).getLast?=some p:=by simp
  rw [hl]
  rcases List.eq_nil_or_concat T with rfl | ⟨T',l,rfl⟩
  ·have e:ps=[]:=by
    cases ps with
    | nil=>rfl
    | cons q r=>exact absurd ((i1 q.1).mpr (List.mem_map.mpr ⟨q,List.mem_cons_self ..,rfl⟩)) (by simp)
   subst e
   exact ⟨fun d=>Iff.rfl,rfl,fun _=>List.pairwise_singleton _ _⟩
  ·rw [List.concat_eq_append] at *
   have hg:(T'++[l]).getLast?=some l:=by simp
   have eo:qQ (T'++[l]) p=if l.1=p.1 then T'++[l] else T'++[l]++[p]:=by
    unfold qQ
    rw [hg]
   rw [eo]
   by_cases z:l.1=p.1
   ·rw [if_pos z]
    refine ⟨fun d=>?_,by rw [hg];exact congrArg some z,fun hp=>?_⟩
    ·rw [i1,List.map_append,List.mem_append]
     refine ⟨.inl,fun w=>w.elim id fun y=>?_⟩
     rw [← i1]
     rw [List.map_cons,List.map_nil,List.mem_singleton] at y
     rw [y,← z,List.map_append]
     exact List.mem_append_right _ (List.mem_singleton.mpr rfl)
    ·rw [List.map_append,List.pairwise_append] at hp
     exact i3 hp.1
   ·rw [if_neg z]
    refine ⟨fun d=>?_,by simp,fun hp=>?_⟩
    ·rw [List.map_append,List.mem_append,i1,List.map_append,List.mem_append]
    ·rw [List.map_append,List.pairwise_append] at hp
     obtain ⟨p1,_,p3⟩:=hp
     have r1:=i3 p1
     rw [List.map_append (l₁:=T'++[l]),List.pairwise_append]
     refine ⟨r1,List.pairwise_singleton _ _,fun a ha b hb=>?_⟩
     rw [List.map_cons,List.map_nil,List.mem_singleton] at hb
     subst hb
     have hlp:dLt l.1 p.1=true:=by
      have f1:dLt p.1 l.1=false:=p3 l.1 ((i1 _).mp (by rw [List.map_append];exact List.mem_append_right _ (List.mem_singleton.mpr rfl))) p.1 (List.mem_singleton.mpr rfl)
      cases f2:dLt l.1 p.1 with
      | true=>rfl
      | false=>exact absurd (Jl _ _ f2 f1) z
     rw [List.map_append,List.pairwise_append] at r1
     rw [List.map_append,List.mem_append] at ha
     rcases ha with ha | ha
     ·exact zl _ _ _ (r1.2.2 a ha l.1 (List.mem_singleton.mpr rfl)) hlp
     ·rw [List.mem_singleton.mp ha]
      exact hlp
theorem KB (qs:List DA) (d:D):d∈(kr qs).map (·.1)↔d∈qs.map (·.1):=(ZS _ qs rfl).1 d
theorem Ys {qs:List DA} (h:(qs.map (·.1)).Pairwise (fun a b=>dLt b a=false)):((kr qs).map (·.1)).Pairwise (fun a b=>dLt a b=true):=(ZS _ qs rfl).2.2 h
theorem jbr:∀ {a b:List D},a.Pairwise (fun x y=>dLt x y=true)→b.Pairwise (fun x y=>dLt x y=true)→(∀ d,d∈a↔d∈b)→a=b
 | [],[],_,_,_=>rfl
 | [],y :: b,_,_,h=>absurd ((h y).mpr (List.mem_cons_self ..)) (by simp)
 | x :: a,[],_,_,h=>absurd ((h x).mp (List.mem_cons_self ..)) (by simp)
 | x :: a,y :: b,ha,hb,h=>by
  rw [List.pairwise_cons] at ha hb
  have irr:∀ d,dLt d d=true→False:=fun d e=>by rw [J7] at e;cases e
  have exy:x=y:=by
   rcases List.mem_cons.mp ((h x).mp (List.mem_cons_self ..)) with e | e
   ·exact e
   ·rcases List.mem_cons.mp ((h y).mpr (List.mem_cons_self ..)) with e' | e'
    ·exact e'.symm
    ·exact (irr x (zl _ _ _ (ha.1 y e') (hb.1 x e))).elim
  subst exy
  rw [jbr ha.2 hb.2 fun d=>?_]
  constructor
  ·intro hd
   rcases List.mem_cons.mp ((h d).mp (List.mem_cons_of_mem _ hd)) with e | e
   ·rw [e] at hd;exact (irr x (ha.1 x hd)).elim
   ·exact e
  ·intro hd
   rcases List.mem_cons.mp ((h d).mpr (List.mem_cons_of_mem _ hd)) with e | e
   ·rw [e] at hd;exact (irr x (hb.1 x hd)).elim
   ·exact e
theorem jeV {a:List D} (h:a.Pairwise (fun x y=>dLt y x=false)) (n:a.Nodup):a.Pairwise (fun x y=>dLt x y=true):=by
 refine (List.Pairwise.and h n).imp fun {x y} q=>?_
 cases e:dLt x y with
 | true=>rfl
 | false=>exact absurd (Jl _ _ e q.1) q.2
theorem yw (a b:Str):Cmp (.str a) (.str b):=by unfold Cmp;trivial
theorem jae (a b:Int):Cmp (.int a) (.int b):=by unfold Cmp;trivial
theorem qa (ys:List D):CmpL [] ys:=by unfold CmpL;trivial
theorem kA {x y:D} {xs ys:List D} (h:Cmp x y) (t:CmpL xs ys):CmpL (x :: xs) (y :: ys):=by
 unfold CmpL
 exact ⟨fun _=>t,fun _=>h⟩
theorem ym {a b:Str} {xs ys:List D} (h:decide (a=b)=false):CmpL (.str a :: xs) (.str b :: ys):=by
 unfold CmpL
 refine ⟨fun e=>?_,fun _=>yw a b⟩
 rw [jbR] at e
 have:=of_decide_eq_true e
 cases this
 rw [decide_eq_true rfl] at h
 cases h
theorem Jn {a b:List D} (h:CmpL a b):Cmp (.tup a) (.tup b):=by unfold Cmp;exact h
theorem jeL {v u:D} (h:Ver v) (k:Ver u):Cmp v u:=by
 cases h <;> cases k <;> refine Jn ?_ <;> first
  | exact kA (yw _ _) (kA (yw _ _) (qa _))
  | exact kA (yw _ _) (kA (jae _ _) (qa _))
  | exact ym (by decide +kernel)
theorem jeP {m:Nat} {d:D} (h:Src m d):∀ {k:Nat} {e:D},Src k e→Cmp d e:=by
 induction h with
 | @ent m v d c hv hd hc ih=>
  intro k e he
  cases he with
  | @ent k v' d' c' hv' hd' hc'=>exact Jn (kA (yw _ _) (kA (jeL hv hv') (kA (Jn (kA (ih hd') (kA (jae _ _) (qa _)))) (qa _))))
  | _=>exact Jn (ym (by decide +kernel))
 | nought=>
  intro k e he
  cases he <;> refine Jn ?_ <;> first
   | exact kA (yw _ _) (qa _)
   | exact ym (by decide +kernel)
 | start _=>
  intro k e he
  cases he <;> refine Jn ?_ <;> first
   | exact kA (yw _ _) (kA (yw _ _) (qa _))
   | exact ym (by decide +kernel)
 | pick _=>
  intro k e he
  cases he <;> refine Jn ?_ <;> first
   | exact kA (yw _ _) (kA (jae _ _) (qa _))
   | exact ym (by decide +kernel)
 | own _=>
  intro k e he
  cases he <;> refine Jn ?_ <;> first
   | exact kA (yw _ _) (kA (jae _ _) (qa _))
   | exact ym (by decide +kernel)
theorem jeQ {ds:List D} (h:∀ d∈ds,∃ p:P2,d=p2 p∧Gs 90 p):SortT ds 200:=by
 refine ⟨⟨fun d hd e he=>?_,fun d hd=>?_,fun d hd=>?_⟩,fun d hd=>?_⟩
 ·obtain ⟨p,rfl,g⟩:=h d hd
  obtain ⟨q,rfl,k⟩:=h e he
  exact Jn (kA (jeP g.1 k.1) (kA (jae _ _) (qa _)))
 ·obtain ⟨p,rfl,g⟩:=h d hd
  exact ((g.gp (Nat.le_refl _)).shw (Nat.le_refl _)).2.1
 ·obtain ⟨p,rfl,g⟩:=h d hd
  exact ⟨_,rfl⟩
 ·obtain ⟨p,rfl,g⟩:=h d hd
  obtain ⟨es,e⟩:=ja8 g.1
  exact ⟨es,[.int p.2],by unfold p2;rw [e]⟩
def RwG:Rw→Prop
 | .set x t k=>Wd x∧TmG t∧k.natAbs≤10 ^ 20
 | .put r x d t k=>Wd r∧NmG x∧d.natAbs≤10 ^ 20∧TmG t∧k.natAbs≤10 ^ 20
 | .any x=>Wd x
 | .lose r=>Wd r
 | .know C=>ClG C
structure CG (m:Nat) (c:Cs):Prop where
 s:St m c
 l2:∀ d∈c.l 2,∃ p:P2,d=p2 p∧Gs 90 p
 l4:∀ d∈c.l 4,∃ x u y,d=.tup [x,p2 u,y]∧Gs 90 u
 l5:∀ d∈c.l 5,∃ x u y,d=.tup [x,p2 u,y]∧Gs 90 u
theorem CG.add2 {m:Nat} {c:Cs} (G:CG m c) {p:P2} (h:Gs 90 p):CG m (c.add 2 [p2 p]):=⟨G.s.congr rfl rfl,fun d hd=>by
 have hd:d∈c.l 2++[p2 p]:=hd
 rcases List.mem_append.mp hd with hd | hd
 ·exact G.l2 d hd
 ·exact ⟨p,List.mem_singleton.mp hd,h⟩,G.l4,G.l5⟩
theorem CG.name {m:Nat} {c:Cs} (G:CG m c) (r:Str):CG m (c.name r):=⟨G.s.congr rfl rfl,G.l2,G.l4,G.l5⟩
theorem CG.add1 {m:Nat} {c:Cs} (G:CG m c) (ds:List D):CG m (c.add 1 ds):=⟨G.s.congr rfl rfl,G.l2,G.l4,G.l5⟩
theorem CG.add3 {m:Nat} {c:Cs} (G:CG m c) (ds:List D):CG m (c.add 3 ds):=⟨G.s.congr rfl rfl,G.l2,G.l4,G.l5⟩
theorem CG.add0 {m:Nat} {c:Cs} (G:CG m c) (ds:List D):CG m (c.add 0 ds):=⟨G.s.congr rfl rfl,G.l2,G.l4,G.l5⟩
theorem CG.add4 {m:Nat} {c:Cs} (G:CG m c) {x y:D} {u:P2} (h:Gs 90 u):CG m (c.add 4 [.tup [x,p2 u,y]]):=⟨G.s.congr rfl rfl,G.l2,fun d hd=>by
 have hd:d∈c.l 4++[.tup [x,p2 u,y]]:=hd
 rcases List.mem_append.mp hd with hd | hd
 ·exact G.l4 d hd
 ·exact ⟨x,u,y,List.mem_singleton.mp hd,h⟩,G.l5⟩
theorem CG.add5 {m:Nat} {c:Cs} (G:CG m c) {x y:D} {u:P2} (h:Gs 90 u):CG m (c.add 5 [.tup [x,p2 u,y]]):=⟨G.s.congr rfl rfl,G.l2,G.l4,fun d hd=>by
 have hd:d∈c.l 5++[.tup [x,p2 u,y]]:=hd
 rcases List.mem_append.mp hd with hd | hd
 ·exact G.l5 d hd
 ·exact ⟨x,u,y,List.mem_singleton.mp hd,h⟩⟩
theorem CG.mono {m k:Nat} {c:Cs} (G:CG m c) (h:m≤k):CG k c:=⟨⟨fun x p e=>(G.s.nu x p e).mono h,G.s.ve⟩,G.l2,G.l4,G.l5⟩
theorem CG.setn {m:Nat} {c:Cs} (G:CG m c) {x:Str} {p:P2} (h:Gs m p):CG m (c.setn x p):=⟨⟨fun y q e=>by
 have e:yn c.nu x p y=some q:=e
 unfold yn at e
 split at e
 ·cases e;exact h
 ·exact G.s.nu y q e,G.s.ve⟩,G.l2,G.l4,G.l5⟩
theorem CG.setv {m:Nat} {c:Cs} (G:CG m c) {r:Str} {d:D} (h:Ver d):CG m (c.setv r d):=⟨⟨G.s.nu,fun y q e=>by
 have e:yn c.ve r d y=some q:=e
 unfold yn at e
 split at e
 ·cases e;exact h
 ·exact G.s.ve y q e⟩,G.l2,G.l4,G.l5⟩
theorem CG.stand {m:Nat} {c:Cs} (G:CG m c) (hm:m≤85) {t:Tm} (h:TmG t):CG m (c.stand t).2:=by
 cases t with
 | is x=>exact G
 | at_ r x d=>exact (G.add2 ((G.s.spot h.2.1 h.2.2).mono (by omega))).name r
theorem CG.body {m:Nat} {c:Cs} (G:CG m c) (r way:Str) (b:Bd) (k:Int):CG m (c.body r way b k).2:=by
 cases b with
 | is x=>exact G.name r
 | row q=>exact (G.name r).name q
theorem CG.least {m:Nat} {c:Cs} (G:CG m c) (hm:m≤85) {a b:Tm} (h:TmG a) (k:TmG b) (j:Int):CG m (c.least a b j).2:=(G.stand hm k).stand hm h
theorem CG.know {m:Nat} {c:Cs} (G:CG m c) (hm:m≤85) {k:Cl} (h:ClG k):CG m (c.know k):=by
 cases k with
 | least a b j=>exact (G.least hm h.1 h.2.1 j).add1 _
 | each t td u ud r way b j=>
  obtain ⟨g1,g2,g3,g4,_⟩:=h
  exact ((G.add2 ((G.s.spot g1 g2).mono (by omega))).body r way b j).add4 ((G.s.spot g3 g4).mono (by omega))
 | rise t td u ud r=>
  obtain ⟨g1,g2,g3,g4,_⟩:=h
  exact ((G.add2 ((G.s.spot g1 g2).mono (by omega))).name r).add5 ((G.s.spot g3 g4).mono (by omega))
theorem CG.deny {m:Nat} {c:Cs} (G:CG m c) (hm:m≤85) {k:Cl} (h:ClG k):CG m (c.deny k):=by
 have O0:=Y4 0 (by decide) 90
 have O1:=Y4 1 (by decide) 90
 cases k with
 | least a b j=>exact (G.least hm h.2.1 h.1 (1 - j)).add1 _
 | each t td u ud r way b j=>exact ((G.body r way b j).add2 O0).add1 _
 | rise t td u ud r=>
  refine CG.add1 (c:=(c.name r).add 2 [p2 (j4 0),p2 (j4 1)]) ?_ _
  have G1:=((G.name r).add2 O0).add2 O1
  refine ⟨G.s.congr rfl rfl,fun d hd=>G1.l2 d ?_,G.l4,G.l5⟩
  have hd:d∈c.l 2++[p2 (j4 0),p2 (j4 1)]:=hd
  show d∈c.l 2++[p2 (j4 0)]++[p2 (j4 1)]
  rw [List.append_assoc]
  exact hd
theorem CG.take {m:Nat} {c:Cs} (G:CG m c) (hm:m≤85) {n:Nat} (hn:n≤1000) {r:Rw} (h:RwG r):CG (m+2) (c.take n r):=by
 cases r with
 | set x t k=>exact ((G.stand hm h.2.1).mono (by omega)).setn ((G.s.stand (by omega) h.2.1).mor h.2.2)
 | put r x d t k=>
  obtain ⟨g1,g2,g3,g4,g5⟩:=h
  exact (((((G.stand hm g4).name r).add2 ((G.s.spot g2 g3).mono (by omega))).add3 _).add1 _).setv (.put hn) |>.mono (by omega)
 | any x=>exact (G.mono (by omega)).setn ⟨.pick hn,Nat.zero_le _⟩
 | lose r=>exact (((G.name r).setv (.lost hn)).add0 _).mono (by omega)
 | know C=>exact (G.know hm h).mono (by omega)
theorem CG.none:CG 0 Cs.none:=⟨⟨fun _ _ e=>(nomatch e),fun _ _ e=>(nomatch e)⟩,fun _ h=>(nomatch h),fun _ h=>(nomatch h),fun _ h=>(nomatch h)⟩
theorem CG.rows:∀ {R:List Rw} {m n:Nat} {c:Cs},CG m c→m+2 * R.length≤85→n+R.length≤1000→(∀ r∈R,RwG r)→CG (m+2 * R.length) (c.rows R n)
 | [],m,n,c,G,_,_,_=>G
 | r :: R,m,n,c,G,h1,h2,h3=>by
  rw [List.length_cons] at h1 h2 ⊢
  have:=CG.rows (R:=R) (n:=n+1) (G.take (n:=n) (by omega) (by omega) (h3 r (List.mem_cons_self ..))) (by omega) (by omega) fun q hq=>h3 q (List.mem_cons_of_mem _ hq)
  rw [show m+2 * (R.length+1)=m+2+2 * R.length by omega]
  exact this
theorem jfV {R:List Rw} {k:Cl} (hl:R.length≤40) (hR:∀ r∈R,RwG r) (hk:ClG k):SortT ((kf R k).l 2++(kf R k).ends) 200∧∀ d∈(kf R k).l 4++(kf R k).l 5,∃ x u y,d=.tup [x,u,y]:=by
 have G:CG (0+2 * R.length) (kf R k):=((CG.none.rows (n:=0) (R:=R) (by omega) (by omega) hR)).deny (by omega) hk
 have tr:∀ d∈(kf R k).l 4++(kf R k).l 5,∃ x u y,d=.tup [x,p2 u,y]∧Gs 90 u:=fun d hd=>(List.mem_append.mp hd).elim (G.l4 d) (G.l5 d)
 refine ⟨jeQ fun d hd=>?_,fun d hd=>?_⟩
 ·rcases List.mem_append.mp hd with hd | hd
  ·exact G.l2 d hd
  ·obtain ⟨e,he,rfl⟩:=List.mem_map.mp hd
   obtain ⟨x,u,y,rfl,g⟩:=tr e he
   exact ⟨u,rfl,g⟩
 ·obtain ⟨x,u,y,e,_⟩:=tr d hd
  exact ⟨x,_,y,e⟩
abbrev Kw:Stmt:=top 48
theorem jbX {X:Cx} {pos:Pos}:QE X (Expr.Dict [] [] pos) jc8:=⟨jdL⟩
def jhm (A:BA) (H:Hp):Prop:=H A.o=none∧H A.st=none∧H A.nw=none∧H A.vs=none∧(∀ i,i < 3→H (A.t i)=none)∧∀ i,i < 3→H (A.l i)=none
def jbb:Sp:=fun vs H Q _=>∃ (a:Addr) (R:List Rw) (rs:List V) (k:Cl) (v:V),vs=[.ref a,v]∧H a=some (.lst rs)∧HeldL H (R.map Rw.toD) rs∧R.length≤40∧(∀ r∈R,RwG r)∧ClG k∧Held H k.toD v∧∀ (A:BA) (H':Hp),Same H H'→jhm A H→BxAt 400 A (kf R k) H'→Q (.ref A.o) H'
structure Lay (H:Hp) (os:List (Prod Addr HO)) (G:Hp):Prop where
 s:Same H G
 o:∀ p∈os,G p.1=some p.2∧H p.1=none
 nd:(os.map (·.1)).Nodup
 f:∀ a,G a=none→H a=none
theorem Lay.zero (H:Hp):Lay H [] H:=⟨fun _ _ e=>e,fun _ h=>(nomatch h),List.nodup_nil,fun _ e=>e⟩
theorem Lay.step {H G:Hp} {os:List (Prod Addr HO)} (L:Lay H os G) {p:Addr} (hp:G p=none) (o:HO):Lay H (os++[(p,o)]) (upd G p o):=by
 refine ⟨L.s.trans (jj hp o),fun q hq=>?_,?_,fun a ha=>?_⟩
 ·rcases List.mem_append.mp hq with hq | hq
  ·exact ⟨jj hp o _ _ (L.o q hq).1,(L.o q hq).2⟩
  ·cases List.mem_singleton.mp hq
   exact ⟨jg,L.f _ hp⟩
 ·rw [List.map_append,List.nodup_append]
  refine ⟨L.nd,by simp,fun x hx y hy=>?_⟩
  cases List.mem_singleton.mp hy
  obtain ⟨q,q1,rfl⟩:=List.mem_map.mp hx
  exact jt (L.o q q1).1 hp
 ·by_cases y:a=p
  ·rw [y,jg] at ha;cases ha
  ·rw [jB y] at ha;exact L.f _ ha
theorem Lay.set {H G:Hp} {os:List (Prod Addr HO)} {a:Addr} {u:HO} (L:Lay H ((a,u) :: os) G) (u':HO):Lay H ((a,u') :: os) (upd G a u'):=by
 have ha:=L.o _ (List.mem_cons_self ..)
 have hn:=List.nodup_cons.mp L.nd
 refine ⟨fun b o e=>jo (jt e ha.2) (L.s b o e),fun q hq=>?_,L.nd,fun b hb=>?_⟩
 ·rcases List.mem_cons.mp hq with rfl | hq
  ·exact ⟨jg,ha.2⟩
  ·have h2:=L.o q (List.mem_cons_of_mem _ hq)
   exact ⟨jo (fun e=>hn.1 (List.mem_map.mpr ⟨q,hq,e⟩)) h2.1,h2.2⟩
 ·by_cases y:b=a
  ·rw [y,jg] at hb;cases hb
  ·rw [jB y] at hb;exact L.f _ hb
def jey (o a1 a2 a3 a4 a5 a6 a7 a8 a9:Addr):BA:=⟨o,a1,a2,a3,fun i=>if i=0 then a4 else if i=1 then a5 else a6,fun i=>if i=0 then a7 else if i=1 then a8 else a9⟩
theorem qy {i:Nat} (h:i < 3):i=0∨i=1∨i=2:=by omega
theorem jfL {H G:Hp} {o a1 a2 a3 a4 a5 a6 a7 a8 a9:Addr} (L:Lay H [(o,.dK (qV (jey o a1 a2 a3 a4 a5 a6 a7 a8 a9))),(a1,.dK []),(a2,.dK []),(a3,.dT []),(a4,.dK []),(a5,.dK []),(a6,.dK []),(a7,.lst []),(a8,.lst []),(a9,.lst [])] G):BxAt 0 (jey o a1 a2 a3 a4 a5 a6 a7 a8 a9) Cs.none G∧jhm (jey o a1 a2 a3 a4 a5 a6 a7 a8 a9) H:=by
 have h:=L.o
 simp only [List.forall_mem_cons] at h
 obtain ⟨⟨b0,n0⟩,⟨b1,n1⟩,⟨b2,n2⟩,⟨b3,n3⟩,⟨b4,n4⟩,⟨b5,n5⟩,⟨b6,n6⟩,⟨b7,n7⟩,⟨b8,n8⟩,⟨b9,n9⟩,_⟩:=h
 have nd:[o,a1,a2,a3,a4,a5,a6,a7,a8,a9].Nodup:=L.nd
 have emp:∀ (a:Addr) (i:Nat),i < 3→G a=some (.dK [])→TAt 0 (tOf Cs.none i) G a:=fun a i hi e=>⟨[],[],e,rfl,jw,List.nodup_nil,fun d=>by
  rcases qy hi with rfl | rfl | rfl <;> exact Iff.rfl,fun _ z=>(nomatch z),Nat.le_refl _⟩
 refine ⟨⟨b0,?_,fun i j hi hj e=>?_,⟨[],b1,Nat.le_refl _,fun x=>⟨fun _=>rfl,fun _ z=>(nomatch z)⟩⟩,⟨[],b2,Nat.le_refl _,fun x=>⟨fun _=>rfl,fun _ z=>(nomatch z)⟩⟩,⟨[],b3,Nat.le_refl _⟩,fun i hi=>?_,fun i hi=>?_⟩,n0,n1,n2,n3,fun i hi=>?_,fun i hi=>?_⟩
 ·show [o,a1,a2,a4,a5,a6].Nodup
  exact nd.sublist (.cons₂ _ (.cons₂ _ (.cons₂ _ (.cons _ (.cons₂ _ (.cons₂ _ (.cons₂ _ (List.nil_sublist _))))))))
 ·simp only [List.nodup_cons,List.mem_cons,List.not_mem_nil,or_false,not_or] at nd
  obtain ⟨_,_,_,_,_,_,_,⟨x1,x2⟩,x3,_⟩:=nd
  rcases qy hi with rfl | rfl | rfl <;> rcases qy hj with rfl | rfl | rfl <;> first | rfl | exact absurd e x1 | exact absurd e x2 | exact absurd e x3 | exact absurd e.symm x1 | exact absurd e.symm x2 | exact absurd e.symm x3
 ·rcases qy hi with rfl | rfl | rfl
  ·exact emp _ _ hi b4
  ·exact emp _ _ hi b5
  ·exact emp _ _ hi b6
 ·rcases qy hi with rfl | rfl | rfl
  ·exact ⟨_,b7,Nat.le_refl _⟩
  ·exact ⟨_,b8,Nat.le_refl _⟩
  ·exact ⟨_,b9,Nat.le_refl _⟩
 ·rcases qy hi with rfl | rfl | rfl
  ·exact n4
  ·exact n5
  ·exact n6
 ·rcases qy hi with rfl | rfl | rfl
  ·exact n7
  ·exact n8
  ·exact n9
theorem Ja {A:BA} {H G G':Hp} (N:jhm A H) (s:Same H G) (m:MvB A G G'):Same H G':=fun b o e=>by
 obtain ⟨_,n1,n2,n3,n4,n5⟩:=N
 exact m b o (jt e n1) (jt e n2) (jt e n3) (fun i hi=>jt e (n4 i hi)) (fun i hi=>jt e (n5 i hi)) (s b o e)
theorem yz {c:Cs} {n:Nat} {r x:Str} {d k:Int} {t:Tm}:let s:=c.spot x d;let v:=mor (c.stand t).1 k;let c':=((((c.stand t).2.add 2 [p2 s]).add 1 [kx (qb (yo n) s) v]).add 1 [kx v (qb (yo n) s)]).setv r (yo n)
  (c.take n (.put r x d t k)).nu=c'.nu∧(c.take n (.put r x d t k)).ve=c'.ve∧∀ i,i < 3→∀ z,z∈tOf c' i↔z∈tOf (c.take n (.put r x d t k)) i:=by
 refine ⟨rfl,rfl,fun i hi z=>?_⟩
 rcases qy hi with rfl | rfl | rfl
 ·exact Iff.rfl
 ·exact Iff.rfl
 ·show z∈((c.stand t).2.l 1++[_])++[_]↔z∈(c.stand t).2.l 1++[_,_]
  rw [List.append_assoc]
  exact Iff.rfl
section
variable {P:Program} {w:World} {K:W.Frag} {mg:Str→Option Value} {base:Heap}
theorem jdU {f:Addr} {fd:FuncData} (F:Fun K "_law_walk" "_law_walk" Kw f fd) (B:Free0 mg) (Z_enumerate:mg "enumerate" = none) (F_known:Fn P w K mg base 16 "_law_known" ["_law_box","_law_claim_here"] jbh) (F_denied:Fn P w K mg base 16 "_law_denied" ["_law_box","_law_goal"] ZJ) (F_source:Fn P w K mg base 15 "_law_source" ["_law_box","_law_term_here"] jbd) (F_kept:Fn P w K mg base 14 "_law_kept" ["_law_some","_law_one"] Kr) (F_tie:Fn P w K mg base 1 "_law_tie" ["_law_one","_law_other"] yr) (F_more:Fn P w K mg base 1 "_law_more" ["_law_one","_law_more_here"] qg) (F_spot:Fn P w K mg base 2 "_law_spot" ["_law_box","_law_place_here"] yQ) (F_version:Fn P w K mg base 1 "_law_version" ["_law_box","_law_r"] Jy) (F_entry:Fn P w K mg base 1 "_law_entry" ["_law_version_here","_law_spot_here"] yq):FnOk P w K mg base CX0 17 f fd ["_law_straight_here","_law_goal"] jbb:=by
 have sc:FnScope ["_law_straight_here","_law_goal","_law_box","_law_n","_law_row","_law_old","_law_here","_law_worth","_law_new"] ["_law_straight_here","_law_goal"] (jp Kw):=fQ
 refine F.okZ sc (fun vs H Q E h=>?_) (fun cdv A outer s H vs Q E hr h=>?_)
 ·obtain ⟨a,R,rs,k,v,rfl,_⟩:=h
  rfl
 have hu:(A.deeper (PyProof.Rows.envOfC "_law_walk" (jp Kw) s.heap.objs.size f cdv)).units+1 < cLine:=by have:=hr.units;omega
 obtain ⟨a,R,rs,k,v,rfl,ha,hrs,hl,hG,hk,hv,q⟩:=h
 refine ⟨_,(jd (jv (i:=2) sc.nd rfl oQ (jcM (qA jl kK (qA jl kK (qA jl jbX (qA jl kK (qA jl kK (qA jl kK jcK)))))) rfl rfl (by simp) (by decide)))
   (jd (kg hu (zpv 2) jl (jY jb) rfl)
   (jd (kg hu (zpv 2) jl (jY jb) rfl)
   (jd (kg hu (zpv 2) jl (jY jb) rfl)
   (jd (zY PassesOwn.never rfl (Kc (by rfl) Z_enumerate (ja (zpv 0) jb)) (kU rfl (jE (jC (i:=3) sc.nd rfl oQ) (jE (jC (i:=4) sc.nd rfl oQ) kD))) (jh (jL (jy j8 (jm ju (zpv 4) jc (fun _ _=>rfl)) jl (jH _)) (jh (jz (ji F_known hr (ja (zpv 2) (ja (jm ju (zpv 4) jc (fun _ _=>rfl)) jb))))) (jh (jL (jy j8 (jm ju (zpv 4) jc (fun _ _=>rfl)) jl (jH _)) (jh (kg hu (jM hu (zpv 2) jl (fun _ _=>rfl)) (jm ju (zpv 4) jc (fun _ _=>rfl)) (ji F_more hr (ja (ji F_source hr (ja (zpv 2) (ja (jm ju (zpv 4) jc (fun _ _=>rfl)) jb))) (ja (jm ju (zpv 4) jc (fun _ _=>rfl)) jb))) rfl)) (jh (jL (jy j8 (jm ju (zpv 4) jc (fun _ _=>rfl)) jl (jH _)) (jh (kg hu (jM hu (zpv 2) jl (fun _ _=>rfl)) (jm ju (zpv 4) jc (fun _ _=>rfl)) (zpd (jX (jr (jX (jr kz (jr (ke 3) jN))) (jr qv jN)))) rfl)) (jd (jv (i:=5) sc.nd rfl oQ (ji F_version hr (ja (zpv 2) (ja (jm ju (zpv 4) jc (fun _ _=>rfl)) jb))))
   (jd (jL (jy j8 (jm ju (zpv 4) jc (fun _ _=>rfl)) jl (jH _)) (jh (kg hu (jM hu (zpv 2) jl (fun _ _=>rfl)) (jW (ja jl (ja (zpv 3) jb))) qY rfl)) (jd (jv (i:=6) sc.nd rfl oQ (ji F_spot hr (ja (zpv 2) (ja (jm ju (zpv 4) jc (fun _ _=>rfl)) jb))))
   (jd (jv (i:=7) sc.nd rfl oQ (ji F_more hr (ja (ji F_source hr (ja (zpv 2) (ja (jm ju (zpv 4) jc (fun _ _=>rfl)) jb))) (ja (jm ju (zpv 4) jc (fun _ _=>rfl)) jb))))
   (jd (jz (ji F_kept hr (ja (jM hu (zpv 2) jl (fun _ _=>rfl)) (ja (zpv 6) jb))))
   (jd (jz (ko PySem.F.plainAttrs_list PySem.F.slot_list_append PySem.F.type_list_append j0 (jM hu (zpv 2) jl (fun _ _=>rfl)) (ja (zpd (jX (jr (jX (jr kz (jr (ke 3) jN))) (jr (ke 5) (jr (ke 6) (jr (ke 7) jN)))))) jb)))
   (jd (jv (i:=8) sc.nd rfl oQ (ji F_entry hr (ja (zpd (jX (jr kz (jr (ke 3) jN)))) (ja (zpv 6) jb))))
   (jd (jz (ji F_kept hr (ja (jM hu (zpv 2) jl (fun _ _=>rfl)) (ja (ji F_tie hr (ja (zpv 8) (ja (zpv 7) jb))) jb))))
   (jh (jz (ji F_kept hr (ja (jM hu (zpv 2) jl (fun _ _=>rfl)) (ja (ji F_tie hr (ja (zpv 7) (ja (zpv 8) jb))) jb))))))))))))
   (jh (kg hu (jM hu (zpv 2) jl (fun _ _=>rfl)) (jm ju (zpv 4) jc (fun _ _=>rfl)) (jm jV (jY (ja (jW (ja jl (ja (zpv 3) jb))) (ja (zpd (jX (jr kz (jr (ke 3) jN)))) jb))) (qX qD (by rfl) B.int_ yI (ja (za j8 (jm ju (zpv 4) jc (fun _ _=>rfl)) jl (jH _)) jb)) (fun _ _=>rfl)) rfl)))))))))))
   (jd (jz (ji F_denied hr (ja (zpv 2) (ja (zpv 1) jb))))
   (jh (jx (zpv 2))))))))),?_⟩
 refine jI (σ':=[some (.ref a),some v,none,none,none,none,none,none,none]) rfl ?_
 try dsimp only [yp]
 refine jej ?_
 intro _ _ _ _ _ _
 have L:=(Lay.zero H)
 refine fun o h0=>?_
 have L0:=L.step h0 (.dK [])
 generalize upd H o (.dK [])=G0 at *
 refine fun a1 h1=>?_
 have L1:=L0.step h1 (.dK [])
 generalize upd G0 a1 (.dK [])=G1 at *
 refine fun a2 h2=>?_
 have L2:=L1.step h2 (.dK [])
 generalize upd G1 a2 (.dK [])=G2 at *
 refine fun a3 h3=>?_
 have L3:=L2.step h3 (.dT [])
 generalize upd G2 a3 (.dT [])=G3 at *
 refine fun a4 h4=>?_
 have L4:=L3.step h4 (.dK [])
 generalize upd G3 a4 (.dK [])=G4 at *
 refine fun a5 h5=>?_
 have L5:=L4.step h5 (.dK [])
 generalize upd G4 a5 (.dK [])=G5 at *
 refine fun a6 h6=>?_
 have L6:=L5.step h6 (.dK [])
 generalize upd G5 a6 (.dK [])=G6 at *
 refine ⟨(L6.o (o,.dK []) (by simp)).1,[(.inr "stands",.ref a1),(.inr "now",.ref a2),(.inr "versions",.ref a3),(.inr "spots",.ref a4),(.inr "ends",.ref a5),(.inr "ties",.ref a6)],rfl,by show 6≤15;decide,?_⟩
 refine gQ ?_
 rw [show JE [] [(Sum.inr "stands",V.ref a1),(Sum.inr "now",V.ref a2),(Sum.inr "versions",V.ref a3),(Sum.inr "spots",V.ref a4),(Sum.inr "ends",V.ref a5),(Sum.inr "ties",V.ref a6)]=([(Sum.inr "stands",V.ref a1),(Sum.inr "now",V.ref a2),(Sum.inr "versions",V.ref a3),(Sum.inr "spots",V.ref a4),(Sum.inr "ends",V.ref a5),(Sum.inr "ties",V.ref a6)]:List (Key×V)) from rfl]
 have M6:=Lay.set (os:=[(a1,HO.dK []),(a2,HO.dK []),(a3,HO.dT []),(a4,HO.dK []),(a5,HO.dK []),(a6,HO.dK [])]) (show Lay H [(o,HO.dK []),(a1,HO.dK []),(a2,HO.dK []),(a3,HO.dT []),(a4,HO.dK []),(a5,HO.dK []),(a6,HO.dK [])] G6 from L6) (.dK [(Sum.inr "stands",V.ref a1),(Sum.inr "now",V.ref a2),(Sum.inr "versions",V.ref a3),(Sum.inr "spots",V.ref a4),(Sum.inr "ends",V.ref a5),(Sum.inr "ties",V.ref a6)])
 generalize upd G6 o (.dK [(Sum.inr "stands",V.ref a1),(Sum.inr "now",V.ref a2),(Sum.inr "versions",V.ref a3),(Sum.inr "spots",V.ref a4),(Sum.inr "ends",V.ref a5),(Sum.inr "ties",V.ref a6)])=K6 at *
 refine ⟨sm rfl,fun a7 h7=>⟨_,rfl,o,_,rfl,.k (k:=.inr "each") (kvs:=[(Sum.inr "stands",V.ref a1),(Sum.inr "now",V.ref a2),(Sum.inr "versions",V.ref a3),(Sum.inr "spots",V.ref a4),(Sum.inr "ends",V.ref a5),(Sum.inr "ties",V.ref a6)]) ((M6.step h7 (.lst [])).o (o,.dK [(Sum.inr "stands",V.ref a1),(Sum.inr "now",V.ref a2),(Sum.inr "versions",V.ref a3),(Sum.inr "spots",V.ref a4),(Sum.inr "ends",V.ref a5),(Sum.inr "ties",V.ref a6)]) (by simp)).1 (by show 6 < sizeLine;exact jJ (by decide)),?_⟩⟩
 rw [show kc (κ:=Key) [(Sum.inr "stands",V.ref a1),(Sum.inr "now",V.ref a2),(Sum.inr "versions",V.ref a3),(Sum.inr "spots",V.ref a4),(Sum.inr "ends",V.ref a5),(Sum.inr "ties",V.ref a6)] (Sum.inr "each") (V.ref a7)=([(Sum.inr "stands",V.ref a1),(Sum.inr "now",V.ref a2),(Sum.inr "versions",V.ref a3),(Sum.inr "spots",V.ref a4),(Sum.inr "ends",V.ref a5),(Sum.inr "ties",V.ref a6),(Sum.inr "each",V.ref a7)]:List (Key×V)) from rfl]
 have M7:=Lay.set (os:=[(a1,HO.dK []),(a2,HO.dK []),(a3,HO.dT []),(a4,HO.dK []),(a5,HO.dK []),(a6,HO.dK []),(a7,HO.lst [])]) (show Lay H [(o,HO.dK [(Sum.inr "stands",V.ref a1),(Sum.inr "now",V.ref a2),(Sum.inr "versions",V.ref a3),(Sum.inr "spots",V.ref a4),(Sum.inr "ends",V.ref a5),(Sum.inr "ties",V.ref a6)]),(a1,HO.dK []),(a2,HO.dK []),(a3,HO.dT []),(a4,HO.dK []),(a5,HO.dK []),(a6,HO.dK []),(a7,HO.lst [])] _ from M6.step h7 (.lst [])) (.dK [(Sum.inr "stands",V.ref a1),(Sum.inr "now",V.ref a2),(Sum.inr "versions",V.ref a3),(Sum.inr "spots",V.ref a4),(Sum.inr "ends",V.ref a5),(Sum.inr "ties",V.ref a6),(Sum.inr "each",V.ref a7)])
 generalize upd (upd K6 a7 (.lst [])) o (.dK [(Sum.inr "stands",V.ref a1),(Sum.inr "now",V.ref a2),(Sum.inr "versions",V.ref a3),(Sum.inr "spots",V.ref a4),(Sum.inr "ends",V.ref a5),(Sum.inr "ties",V.ref a6),(Sum.inr "each",V.ref a7)])=K7 at *
 refine ⟨sm rfl,fun a8 h8=>⟨_,rfl,o,_,rfl,.k (k:=.inr "rise") (kvs:=[(Sum.inr "stands",V.ref a1),(Sum.inr "now",V.ref a2),(Sum.inr "versions",V.ref a3),(Sum.inr "spots",V.ref a4),(Sum.inr "ends",V.ref a5),(Sum.inr "ties",V.ref a6),(Sum.inr "each",V.ref a7)]) ((M7.step h8 (.lst [])).o (o,.dK [(Sum.inr "stands",V.ref a1),(Sum.inr "now",V.ref a2),(Sum.inr "versions",V.ref a3),(Sum.inr "spots",V.ref a4),(Sum.inr "ends",V.ref a5),(Sum.inr "ties",V.ref a6),(Sum.inr "each",V.ref a7)]) (by simp)).1 (by show 7 < sizeLine;exact jJ (by decide)),?_⟩⟩
 rw [show kc (κ:=Key) [(Sum.inr "stands",V.ref a1),(Sum.inr "now",V.ref a2),(Sum.inr "versions",V.ref a3),(Sum.inr "spots",V.ref a4),(Sum.inr "ends",V.ref a5),(Sum.inr "ties",V.ref a6),(Sum.inr "each",V.ref a7)] (Sum.inr "rise") (V.ref a8)=([(Sum.inr "stands",V.ref a1),(Sum.inr "now",V.ref a2),(Sum.inr "versions",V.ref a3),(Sum.inr "spots",V.ref a4),(Sum.inr "ends",V.ref a5),(Sum.inr "ties",V.ref a6),(Sum.inr "each",V.ref a7),(Sum.inr "rise",V.ref a8)]:List (Key×V)) from rfl]
 have M8:=Lay.set (os:=[(a1,HO.dK []),(a2,HO.dK []),(a3,HO.dT []),(a4,HO.dK []),(a5,HO.dK []),(a6,HO.dK []),(a7,HO.lst []),(a8,HO.lst [])]) (show Lay H [(o,HO.dK [(Sum.inr "stands",V.ref a1),(Sum.inr "now",V.ref a2),(Sum.inr "versions",V.ref a3),(Sum.inr "spots",V.ref a4),(Sum.inr "ends",V.ref a5),(Sum.inr "ties",V.ref a6),(Sum.inr "each",V.ref a7)]),(a1,HO.dK []),(a2,HO.dK []),(a3,HO.dT []),(a4,HO.dK []),(a5,HO.dK []),(a6,HO.dK []),(a7,HO.lst []),(a8,HO.lst [])] _ from M7.step h8 (.lst [])) (.dK [(Sum.inr "stands",V.ref a1),(Sum.inr "now",V.ref a2),(Sum.inr "versions",V.ref a3),(Sum.inr "spots",V.ref a4),(Sum.inr "ends",V.ref a5),(Sum.inr "ties",V.ref a6),(Sum.inr "each",V.ref a7),(Sum.inr "rise",V.ref a8)])
 generalize upd (upd K7 a8 (.lst [])) o (.dK [(Sum.inr "stands",V.ref a1),(Sum.inr "now",V.ref a2),(Sum.inr "versions",V.ref a3),(Sum.inr "spots",V.ref a4),(Sum.inr "ends",V.ref a5),(Sum.inr "ties",V.ref a6),(Sum.inr "each",V.ref a7),(Sum.inr "rise",V.ref a8)])=K8 at *
 refine ⟨sm rfl,fun a9 h9=>⟨_,rfl,o,_,rfl,.k (k:=.inr "puts") (kvs:=[(Sum.inr "stands",V.ref a1),(Sum.inr "now",V.ref a2),(Sum.inr "versions",V.ref a3),(Sum.inr "spots",V.ref a4),(Sum.inr "ends",V.ref a5),(Sum.inr "ties",V.ref a6),(Sum.inr "each",V.ref a7),(Sum.inr "rise",V.ref a8)]) ((M8.step h9 (.lst [])).o (o,.dK [(Sum.inr "stands",V.ref a1),(Sum.inr "now",V.ref a2),(Sum.inr "versions",V.ref a3),(Sum.inr "spots",V.ref a4),(Sum.inr "ends",V.ref a5),(Sum.inr "ties",V.ref a6),(Sum.inr "each",V.ref a7),(Sum.inr "rise",V.ref a8)]) (by simp)).1 (by show 8 < sizeLine;exact jJ (by decide)),?_⟩⟩
 rw [show kc (κ:=Key) [(Sum.inr "stands",V.ref a1),(Sum.inr "now",V.ref a2),(Sum.inr "versions",V.ref a3),(Sum.inr "spots",V.ref a4),(Sum.inr "ends",V.ref a5),(Sum.inr "ties",V.ref a6),(Sum.inr "each",V.ref a7),(Sum.inr "rise",V.ref a8)] (Sum.inr "puts") (V.ref a9)=([(Sum.inr "stands",V.ref a1),(Sum.inr "now",V.ref a2),(Sum.inr "versions",V.ref a3),(Sum.inr "spots",V.ref a4),(Sum.inr "ends",V.ref a5),(Sum.inr "ties",V.ref a6),(Sum.inr "each",V.ref a7),(Sum.inr "rise",V.ref a8),(Sum.inr "puts",V.ref a9)]:List (Key×V)) from rfl]
 have M9:=Lay.set (os:=[(a1,HO.dK []),(a2,HO.dK []),(a3,HO.dT []),(a4,HO.dK []),(a5,HO.dK []),(a6,HO.dK []),(a7,HO.lst []),(a8,HO.lst []),(a9,HO.lst [])]) (show Lay H [(o,HO.dK [(Sum.inr "stands",V.ref a1),(Sum.inr "now",V.ref a2),(Sum.inr "versions",V.ref a3),(Sum.inr "spots",V.ref a4),(Sum.inr "ends",V.ref a5),(Sum.inr "ties",V.ref a6),(Sum.inr "each",V.ref a7),(Sum.inr "rise",V.ref a8)]),(a1,HO.dK []),(a2,HO.dK []),(a3,HO.dT []),(a4,HO.dK []),(a5,HO.dK []),(a6,HO.dK []),(a7,HO.lst []),(a8,HO.lst []),(a9,HO.lst [])] _ from M8.step h9 (.lst [])) (.dK [(Sum.inr "stands",V.ref a1),(Sum.inr "now",V.ref a2),(Sum.inr "versions",V.ref a3),(Sum.inr "spots",V.ref a4),(Sum.inr "ends",V.ref a5),(Sum.inr "ties",V.ref a6),(Sum.inr "each",V.ref a7),(Sum.inr "rise",V.ref a8),(Sum.inr "puts",V.ref a9)])
 generalize upd (upd K8 a9 (.lst [])) o (.dK [(Sum.inr "stands",V.ref a1),(Sum.inr "now",V.ref a2),(Sum.inr "versions",V.ref a3),(Sum.inr "spots",V.ref a4),(Sum.inr "ends",V.ref a5),(Sum.inr "ties",V.ref a6),(Sum.inr "each",V.ref a7),(Sum.inr "rise",V.ref a8),(Sum.inr "puts",V.ref a9)])=K9 at *
 obtain ⟨I0,N0⟩:=jfL (show Lay H [(o,.dK (qV (jey o a1 a2 a3 a4 a5 a6 a7 a8 a9))),(a1,.dK []),(a2,.dK []),(a3,.dT []),(a4,.dK []),(a5,.dK []),(a6,.dK []),(a7,.lst []),(a8,.lst []),(a9,.lst [])] K9 from M9)
 have s9:=M9.s
 obtain ⟨A0,eA⟩:∃ A0,A0=jey o a1 a2 a3 a4 a5 a6 a7 a8 a9:=⟨_,rfl⟩
 rw [← eA] at I0 N0
 obtain rfl:o=A0.o:=by rw [eA];rfl
 clear eA M9 M8 M7 M6 L6 L5 L4 L3 L2 L1 L0 L h0 h1 h2 h3 h4 h5 h6 h7 h8 h9
 have hrl:=hrs.length
 rw [List.length_map] at hrl
 let Pv:Nat→L2.St→Hp→Prop:=fun i σ G=>∃ u3 u4 u5 u6 u7 u8,σ=[some (.ref a),some v,some (.ref A0.o),u3,u4,u5,u6,u7,u8]∧MvB A0 K9 G∧BxAt (8 * i) A0 (Cs.none.rows (R.take i) 0) G
 refine ⟨_,rfl,a,rfl,⟨_,SqL.of (s9 _ _ ha)⟩,?_⟩
 refine KP (xs:=rs) Pv ⟨none,none,none,none,none,none,rfl,.same (fun _ _ e=>e),I0⟩ ?_ ?_ ?_
 ·rintro i σ G _ ⟨u3,u4,u5,u6,u7,u8,rfl,m,_⟩
  exact SqL.of (Ja N0 s9 m _ _ ha)
 ·rintro i y σ G t hy ⟨u3,u4,u5,u6,u7,u8,rfl,m,I⟩ ht
  have hi:i < R.length:=by rw [hrl];exact (List.getElem?_eq_some_iff.mp hy).1
  have hyd:Held H R[i].toD y:=zQ hrs (by rw [List.getElem?_map,List.getElem?_eq_getElem hi];rfl) hy
  have hRi:=hG R[i] (List.getElem_mem hi)
  have S:=(CG.none.rows (n:=0) (R:=R.take i) (by rw [List.length_take];omega) (by rw [List.length_take];omega) fun r hr=>hG r (List.mem_of_mem_take hr)).s
  have s3:=jj ht (.tup [.int i,y])
  have e3:upd G t (.tup [.int i,y]) t=some (.tup [.int i,y]):=jg
  have I':=I.same s3
  have hv3:=(hyd.mono (Ja N0 s9 m)).mono s3
  have nxt:∀ σ' G',(∃ u3 u4 u5 u6 u7 u8,σ'=[some (.ref a),some v,some (.ref A0.o),u3,u4,u5,u6,u7,u8])→MvB A0 (upd G t (.tup [.int i,y])) G'→BxAt (8 * i+8) A0 ((Cs.none.rows (R.take i) 0).take i R[i]) G'→Pv (i+1) σ' G':=fun σ' G' ⟨u3,u4,u5,u6,u7,u8,e⟩ m' I''=>⟨u3,u4,u5,u6,u7,u8,e,m.trans ((MvB.same s3).trans m'),by
   rw [List.take_succ,List.getElem?_eq_getElem hi]
   show BxAt (8 * (i+1)) A0 (Cs.none.rows (R.take i++[R[i]]) 0) G'
   rw [Yp,List.length_take,Nat.min_eq_left (Nat.le_of_lt hi),Nat.zero_add]
   exact I''.mono (by omega)⟩
  generalize upd G t (.tup [.int i,y])=G1 at *
  generalize Cs.none.rows (R.take i) 0=c at *
  have hm:0+2 * (R.take i).length≤80:=by rw [List.length_take];omega
  generalize 0+2 * (R.take i).length=m1 at *
  have hi40:i < 40:=by omega
  refine ⟨t,_,rfl,SqT.of e3,rfl,_,_,rfl,_,_,rfl,rfl,?_⟩
  refine jI (σ':=[some (.ref a),some v,some (.ref A0.o),some (.int i),some y,u5,u6,u7,u8]) rfl ?_
  generalize R[i]=rw at *
  clear hyd I ht e3 hy
  clear_value Pv
  rcases rw with ⟨x,tm,k'⟩ | ⟨r,x,d,tm,k'⟩ | ⟨x⟩ | ⟨r⟩ | ⟨C⟩
  ·obtain ⟨g1,g2,g3⟩:=hRi
   obtain ⟨b,y0,y1,y2,y3,rfl,hb,h0,h1,h2,h3⟩:=zR hv3
   cases js h0
   cases js h1
   cases j9 h3
   refine ⟨_,rfl,b,_,_,_,rfl,rfl,SqT.of hb,jf (j:=0) rfl,rfl,_,rfl,kh ?_⟩
   refine ⟨_,rfl,b,_,_,_,rfl,rfl,SqT.of hb,jf (j:=0) rfl,rfl,_,rfl,kO ?_⟩
   refine ⟨_,rfl,_,rfl,b,_,_,_,rfl,rfl,SqT.of hb,jf (j:=2) rfl,8 * i,m1+1,A0,c,tm,y2,rfl,I',by omega,h2,by omega,fun r x d e=>by subst e;exact (S.spot g2.2.1 g2.2.2).gp (by omega),fun y H1 m2 I2 hy=>?_⟩
   have hb1:=I'.tk m2 _ _ hb
   refine ⟨_,rfl,b,_,_,_,rfl,rfl,SqT.of hb1,jf (j:=3) rfl,y,k',_,rfl,hy,fun z H2 s2 hz=>?_⟩
   have I3:=I2.same s2
   obtain ⟨kvs,k1,k2,_⟩:=I3.st
   refine ⟨_,rfl,A0.o,_,rfl,jew I3.o,_,rfl,b,_,_,_,rfl,rfl,SqT.of (s2 _ _ hb1),jf (j:=1) rfl,A0.st,_,rfl,.k (k:=.inr x) k1 (jJ (by omega)),?_⟩
   obtain ⟨m3,I4⟩:=I3.setst (x:=x) k1 hz
   exact nxt _ _ ⟨_,_,_,_,_,_,rfl⟩ (m2.trans ((MvB.same s2).trans m3)) (I4.mono (by omega))
  ·obtain ⟨g1,g2,g3,g4,g5⟩:=hRi
   obtain ⟨b,y0,y1,y2,y3,y4,rfl,hb,h0,h1,h2,h3,h4⟩:=Jh hv3
   cases js h0
   cases js h1
   cases j9 h4
   refine ⟨_,rfl,b,_,_,_,rfl,rfl,SqT.of hb,jf (j:=0) rfl,rfl,_,rfl,kh ?_⟩
   refine ⟨_,rfl,b,_,_,_,rfl,rfl,SqT.of hb,jf (j:=0) rfl,rfl,_,rfl,kh ?_⟩
   refine ⟨_,rfl,b,_,_,_,rfl,rfl,SqT.of hb,jf (j:=0) rfl,rfl,_,rfl,kh ?_⟩
   refine ⟨_,rfl,_,rfl,b,_,_,_,rfl,rfl,SqT.of hb,jf (j:=1) rfl,8 * i,A0,c,r,rfl,I',by omega,fun z H1 m2 I2 hz=>?_⟩
   refine gQ ?_
   have hb1:=I'.tk m2 _ _ hb
   refine ⟨_,rfl,b,_,_,_,rfl,rfl,SqT.of hb1,jf (j:=0) rfl,rfl,_,rfl,kh ?_⟩
   refine ⟨_,rfl,_,rfl,b,_,_,_,rfl,rfl,SqT.of hb1,jf (j:=2) rfl,8 * i+1,A0,c,x,d,_,rfl,I2,(I'.tk m2).held h2,fun sp H2 s2 hsp=>?_⟩
   refine gQ ?_
   have hb2:=s2 _ _ hb1
   refine ⟨_,rfl,_,rfl,b,_,_,_,rfl,rfl,SqT.of hb2,jf (j:=3) rfl,8 * i+1,m1+1,A0,c,tm,y3,rfl,I2.same s2,by omega,((I'.tk m2).held h3).mono s2,by omega,fun r x d e=>by subst e;exact (S.spot g4.2.1 g4.2.2).gp (by omega),fun y H3 m4 I4 hy=>?_⟩
   have t4:=(I2.same s2).tk m4
   have hb3:=t4 _ _ hb2
   refine ⟨_,rfl,b,_,_,_,rfl,rfl,SqT.of hb3,jf (j:=4) rfl,y,k',_,rfl,hy,fun wo H5 s5 hwo=>?_⟩
   refine gQ ?_
   have I5:=I4.same s5
   have hb5:=s5 _ _ hb3
   have hsp5:=(t4.held hsp).mono s5
   have hz5:=(t4.held (hz.mono s2)).mono s5
   obtain ⟨kvs,l1,l3⟩:=I5.kv 0 (by decide)
   have w1:=((S.spot g2 g3).gp (by omega)).shw (by omega)
   obtain ⟨m6,I6⟩:=I5.spot l1 hsp5 w1.1
   refine ⟨_,rfl,A0.o,_,rfl,yy I5.o,_,rfl,A0.t 0,sp,kvs,_,rfl,l1,by omega,hsp5,⟨_,rfl⟩,w1,?_⟩
   have t6:=I5.tk m6
   generalize upd H5 (A0.t 0) _=H6 at *
   have hsp6:=t6.held hsp5
   have hwo6:=t6.held hwo
   have hz6:=t6.held hz5
   have hb6:=t6 _ _ hb5
   obtain ⟨ls,l7,l8⟩:=I6.l 2 (by decide)
   refine ⟨_,rfl,A0.o,_,rfl,jif I6.o,.inl ⟨rfl,_,SqL.of l7⟩,.tup [yo i,c.ver r,p2 (c.spot x d),p2 (mor (c.stand tm).1 k')],⟨_,rfl,Nat.le_of_ble_eq_true rfl,_,_,rfl,⟨_,rfl,Nat.le_of_ble_eq_true rfl,_,_,rfl,rfl,_,_,rfl,⟨_,rfl,jK⟩,rfl⟩,_,_,rfl,⟨_,rfl,hz6⟩,_,_,rfl,⟨_,rfl,hsp6⟩,_,_,rfl,⟨_,rfl,hwo6⟩,rfl⟩,fun pv' H7 s7 _=>?_⟩
   have I7:=I6.same s7
   obtain ⟨m8,I8⟩:=I7.addl (i:=2) (v:=pv') (by decide) (s7 _ _ l7) (Nat.le_trans l8 (Nat.le_refl _))
   refine ⟨A0.l 2,ls,_,rfl,rfl,s7 _ _ l7,jJ (by omega),?_⟩
   have t8:=I7.tk m8
   generalize upd H7 (A0.l 2) _=H8 at *
   have hsp8:=t8.held (hsp6.mono s7)
   have hwo8:=t8.held (hwo6.mono s7)
   have hb8:=t8 _ _ (s7 _ _ hb6)
   refine ⟨yo i,⟨_,rfl,Nat.le_of_ble_eq_true rfl,_,_,rfl,rfl,_,_,rfl,⟨_,rfl,jK⟩,rfl⟩,fun pw H9 s9' hpw=>⟨_,rfl,pw,sp,_,_,rfl,hpw,hsp8.mono s9',fun en H10 s10 hen=>?_⟩⟩
   refine gQ ?_
   have I10:=I8.same (s9'.trans s10)
   have hwo10:=hwo8.mono (s9'.trans s10)
   have hb10:=(s9'.trans s10) _ _ hb8
   refine ⟨_,rfl,A0.o,_,rfl,yx I10.o,_,rfl,_,rfl,en,wo,_,_,rfl,hen,hwo10,fun x1 H11 s11 hx1=>?_⟩
   have I11:=I10.same s11
   have gv:Gp (m1+2) (mor (c.stand tm).1 k'):=((S.stand (by omega) g4).mor g5).gp (by omega)
   have ge:Gp (m1+2) (qb (yo i) (c.spot x d)):=(show Gs (m1+2) (qb (yo i) (c.spot x d)) from ⟨.ent (.put (by omega)) ((S.spot g2 g3).1) (((S.spot g2 g3).gp (by omega)).2),Nat.zero_le _⟩).gp (by omega)
   have w2:=kR ge gv (by omega)
   have w3:=kR gv ge (by omega)
   obtain ⟨kv2,l9,l10⟩:=I11.kv 2 (by decide)
   obtain ⟨m12,I12⟩:=I11.tie l9 hx1 w2.1
   refine ⟨A0.t 2,x1,kv2,_,rfl,l9,by omega,hx1,⟨_,rfl⟩,w2,?_⟩
   have t12:=I11.tk m12
   generalize upd H11 (A0.t 2) _=H12 at *
   have hen12:=t12.held (hen.mono s11)
   have hwo12:=t12.held (hwo10.mono s11)
   have hb12:=t12 _ _ (s11 _ _ hb10)
   refine ⟨_,rfl,A0.o,_,rfl,yx I12.o,_,rfl,_,rfl,wo,en,_,_,rfl,hwo12,hen12,fun x2 H13 s13 hx2=>?_⟩
   have I13:=I12.same s13
   obtain ⟨kv3,l11,l12⟩:=I13.kv 2 (by decide)
   obtain ⟨m14,I14⟩:=I13.tie l11 hx2 w3.1
   refine ⟨A0.t 2,x2,kv3,_,rfl,l11,by omega,hx2,⟨_,rfl⟩,w3,?_⟩
   have t14:=I13.tk m14
   generalize upd H13 (A0.t 2) _=H14 at *
   have hb14:=t14 _ _ (s13 _ _ hb12)
   have mAll:=m2.trans ((MvB.same s2).trans (m4.trans ((MvB.same s5).trans (m6.trans ((MvB.same s7).trans (m8.trans ((MvB.same (s9'.trans s10)).trans ((MvB.same s11).trans (m12.trans ((MvB.same s13).trans m14))))))))))
   clear m2 s2 m4 s5 m6 s7 m8 s9' s10 s11 m12 s13 m14
   refine ⟨_,rfl,sm rfl,fun q1 n1=>⟨yo i,⟨_,rfl,Nat.le_of_ble_eq_true rfl,_,_,rfl,rfl,_,_,rfl,⟨_,rfl,jK⟩,rfl⟩,fun u G6 s6 hu6=>⟨sm rfl,fun q2 n2=>?_⟩⟩⟩
   have I7:=I14.same ((jj n1 (.tup [.str "lost",.int i])).trans (s6.trans (jj n2 (.lst [.ref q1,u]))))
   have hb7:=jj n2 (.lst [.ref q1,u]) _ _ (s6 _ _ (jj n1 (.tup [.str "lost",.int i]) _ _ hb14))
   have hl7:upd G6 q2 (.lst [.ref q1,u]) q2=some (.lst [.ref q1,u]):=jg
   have s7:=(jj n1 (.tup [.str "lost",.int i])).trans (s6.trans (jj n2 (.lst [.ref q1,u])))
   have hq7:=hu6.mono (jj n2 (.lst [.ref q1,u]))
   generalize upd G6 q2 (.lst [.ref q1,u])=G7 at *
   obtain ⟨kvs,k1,k2,_⟩:=I7.nw
   obtain ⟨m8,I8⟩:=I7.setnw (r:=r) k1 hq7
   refine ⟨_,rfl,b,_,_,_,rfl,rfl,SqT.of hb7,jf (j:=0) rfl,rfl,.inr ⟨true,rfl,q2,_,_,_,rfl,rfl,SqL.of hl7,jf (j:=1) rfl,_,rfl,A0.o,_,rfl,jex I7.o,_,rfl,b,_,_,_,rfl,rfl,SqT.of hb7,jf (j:=1) rfl,A0.nw,_,rfl,.k (k:=.inr r) k1 (jJ (by omega)),?_⟩⟩
   exact nxt _ _ ⟨_,_,_,_,_,_,rfl⟩ (mAll.trans ((MvB.same s7).trans m8)) (I8.congr (by omega) yz.1 yz.2.1 yz.2.2)
  ·obtain ⟨b,y0,y1,rfl,hb,h0,h1⟩:=ql hv3
   cases js h0
   cases js h1
   refine ⟨_,rfl,b,_,_,_,rfl,rfl,SqT.of hb,jf (j:=0) rfl,rfl,_,rfl,kh ?_⟩
   refine ⟨_,rfl,b,_,_,_,rfl,rfl,SqT.of hb,jf (j:=0) rfl,rfl,_,rfl,kh ?_⟩
   refine ⟨_,rfl,b,_,_,_,rfl,rfl,SqT.of hb,jf (j:=0) rfl,rfl,_,rfl,kO ?_⟩
   refine ⟨p2 (jbv i),⟨_,rfl,Nat.le_of_ble_eq_true rfl,_,_,rfl,⟨_,rfl,Nat.le_of_ble_eq_true rfl,_,_,rfl,rfl,_,_,rfl,⟨_,rfl,jK⟩,rfl⟩,_,_,rfl,rfl,rfl⟩,fun z H2 s2 hz=>?_⟩
   have I3:=I'.same s2
   obtain ⟨kvs,k1,k2,_⟩:=I3.st
   refine ⟨_,rfl,A0.o,_,rfl,jew I3.o,_,rfl,b,_,_,_,rfl,rfl,SqT.of (s2 _ _ hb),jf (j:=1) rfl,A0.st,_,rfl,.k (k:=.inr x) k1 (jJ (by omega)),?_⟩
   obtain ⟨m3,I4⟩:=I3.setst (x:=x) k1 hz
   exact nxt _ _ ⟨_,_,_,_,_,_,rfl⟩ ((MvB.same s2).trans m3) (I4.mono (by omega))
  ·obtain ⟨b,y0,y1,rfl,hb,h0,h1⟩:=ql hv3
   cases js h0
   cases js h1
   refine ⟨_,rfl,b,_,_,_,rfl,rfl,SqT.of hb,jf (j:=0) rfl,rfl,_,rfl,kh ?_⟩
   refine ⟨_,rfl,b,_,_,_,rfl,rfl,SqT.of hb,jf (j:=0) rfl,rfl,_,rfl,kh ?_⟩
   refine ⟨_,rfl,b,_,_,_,rfl,rfl,SqT.of hb,jf (j:=0) rfl,rfl,_,rfl,kh ?_⟩
   refine ⟨_,rfl,_,rfl,b,_,_,_,rfl,rfl,SqT.of hb,jf (j:=1) rfl,8 * i,A0,c,r,rfl,I',by omega,fun z H1 m2 I2 hz=>?_⟩
   refine gQ ?_
   have hb1:=I'.tk m2 _ _ hb
   refine ⟨_,rfl,b,_,_,_,rfl,rfl,SqT.of hb1,jf (j:=0) rfl,rfl,_,rfl,kO ?_⟩
   obtain ⟨ks,j1,j2⟩:=I2.vs
   refine ⟨_,rfl,A0.o,_,rfl,jgo I2.o,_,rfl,sm rfl,fun p hp=>?_⟩
   have s3:=jj hp (.tup [.str "lost",.int i])
   have e1:upd H1 p (.tup [.str "lost",.int i]) p=some (.tup (([.inr "lost",.inl i]:List Key).map kV)):=jg
   have I3:=I2.same s3
   have hb3:=s3 _ _ hb1
   generalize upd H1 p (.tup [.str "lost",.int i])=H2 at *
   refine ⟨A0.vs,_,rfl,.t (k:=[.inr "lost",.inl i]) (s3 _ _ j1) e1 (jJ (by omega)),?_⟩
   obtain ⟨m4,I4⟩:=I3.setvs (k:=[.inr "lost",.inl i]) (v:=.bl true) (s3 _ _ j1) j2
   have hb4:=I3.tk m4 _ _ hb3
   generalize upd H2 A0.vs _=H4 at *
   refine ⟨_,rfl,sm rfl,fun q1 n1=>⟨yo i,⟨_,rfl,Nat.le_of_ble_eq_true rfl,_,_,rfl,rfl,_,_,rfl,⟨_,rfl,jK⟩,rfl⟩,fun u G6 s6 hu6=>⟨sm rfl,fun q2 n2=>?_⟩⟩⟩
   have I7:=I4.same ((jj n1 (.tup [.str "lost",.int i])).trans (s6.trans (jj n2 (.lst [.ref q1,u]))))
   have hb7:=jj n2 (.lst [.ref q1,u]) _ _ (s6 _ _ (jj n1 (.tup [.str "lost",.int i]) _ _ hb4))
   have hl7:upd G6 q2 (.lst [.ref q1,u]) q2=some (.lst [.ref q1,u]):=jg
   have s7:=(jj n1 (.tup [.str "lost",.int i])).trans (s6.trans (jj n2 (.lst [.ref q1,u])))
   have hq7:Held (upd G6 q2 (.lst [.ref q1,u])) (KF i) (.ref q1):=(jP (s6 _ _ jg) (je jA (je jK jw)):Held G6 (KF i) (.ref q1)).mono (jj n2 _)
   generalize upd G6 q2 (.lst [.ref q1,u])=G7 at *
   obtain ⟨kvs,k1,k2,_⟩:=I7.nw
   obtain ⟨m8,I8⟩:=I7.setnw (r:=r) k1 hq7
   refine ⟨_,rfl,b,_,_,_,rfl,rfl,SqT.of hb7,jf (j:=0) rfl,rfl,.inr ⟨false,rfl,q2,_,_,_,rfl,rfl,SqL.of hl7,jf (j:=0) rfl,_,rfl,A0.o,_,rfl,jex I7.o,_,rfl,b,_,_,_,rfl,rfl,SqT.of hb7,jf (j:=1) rfl,A0.nw,_,rfl,.k (k:=.inr r) k1 (jJ (by omega)),?_⟩⟩
   exact nxt _ _ ⟨_,_,_,_,_,_,rfl⟩ (m2.trans ((MvB.same s3).trans (m4.trans ((MvB.same s7).trans m8)))) (I8.congr (by omega) rfl rfl fun i hi z=>by rcases qy hi with rfl | rfl | rfl <;> exact Iff.rfl)
  ·obtain ⟨b,y0,y1,rfl,hb,h0,h1⟩:=ql hv3
   cases js h0
   refine ⟨_,rfl,b,_,_,_,rfl,rfl,SqT.of hb,jf (j:=0) rfl,rfl,_,rfl,kO ?_⟩
   exact ⟨_,rfl,_,rfl,b,_,_,_,rfl,rfl,SqT.of hb,jf (j:=1) rfl,8 * i,m1,A0,c,C,y1,rfl,I',by omega,S,by omega,hRi,h1,fun G2 m2 I2=>nxt _ _ ⟨_,_,_,_,_,_,rfl⟩ m2 I2⟩
 ·rintro σ G ⟨u3,u4,u5,u6,u7,u8,rfl,m,I⟩
  rw [← hrl,List.take_length] at I
  have S:=(CG.none.rows (n:=0) (R:=R) (by omega) (by omega) hG).s
  have sG:=Ja N0 s9 m
  refine ⟨_,rfl,_,rfl,8 * R.length,0+2 * R.length,A0,_,k,v,rfl,I,by omega,S,by omega,hk,hv.mono sG,fun G1 m1 I1=>?_⟩
  exact ⟨_,rfl,q A0 G1 (Ja N0 s9 (m.trans m1)) N0 (I1.mono (by omega))⟩
end
abbrev jeU:Stmt:=top 29
abbrev yW:Stmt:=top 28
abbrev zN:Stmt:=top 30
theorem jeB {ns:List Int} {k:Int} (h0:0≤k) (h:k < (ns.length:Int)):atI (ns.map V.int) k=some (.int (ns.getD k.toNat 0)):=by
 have hk:k.toNat < ns.length:=by omega
 have:=jf (xs:=ns.map V.int) (j:=k.toNat) (v:=.int (ns.getD k.toNat 0)) (by rw [List.getElem?_map,List.getD_eq_getElem?_getD,List.getElem?_eq_getElem hk];rfl)
 rw [show ((k.toNat:Nat):Int)=k by omega] at this
 exact this
theorem Zn {xs:List Str} {i:Int} (h0:0≤i) (h:i < (xs.length:Int)):atI (xs.map V.str) i=some (.str (xs.getD i.toNat "")):=by
 have hk:i.toNat < xs.length:=by omega
 have:=jf (xs:=xs.map V.str) (j:=i.toNat) (v:=.str (xs.getD i.toNat "")) (by rw [List.getElem?_map,List.getD_eq_getElem?_getD,List.getElem?_eq_getElem hk];rfl)
 rw [show ((i.toNat:Nat):Int)=i by omega] at this
 exact this
theorem Z3:∀ ys:List Nat,(Txt.join "" (ys.map fun c=>(⟨#[c]⟩:Str))).cps.toList=ys:=by
 intro ys
 have e:Txt.join "" (ys.map fun c=>(⟨#[c]⟩:Str))=("" : Str).join (ys.map fun c=>(⟨#[c]⟩:Str)):=PySem.StrLaws.glued_eq_join _ _
 rw [e]
 clear e
 induction ys with
 | nil=>rfl
 | cons y r ih=>
  cases r with
  | nil=>rfl
  | cons z r=>
   show (((⟨#[y]⟩:Str)++("" : Str))++("" : Str).join ((z :: r).map fun c=>(⟨#[c]⟩:Str))).cps.toList=_
   rw [Str.cps_append,Array.toList_append,ih]
   rfl
def k9:Str:="abcdefghijklmnopqrstuvwxyz"
theorem Y8:k9.cps.toList=(List.range 26).map (·+97):=by decide +kernel
def JG (i:Int):Nat:=i.toNat+97
theorem Yv {i:Int} (h0:0≤i) (h1:i < 26):atI k9.cps.toList i=some (JG i):=by
 have hk:i.toNat < 26:=by omega
 have:=jf (xs:=k9.cps.toList) (j:=i.toNat) (v:=JG i) (by rw [Y8,List.getElem?_map,List.getElem?_range hk];rfl)
 rw [show ((i.toNat:Nat):Int)=i by omega] at this
 exact this
def qzS:Str:="qz"
def qzC (i:Int):Nat:=if i=0 then 113 else 122
theorem jhG {i:Int} (h0:0≤i) (h1:i < 2):atI qzS.cps.toList i=some (qzC i):=by
 have:i=0∨i=1:=by omega
 rcases this with rfl | rfl
 ·decide +kernel
 ·decide +kernel
def ZQ:List Str:=["row","is","at","set","put","know","lose","start","entry","own","nought","pick","least","lost"]
def jgQ (c:Int) (k:Nat):Str:=ZQ.getD ((c / 7+(0+(k:Int))) % 14).toNat ""
def jgS (c:Int) (k:Nat):Str:=⟨#[JG ((c / 8+(0+(k:Int))) % 26)]⟩
def bsW (c spot:Int) (k j:Nat):Int:=c / 432+7 * (0+(j:Int)) * (0+(j:Int))+(0+(k:Int)) * (if decide (V.int (0+(j:Int))=V.int spot)=true then 1 else 0)
def lgW (c size spot:Int) (k:Nat):Str:=(⟨#[qzC (c / 144 % 2)]⟩:Str)++Txt.join "" (((List.range size.toNat).map fun j=>JG (bsW c spot k j % 26)).map fun ch=>(⟨#[ch]⟩:Str))
def W10 (x:Str):Prop:=(∀ c∈x.cps.toList,97≤c∧c≤122)∧x.length≤10
theorem jfm:∀ x∈("" : Str) :: ZQ,x.cps.toList.all (fun c=>decide (97≤c∧c≤122))=true∧x.length≤10:=by decide +kernel
theorem jfQ {xs:List Str} {i:Nat}:xs.getD i ""∈("" : Str) :: xs:=by
 rw [List.getD_eq_getElem?_getD]
 cases e:xs[i]? with
 | none=>exact List.mem_cons_self ..
 | some x=>exact List.mem_cons_of_mem _ (List.mem_of_getElem? e)
theorem jec {i:Int} (h0:0≤i) (h1:i < 26):97≤JG i∧JG i≤122:=by
 unfold JG
 omega
theorem jgP {c:Int} {n:Nat}:((List.range n).map (jgQ c)).length=n∧∀ x∈(List.range n).map (jgQ c),W10 x:=by
 refine ⟨by simp,fun x hx=>?_⟩
 obtain ⟨k,_,rfl⟩:=List.mem_map.mp hx
 have:=jfm _ (jfQ (xs:=ZQ) (i:=((c / 7+(0+(k:Int))) % 14).toNat))
 exact ⟨fun ch h=>of_decide_eq_true (List.all_eq_true.mp this.1 ch h),this.2⟩
theorem jgR {c:Int} {n:Nat}:((List.range n).map (jgS c)).length=n∧∀ x∈(List.range n).map (jgS c),W10 x:=by
 refine ⟨by simp,fun x hx=>?_⟩
 obtain ⟨k,_,rfl⟩:=List.mem_map.mp hx
 exact ⟨fun ch h=>by cases List.mem_singleton.mp h;exact jec (Int.emod_nonneg _ (by decide)) (Int.emod_lt_of_pos _ (by decide)),by show 1≤10;decide⟩
theorem jh0 {c size spot:Int} {n:Nat} (h:size < 8):((List.range n).map (lgW c size spot)).length=n∧∀ x∈(List.range n).map (lgW c size spot),W10 x:=by
 refine ⟨by simp,fun x hx=>?_⟩
 obtain ⟨k,_,rfl⟩:=List.mem_map.mp hx
 have e:(lgW c size spot k).cps.toList=qzC (c / 144 % 2) :: ((List.range size.toNat).map fun j=>JG (bsW c spot k j % 26)):=by
  unfold lgW
  rw [Str.cps_append,Array.toList_append,Z3]
  rfl
 refine ⟨fun ch h=>?_,?_⟩
 ·rw [e] at h
  rcases List.mem_cons.mp h with rfl | h
  ·unfold qzC
   split <;> decide
  ·obtain ⟨j,_,rfl⟩:=List.mem_map.mp h
   exact jec (Int.emod_nonneg _ (by decide)) (Int.emod_lt_of_pos _ (by decide))
 ·show (lgW c size spot k).cps.size≤10
  rw [← Array.length_toList,e]
  simp
  omega
def jdk (K:W.Frag):Sp:=fun vs H Q _=>∃ (a:Addr) (ns:List Int) (k:Int),vs=[.ref a,.int k]∧SqL K H a (ns.map V.int)∧0≤k∧k≤1000∧∀ c:Int,Q (.int c) H
def jbg:Sp:=fun vs H Q _=>∃ (s k:Int),vs=[.int s,.int k]∧∀ c:Int,Q (.int c) H
def ja9:Sp:=fun vs H Q _=>∃ (c:Int) (n:Nat),vs=[.int c,.int n]∧n≤14∧∀ (l:Addr) (ws:List Str) (H':Hp),ws.length=n∧(∀ x∈ws,W10 x)→Same H H'→H l=none→H' l=some (.lst (ws.map V.str))→Q (.ref l) H'
theorem ZK {α:Type} (f:Nat→α) (i:Nat):(List.range (i+1)).map f=(List.range i).map f++[f i]:=by rw [List.range_succ,List.map_append];rfl
section
variable {P:Program} {w:World} {K:W.Frag} {mg:Str→Option Value} {base:Heap}
theorem jfD {f:Addr} {fd:FuncData} (F:Fun K "_law_cell_at" "_law_cell_at" yW f fd) (B:Free0 mg):FnOk P w K mg base CX0 1 f fd ["_law_script","_law_k"] (jdk K):=by
 have sc:FnScope ["_law_script","_law_k","_law_number"] ["_law_script","_law_k"] (jp yW):=fQ
 refine F.okZ sc (fun vs H Q E h=>?_) (fun cdv A outer s H vs Q E hr h=>?_)
 ·obtain ⟨a,ns,k,rfl,_⟩:=h
  rfl
 obtain ⟨a,ns,k,rfl,hS,h0,h1,q⟩:=h
 have hl:(ns.map V.int).length=ns.length:=List.length_map _
 refine ⟨_,(jd (jL (jy jby (zpv 1) (kW kM (by rfl) B.len_ yH (ja (zpv 0) jb)) (jH _)) (jh (jx (jm jV (zpv 0) (zpv 1) (fun _ _=>rfl)))) jG)
   (jd (jv (i:=2) sc.nd rfl oQ (jq kN (jq kH jc (zpv 1)) jc))
   (jd (jL (jy jhT (kW kM (by rfl) B.len_ yH (ja (zpv 0) jb)) jc (jH _)) (jh (jv (i:=2) sc.nd rfl oQ (jq kN (jq kH (jq jR (jm jV (zpv 0) (jq jR (zpv 1) (kW kM (by rfl) B.len_ yH (ja (zpv 0) jb))) (fun _ _=>rfl)) jc) jc) (jq kH (jq kH jc (zpv 1)) (zpv 1))))) jG)
   (jh (jx (jq jR (zpv 2) jc)))))),?_⟩
 refine ⟨_,rfl,_,rfl,a,_,rfl,.inl hS,_,_,rfl,rfl,_,rfl,zD (fun c=>?_) (fun c=>?_)⟩
 ·have c':k < (ns.length:Int):=by
   have:=of_decide_eq_true c
   rw [hl] at this
   exact this
  exact ⟨_,rfl,_,rfl,a,_,_,_,rfl,rfl,hS,jeB h0 c',q _⟩
 ·refine ⟨_,rfl,_,_,rfl,rfl,.inl ⟨by decide,by decide⟩,_,_,rfl,rfl,?_⟩
  refine ⟨_,rfl,a,_,rfl,.inl hS,_,_,rfl,rfl,_,rfl,zD (fun d=>?_) (fun d=>?_)⟩
  ·have d':0 < ns.length:=by
    have:=of_decide_eq_true d
    rw [hl] at this
    omega
   have hm0:0≤k % (ns.length:Int):=Int.emod_nonneg _ (by omega)
   have hm1:k % (ns.length:Int) < (ns.length:Int):=Int.emod_lt_of_pos _ (by omega)
   have hat:atI (ns.map V.int) (k % (((ns.map V.int).length:Nat):Int))=some (.int (ns.getD (k % (ns.length:Int)).toNat 0)):=by
    rw [hl]
    exact jeB hm0 hm1
   refine ⟨_,rfl,_,rfl,_,rfl,a,_,rfl,.inl hS,_,_,rfl,rfl,(by rw [hl];omega),a,_,_,_,rfl,rfl,hS,hat,_,_,rfl,rfl,(by show (0:Int) < _;decide),_,_,rfl,rfl,.inr ⟨by decide,by decide⟩,_,rfl,_,_,rfl,rfl,.inl ⟨by decide,by decide⟩,_,rfl,_,_,rfl,rfl,.inr ⟨by omega,by omega⟩,_,_,rfl,rfl,?_⟩
   exact ⟨_,rfl,_,_,rfl,rfl,(by show (0:Int) < _;decide),q _⟩
  ·exact ⟨_,rfl,_,_,rfl,rfl,(by show (0:Int) < _;decide),q _⟩
theorem jdS {f:Addr} {fd:FuncData} (F:Fun K "_law_words" "_law_words" zN f fd) (B:Free0 mg):FnOk P w K mg base CX0 1 f fd ["_law_cell","_law_many"] ja9:=by
 have sc:FnScope ["_law_cell","_law_many","_law_letters","_law_own","_law_size","_law_spot_here","_law_words_here","_law_k","_law_base"] ["_law_cell","_law_many"] (jp zN):=fQ
 refine F.okZ sc (fun vs H Q E h=>?_) (fun cdv A outer s H vs Q E hr h=>?_)
 ·obtain ⟨c,n,rfl,_⟩:=h
  rfl
 obtain ⟨c,n,rfl,hn,q⟩:=h
 refine ⟨_,(jd (jv (i:=2) sc.nd rfl oQ jl)
   (jd (jv (i:=3) sc.nd rfl oQ (jY (ja jl (ja jl (ja jl (ja jl (ja jl (ja jl (ja jl (ja jl (ja jl (ja jl (ja jl (ja jl (ja jl (ja jl jb))))))))))))))))
   (jd (jL (jy j8 (jq jR (zpv 0) jc) jc (jH _)) (jh (jx (Kd ["_law_k"] [0,3] rfl (yl (sc:=jp zN) (N:=["_law_cell","_law_many","_law_letters","_law_own","_law_size","_law_spot_here","_law_words_here","_law_k","_law_base"]) rfl rfl (by decide +kernel)) (zo (by rfl) B.range_ (ja (zpv 1) jb)) (fun s H ex=>⟨(jC (i:=0) (show List.Nodup (["_law_k","_law_cell","_law_own"]:List Str) by decide +kernel) rfl oQ),zE,(jm (jee (K:=K)) (zpv 2) (jq jR (jq kN (jq jU (zpv 1) jc) (zpv 0)) jc) (fun _ _=>rfl))⟩)))) jG)
   (jd (jv (i:=4) sc.nd rfl oQ (jq jR (zpv 0) jc))
   (jd (jL (jy j8 (zpv 4) jc (jH _)) (jh (jx (Kd ["_law_k"] [0,2] rfl (yl (sc:=jp zN) (N:=["_law_cell","_law_many","_law_letters","_law_own","_law_size","_law_spot_here","_law_words_here","_law_k","_law_base"]) rfl rfl (by decide +kernel)) (zo (by rfl) B.range_ (ja (zpv 1) jb)) (fun s H ex=>⟨(jC (i:=0) (show List.Nodup (["_law_k","_law_cell","_law_letters"]:List Str) by decide +kernel) rfl oQ),zE,(jm jaH (zpv 2) (jq jR (jq kN (jq jU (zpv 1) jc) (zpv 0)) jc) (fun _ _=>rfl))⟩)))) jG)
   (jd (jv (i:=5) sc.nd rfl oQ (jq jR (jq jU (zpv 0) jc) (zpv 4)))
   (jd (jv (i:=6) sc.nd rfl oQ (jY jb))
   (jd (zY PassesOwn.never rfl (zo (by rfl) B.range_ (ja (zpv 1) jb)) (jC (i:=7) sc.nd rfl oQ) (jd (zF (i:=8) sc.nd rfl oQ ["_law_j"] [0,5,7] rfl (yl (sc:=jp zN) (N:=["_law_cell","_law_many","_law_letters","_law_own","_law_size","_law_spot_here","_law_words_here","_law_k","_law_base"]) rfl rfl (by decide +kernel)) (zo (by rfl) B.range_ (ja (zpv 4) jb)) (fun s H ex=>⟨(jC (i:=0) (show List.Nodup (["_law_j","_law_cell","_law_spot_here","_law_k"]:List Str) by decide +kernel) rfl oQ),zE,(jq kN (jq kN (jq jU (zpv 1) jc) (jq kH (jq kH jc (zpv 0)) (zpv 0))) (jq kH (zpv 3) (qX qD (by rfl) B.int_ yI (ja (za j8 (zpv 0) (zpv 2) (jH _)) jb))))⟩))
   (jh (jz (ko PySem.F.plainAttrs_list PySem.F.slot_list_append PySem.F.type_list_append j0 (zpv 6) (ja (jq yD (jm jaH jl (jq jR (jq jU (zpv 0) jc) jc) (fun _ _=>rfl)) (ko PySem.F.plainAttrs_str PySem.F.slot_str_join PySem.F.type_str_join jfH jl (ja (Kd ["_law_each"] [2] rfl (yl (sc:=jp zN) (N:=["_law_cell","_law_many","_law_letters","_law_own","_law_size","_law_spot_here","_law_words_here","_law_k","_law_base"]) rfl rfl (by decide +kernel)) (zG (zpv 8)) (fun s H ex=>⟨(jC (i:=0) (show List.Nodup (["_law_each","_law_letters"]:List Str) by decide +kernel) rfl oQ),zE,(jm jaH (zpv 1) (jq jR (zpv 0) jc) (fun _ _=>rfl))⟩)) jb))) jb))))))
   (jh (jx (zpv 6))))))))))),?_⟩
 refine ⟨sm rfl,fun lo hlo=>?_⟩
 have s1:=jj hlo (.lst [V.str "row",V.str "is",V.str "at",V.str "set",V.str "put",V.str "know",V.str "lose",V.str "start",V.str "entry",V.str "own",V.str "nought",V.str "pick",V.str "least",V.str "lost"])
 have e1:upd H lo (.lst [V.str "row",V.str "is",V.str "at",V.str "set",V.str "put",V.str "know",V.str "lose",V.str "start",V.str "entry",V.str "own",V.str "nought",V.str "pick",V.str "least",V.str "lost"]) lo=some (.lst (ZQ.map V.str)):=jg
 generalize upd H lo (.lst [V.str "row",V.str "is",V.str "at",V.str "set",V.str "put",V.str "know",V.str "lose",V.str "start",V.str "entry",V.str "own",V.str "nought",V.str "pick",V.str "least",V.str "lost"])=H1 at *
 have nonneg:∀ {x y:Int},0 < y→0≤x % y∧x % y < y:=fun h=>⟨Int.emod_nonneg _ (by omega),Int.emod_lt_of_pos _ h⟩
 have hlet:k9.length≤sizeLine:=by show 26≤sizeLine;rw [sizeLine_eq];decide
 have hqz:qzS.length≤sizeLine:=by show 2≤sizeLine;rw [sizeLine_eq];decide
 refine ⟨_,rfl,_,_,rfl,rfl,(by show (0:Int) < _;decide),rfl,_,rfl,zD (fun d=>?_) (fun d=>?_)⟩
 ·refine ⟨_,rfl,(n:Int),rfl,by omega,by omega,fun p hp=>?_⟩
  have s2:=jj hp (.lst [])
  refine yF (fun i σ' G'=>∃ (u:Option V),σ'=[u,some (.int c),some (.ref lo)]∧Same H1 G'∧G' p=some (.lst (((List.range i).map (jgQ c)).map V.str))) ?_ ?_ ?_
  ·exact ⟨none,rfl,s2,jg⟩
  ·rintro i σ' G' hi ⟨u,rfl,sG',hGp⟩
   unfold qd ZB
   refine kO ?_
   have hb:=nonneg (x:=c / 7+(0+(i:Int))) (y:=14) (by decide)
   have hat:=Zn (xs:=ZQ) (i:=(c / 7+(0+(i:Int))) % 14) hb.1 (by show _ < (14:Int);exact hb.2)
   refine ⟨_,rfl,_,rfl,_,_,rfl,rfl,⟨by decide,by decide⟩,_,rfl,_,_,rfl,rfl,_,_,rfl,rfl,(by show (0:Int) < _;decide),lo,_,_,_,rfl,rfl,SqL.of (sG' _ _ e1),hat,?_⟩
   have hi8:i < n:=by simpa using hi
   refine ⟨_,hGp,jJ (by rw [List.length_map,List.length_map,List.length_range];omega),_,rfl,fun z o e=>?_,?_⟩
   ·rw [jB (jt e hp)];exact sG' _ _ e
   ·rw [jg,ZK,List.map_append];rfl
  ·rintro σ' G' ⟨u,rfl,sG',hGp⟩
   rw [show ((n:Int)).toNat=n from rfl] at hGp
   exact q p _ G' (jgP) (s1.trans sG') (s1.free hp) hGp
 refine ⟨_,rfl,_,_,rfl,rfl,(by show (0:Int) < _;decide),?_⟩
 have hsz:=nonneg (x:=c) (y:=8) (by decide)
 dsimp only
 generalize c % 8=size at *
 refine ⟨_,rfl,rfl,_,rfl,zD (fun d2=>?_) (fun d2=>?_)⟩
 ·refine ⟨_,rfl,(n:Int),rfl,by omega,by omega,fun p hp=>?_⟩
  have s2:=jj hp (.lst [])
  refine yF (fun i σ' G'=>∃ (u:Option V),σ'=[u,some (.int c),some (.str k9)]∧Same H1 G'∧G' p=some (.lst (((List.range i).map (jgS c)).map V.str))) ?_ ?_ ?_
  ·exact ⟨none,rfl,s2,jg⟩
  ·rintro i σ' G' hi ⟨u,rfl,sG',hGp⟩
   unfold qd ZB
   refine kO ?_
   have hb:=nonneg (x:=c / 8+(0+(i:Int))) (y:=26) (by decide)
   have hch:=Yv hb.1 hb.2
   refine ⟨_,rfl,_,rfl,_,_,rfl,rfl,⟨by decide,by decide⟩,_,rfl,_,_,rfl,rfl,_,_,rfl,rfl,(by show (0:Int) < _;decide),k9,_,_,rfl,rfl,hlet,hch,?_⟩
   have hi8:i < n:=by simpa using hi
   refine ⟨_,hGp,jJ (by rw [List.length_map,List.length_map,List.length_range];omega),_,rfl,fun z o e=>?_,?_⟩
   ·rw [jB (jt e hp)];exact sG' _ _ e
   ·rw [jg,ZK,List.map_append];rfl
  ·rintro σ' G' ⟨u,rfl,sG',hGp⟩
   rw [show ((n:Int)).toNat=n from rfl] at hGp
   exact q p _ G' (jgR) (s1.trans sG') (s1.free hp) hGp
 have d2':¬ size=0:=fun e=>d2 (decide_eq_true (congrArg V.int e))
 refine ⟨_,rfl,_,_,rfl,rfl,⟨by decide,by decide⟩,_,rfl,_,_,rfl,rfl,(by show (0:Int) < size;omega),?_⟩
 dsimp only
 have hsp:=nonneg (x:=c / 8) (y:=size) (by omega)
 generalize c / 8 % size=spot at *
 refine ⟨sm rfl,fun lw hlw=>?_⟩
 have s2:=jj hlw (.lst [])
 have e2:upd H1 lw (.lst []) lw=some (.lst []):=jg
 have hlw0:H lw=none:=s1.free hlw
 generalize upd H1 lw (.lst [])=H2 at *
 have s02:=s1.trans s2
 refine ⟨_,rfl,(n:Int),rfl,by omega,by omega,?_⟩
 refine jcy (n:=n) (fun i σ G=>∃ (x7 x8:Option V),σ=[some (.int c),some (.int n),some (.str k9),some (.ref lo),some (.int size),some (.int spot),some (.ref lw),x7,x8]∧Same H G∧G lw=some (.lst (((List.range i).map (lgW c size spot)).map V.str))) ?_ ?_ ?_
 ·exact ⟨none,none,rfl,s02,e2⟩
 ·rintro i σ G hi ⟨x7,x8,rfl,sG,hGw⟩
  refine ⟨_,rfl,size,rfl,by omega,by omega,fun p hp=>?_⟩
  have s3:=jj hp (.lst [])
  have npw:lw≠p:=jt hGw hp
  refine yF (fun j σ' G'=>∃ (u:Option V),σ'=[u,some (.int c),some (.int spot),some (.int (0+(i:Int)))]∧Same G G'∧G' p=some (.lst (((List.range j).map (bsW c spot i)).map V.int))) ?_ ?_ ?_
  ·exact ⟨none,rfl,s3,jg⟩
  ·rintro j σ' G' hj ⟨u,rfl,sG',hGp⟩
   have hj8:j < size.toNat:=by simpa using hj
   unfold qd ZB
   refine kO ?_
   refine ⟨_,rfl,_,_,rfl,rfl,⟨by decide,by decide⟩,_,rfl,_,_,rfl,rfl,.inl ⟨by decide,by decide⟩,_,rfl,_,_,rfl,rfl,.inr ⟨by omega,by omega⟩,_,_,rfl,rfl,_,rfl,_,rfl,_,rfl,rfl,.inr ⟨_,rfl,?_⟩⟩
   refine ⟨_,_,rfl,rfl,.inr ⟨by split <;> decide,by split <;> decide⟩,_,_,rfl,rfl,?_⟩
   refine ⟨_,hGp,jJ (by rw [List.length_map,List.length_map,List.length_range];omega),_,rfl,fun z o e=>?_,?_⟩
   ·rw [jB (jt e hp)];exact sG' _ _ e
   ·rw [jg,ZK,List.map_append];rfl
  rintro σ' G1 ⟨u,rfl,sG1,hG1p⟩
  have hb:=nonneg (x:=c / 144) (y:=2) (by decide)
  have hqc:=jhG hb.1 hb.2
  refine ⟨_,rfl,.inl ⟨rfl,_,SqL.of (sG1 _ _ hGw)⟩,?_⟩
  refine ⟨_,rfl,_,_,rfl,rfl,⟨by decide,by decide⟩,_,_,rfl,rfl,(by show (0:Int) < _;decide),qzS,_,_,rfl,rfl,hqz,hqc,?_⟩
  refine ⟨rfl,_,rfl,p,rfl,⟨_,SqL.of hG1p⟩,fun p2 hp2=>?_⟩
  have s4:=jj hp2 (.lst [])
  refine JK (xs:=((List.range size.toNat).map (bsW c spot i)).map V.int) (fun j σ' G'=>∃ (u:Option V),σ'=[u,some (.str k9)]∧Same G1 G'∧G' p2=some (.lst ((((List.range j).map fun j=>JG (bsW c spot i j % 26)).map fun ch=>(⟨#[ch]⟩:Str)).map V.str))) ?_ ?_ ?_ ?_
  ·exact ⟨none,rfl,s4,jg⟩
  ·rintro j σ' G' _ ⟨u,rfl,sG',_⟩
   exact SqL.of (sG' _ _ hG1p)
  ·rintro j x σ' G' hx ⟨u,rfl,sG',hGp⟩
   have hj:j < size.toNat:=by
    have:=(List.getElem?_eq_some_iff.mp hx).1
    rw [List.length_map,List.length_map,List.length_range] at this
    exact this
   rw [List.getElem?_map,List.getElem?_map,List.getElem?_range hj] at hx
   cases hx
   unfold qd ZB
   refine kO ?_
   have hb2:=nonneg (x:=bsW c spot i j) (y:=26) (by decide)
   have hch:=Yv hb2.1 hb2.2
   refine ⟨_,rfl,_,rfl,_,_,rfl,rfl,(by show (0:Int) < _;decide),k9,_,_,rfl,rfl,hlet,hch,?_⟩
   refine ⟨_,hGp,jJ (by rw [List.length_map,List.length_map,List.length_map,List.length_range];omega),_,rfl,fun z o e=>?_,?_⟩
   ·rw [jB (jt e hp2)];exact sG' _ _ e
   ·rw [jg,ZK,List.map_append,List.map_append];rfl
  rintro σ' G2 ⟨u,rfl,sG2,hG2p⟩
  rw [List.length_map,List.length_map,List.length_range] at hG2p
  have hz1:∀ y∈((List.range size.toNat).map fun j=>JG (bsW c spot i j % 26)).map fun ch=>(⟨#[ch]⟩:Str),y.length=1:=fun y hy=>by
   obtain ⟨ch,_,rfl⟩:=List.mem_map.mp hy
   rfl
  have hsl:((((List.range size.toNat).map fun j=>JG (bsW c spot i j % 26)).map fun ch=>(⟨#[ch]⟩:Str)).map (·.length)).sum=size.toNat:=by
   rw [List.map_map]
   rw [show ((fun x:Str=>x.length) ∘ fun ch=>(⟨#[ch]⟩:Str))=fun _=>1 from rfl]
   generalize hL:(List.range size.toNat).map (fun j=>JG (bsW c spot i j % 26))=L
   have hl:L.length=size.toNat:=by rw [← hL];simp
   rw [← hl]
   clear hL hl hG2p
   induction L with
   | nil=>rfl
   | cons y r ih=>rw [List.map_cons,List.sum_cons,ih,List.length_cons];omega
  refine ⟨"",p2,_,rfl,rfl,SqL.of hG2p,(by rw [hsl];show size.toNat+_ * 0≤_;omega),?_⟩
  have hjl:(Txt.join "" (((List.range size.toNat).map fun j=>JG (bsW c spot i j % 26)).map fun ch=>(⟨#[ch]⟩:Str))).length≤7:=by
   show (Txt.join "" _).cps.size≤7
   rw [← Array.length_toList,Z3]
   simp
   omega
  refine ⟨_,_,rfl,rfl,?_,?_⟩
  ·have:∀ qc,(⟨#[qc]⟩:Str).length=1:=fun _=>rfl
   rw [this]
   exact Nat.le_trans (by omega:1+(Txt.join "" _).length≤1000) (zL (Nat.le_refl _))
  have hGw2:=sG2 _ _ (sG1 _ _ hGw)
  refine ⟨lw,_,_,rfl,rfl,hGw2,jJ (by rw [List.length_map,List.length_map,List.length_range];omega),?_⟩
  refine ⟨some (.int (0+(i:Int))),some (.ref p),rfl,fun z o e=>?_,?_⟩
  ·rw [jB (jt e hlw0)];exact sG2 _ _ (sG1 _ _ (sG _ _ e))
  ·rw [jg,ZK,List.map_append];rfl
 ·rintro σ G ⟨x7,x8,rfl,sG,hGw⟩
  exact ⟨_,rfl,q lw _ G (jh0 (by omega)) sG hlw0 hGw⟩
theorem jgX {f:Addr} {fd:FuncData} (F:Fun K "_law_mix" "_law_mix" jeU f fd):FnOk P w K mg base CX0 1 f fd ["_law_seed","_law_k"] jbg:=by
 have sc:FnScope ["_law_seed","_law_k","_law_number"] ["_law_seed","_law_k"] (jp jeU):=fQ
 refine F.okZ sc (fun vs H Q E h=>?_) (fun cdv A outer s H vs Q E hr h=>?_)
 ·obtain ⟨s,k,rfl,_⟩:=h
  rfl
 obtain ⟨s,k,rfl,q⟩:=h
 refine ⟨_,(jd (jv (i:=2) sc.nd rfl oQ (jq jR (jq kN (jq kN (jq kH (zpv 0) jc) (jq kH (zpv 1) jc)) jc) jc))
   (jh (jx (jq jR (jq kH (zpv 2) (zpv 2)) jc)))),?_⟩
 refine ⟨_,rfl,_,_,rfl,rfl,.inr ⟨by decide,by decide⟩,_,rfl,_,_,rfl,rfl,.inr ⟨by decide,by decide⟩,_,_,rfl,rfl,_,_,rfl,rfl,_,_,rfl,rfl,(by show (0:Int) < _;decide),?_⟩
 have h0:0≤(s * 48271+k * 40692+1) % 2147483647:=Int.emod_nonneg _ (by decide)
 have h1:(s * 48271+k * 40692+1) % 2147483647 < 2147483647:=Int.emod_lt_of_pos _ (by decide)
 dsimp only
 generalize (s * 48271+k * 40692+1) % 2147483647=x at *
 exact ⟨_,rfl,_,rfl,_,_,rfl,rfl,.inr ⟨by omega,by omega⟩,_,_,rfl,rfl,(by show (0:Int) < _;decide),q _⟩
end
abbrev J2:Stmt:=top 31
abbrev YY:Stmt:=top 32
abbrev jbp:Stmt:=top 34
structure Ws (H:Hp) (a:Addr) (ws:List Str):Prop where
 at_:H a=some (.lst (ws.map V.str))
 len:ws.length=6
 ok:∀ x∈ws,Wd x
theorem Ws.mono {H H':Hp} {a:Addr} {ws:List Str} (h:Ws H a ws) (s:Same H H'):Ws H' a ws:=⟨s _ _ h.at_,h.len,h.ok⟩
theorem Ws.get {H:Hp} {a:Addr} {ws:List Str} (h:Ws H a ws) {i:Int} (h0:0≤i) (h1:i < 6):∃ x,atI (ws.map V.str) i=some (.str x)∧Wd x:=by
 have hk:i.toNat < ws.length:=by rw [h.len];omega
 refine ⟨_,Zn h0 (by rw [h.len];exact h1),h.ok _ ?_⟩
 rw [List.getD_eq_getElem?_getD,List.getElem?_eq_getElem hk]
 exact List.getElem_mem hk
theorem Ze {x y z:Str} (hx:Wd x) (hy:Wd y) (hz:Wd z) {i:Int} (h0:0≤i) (h1:i < 4):∃ u,atI [V.str "",V.str x,V.str y,V.str z] i=some (.str u)∧NmG u:=by
 have:i=0∨i=1∨i=2∨i=3:=by omega
 rcases this with rfl | rfl | rfl | rfl
 ·exact ⟨_,rfl,.inl rfl⟩
 ·exact ⟨_,rfl,.inr hx⟩
 ·exact ⟨_,rfl,.inr hy⟩
 ·exact ⟨_,rfl,.inr hz⟩
theorem kI {x y:Int} (h:0 < y):0≤x % y∧x % y < y:=⟨Int.emod_nonneg _ (by omega),Int.emod_lt_of_pos _ h⟩
theorem jhW (k:Bool):-(2:Int) ^ 64 < (if k=true then (1:Int) else 0)∧(if k=true then (1:Int) else 0) < 2 ^ 64:=by cases k <;> decide
theorem jip {k:Bool} {x near:Int} (hc:0≤x∧x < 5) (hn:near.natAbs≤10 ^ 17):(x - 2+near * (if k=true then (1:Int) else 0)).natAbs≤10 ^ 18:=by
 cases k
 ·rw [if_neg (by decide)];omega
 ·rw [if_pos rfl];omega
theorem jeM {z i:Int} (hz:z.natAbs≤10 ^ 17) (h0:0≤i) (h1:i < 3):∃ u,atI [V.int 0,V.int 3,V.int z] i=some (.int u)∧u.natAbs≤10 ^ 17:=by
 have:i=0∨i=1∨i=2:=by omega
 rcases this with rfl | rfl | rfl
 ·exact ⟨_,rfl,by decide⟩
 ·exact ⟨_,rfl,by decide⟩
 ·exact ⟨_,rfl,hz⟩
def zK:Sp:=fun vs H Q _=>∃ (s near:Int) (a:Addr) (ws:List Str),vs=[.int s,.ref a,.int near]∧Ws H a ws∧near.natAbs≤10 ^ 17∧∀ (x:Str) (d:Int) (v:V) (H':Hp),Same H H'→NmG x→d.natAbs≤10 ^ 18→Held H' (plD x d) v→Q v H'
def YR:Sp:=fun vs H Q _=>∃ (s near:Int) (a:Addr) (ws:List Str),vs=[.int s,.ref a,.int near]∧Ws H a ws∧near.natAbs≤10 ^ 17∧∀ (t:Tm) (v:V) (H':Hp),Same H H'→TmG t→Held H' t.toD v→Q v H'
def jdi:Sp:=fun vs H Q _=>∃ (s near:Int) (a:Addr) (ws:List Str),vs=[.int s,.ref a,.int near]∧Ws H a ws∧near.natAbs≤10 ^ 17∧∀ (x:Str) (d:Int) (v:V) (H':Hp),Same H H'→NmG x→d.natAbs≤10 ^ 19→Held H' (plD x d) v→Q v H'
section
variable {P:Program} {w:World} {K:W.Frag} {mg:Str→Option Value} {base:Heap}
theorem jcf {f:Addr} {fd:FuncData} (F:Fun K "_law_place" "_law_place" J2 f fd) (B:Free0 mg):FnOk P w K mg base CX0 1 f fd ["_law_seed","_law_w","_law_near"] zK:=by
 have sc:FnScope ["_law_seed","_law_w","_law_near","_law_x"] ["_law_seed","_law_w","_law_near"] (jp J2):=fQ
 refine F.okZ sc (fun vs H Q E h=>?_) (fun cdv A outer s H vs Q E hr h=>?_)
 ·obtain ⟨s,n,a,ws,rfl,_⟩:=h
  rfl
 obtain ⟨s,near,a,ws,rfl,hw,hn,q⟩:=h
 refine ⟨_,(jd (jv (i:=3) sc.nd rfl oQ (jm jV (jY (ja jl (ja (jm jV (zpv 1) jc (fun _ _=>rfl)) (ja (jm jV (zpv 1) jc (fun _ _=>rfl)) (ja (jm jV (zpv 1) jc (fun _ _=>rfl)) jb))))) (jq jR (zpv 0) jc) (fun _ _=>rfl)))
   (jh (jx (jW (ja (zpv 3) (ja (jq kN (jq qw (jq jR (jq jU (zpv 0) jc) jc) jc) (jq kH (zpv 2) (qX qD (by rfl) B.int_ yI (ja (za j8 (zpv 3) jl (jH _)) jb)))) jb)))))),?_⟩
 refine jI (σ':=[some (.int s),some (.ref a),some (.int near),none]) rfl ?_
 obtain ⟨x0,e0,o0⟩:=hw.get (i:=0) (by decide) (by decide)
 obtain ⟨x1,e1,o1⟩:=hw.get (i:=1) (by decide) (by decide)
 obtain ⟨x2,e2,o2⟩:=hw.get (i:=2) (by decide) (by decide)
 refine ⟨_,rfl,a,_,_,_,rfl,rfl,SqL.of hw.at_,e0,_,rfl,a,_,_,_,rfl,rfl,SqL.of hw.at_,e1,_,rfl,a,_,_,_,rfl,rfl,SqL.of hw.at_,e2,sm rfl,fun p hp=>?_⟩
 have s1:=jj hp (.lst [V.str "",V.str x0,V.str x1,V.str x2])
 have u1:upd H p (.lst [V.str "",V.str x0,V.str x1,V.str x2]) p=_:=jg
 generalize upd H p (.lst [V.str "",V.str x0,V.str x1,V.str x2])=H1 at *
 have hb:=kI (x:=s) (y:=4) (by decide)
 obtain ⟨u,e3,o3⟩:=Ze o0 o1 o2 hb.1 hb.2
 refine ⟨_,rfl,_,_,rfl,rfl,(by show (0:Int) < _;decide),p,_,_,_,rfl,rfl,SqL.of u1,e3,?_⟩
 refine gQ ?_
 have hc:=kI (x:=s / 4) (y:=5) (by decide)
 refine ⟨_,rfl,_,rfl,_,_,rfl,rfl,⟨by decide,by decide⟩,_,_,rfl,rfl,(by show (0:Int) < _;decide),_,_,rfl,rfl,_,rfl,_,rfl,rfl,.inr ⟨_,rfl,_,_,rfl,rfl,.inr (jhW _),_,_,rfl,rfl,sm rfl,fun p2 hp2=>?_⟩⟩
 exact q u _ _ _ (s1.trans (jj hp2 _)) o3 (jip hc hn) (jP jg (je jA (je jK jw)))
theorem jfB {f:Addr} {fd:FuncData} (F:Fun K "_law_end" "_law_end" jbp f fd) (F_place:Fn P w K mg base 1 "_law_place" ["_law_seed","_law_w","_law_near"] zK):FnOk P w K mg base CX0 2 f fd ["_law_seed","_law_w","_law_near"] jdi:=by
 have sc:FnScope ["_law_seed","_law_w","_law_near","_law_place_here"] ["_law_seed","_law_w","_law_near"] (jp jbp):=fQ
 refine F.okZ sc (fun vs H Q E h=>?_) (fun cdv A outer s H vs Q E hr h=>?_)
 ·obtain ⟨s,n,a,ws,rfl,_⟩:=h
  rfl
 obtain ⟨s,near,a,ws,rfl,hw,hn,q⟩:=h
 refine ⟨_,(jd (jv (i:=3) sc.nd rfl oQ (ji F_place hr (ja (zpv 0) (ja (zpv 1) (ja (zpv 2) jb)))))
   (jh (jx (jW (ja (jm ju (zpv 3) jc (fun _ _=>rfl)) (ja (jq kN (jm ju (zpv 3) jc (fun _ _=>rfl)) (jm jV (jY (ja jc (ja jc (ja (jq yC jc jc) jb)))) (jq jR (jq jU (zpv 0) jc) jc) (fun _ _=>rfl))) jb)))))),?_⟩
 refine jI (σ':=[some (.int s),some (.ref a),some (.int near),none]) rfl ?_
 refine ⟨_,rfl,_,rfl,_,rfl,s,near,a,ws,rfl,hw,hn,fun x d v H1 s1 hx hd hv=>?_⟩
 refine gQ ?_
 obtain ⟨t,rfl,ht⟩:=yA hv
 refine ⟨_,rfl,t,_,_,_,rfl,rfl,SqT.of ht,jf (j:=0) rfl,_,rfl,t,_,_,_,rfl,rfl,SqT.of ht,jf (j:=1) rfl,_,_,rfl,rfl,⟨by decide,by decide⟩,sm rfl,fun p hp=>?_⟩
 have hb:=kI (x:=s / 20) (y:=3) (by decide)
 obtain ⟨u,e3,o3⟩:=jeM (z:=10 ^ Int.toNat 17) (by decide) hb.1 hb.2
 have s2:=jj hp (.lst [V.int 0,V.int 3,V.int (10 ^ Int.toNat 17)])
 refine ⟨_,rfl,_,_,rfl,rfl,⟨by decide,by decide⟩,_,_,rfl,rfl,(by show (0:Int) < _;decide),p,_,_,_,rfl,rfl,SqL.of jg,e3,_,_,rfl,rfl,sm rfl,fun p2 hp2=>?_⟩
 exact q x _ _ _ (s1.trans (s2.trans (jj hp2 _))) hx (by omega) (jP jg (je jA (je jK jw)))
theorem jdW {f:Addr} {fd:FuncData} (F:Fun K "_law_term" "_law_term" YY f fd) (F_place:Fn P w K mg base 1 "_law_place" ["_law_seed","_law_w","_law_near"] zK):FnOk P w K mg base CX0 2 f fd ["_law_seed","_law_w","_law_near"] YR:=by
 have sc:FnScope ["_law_seed","_law_w","_law_near"] ["_law_seed","_law_w","_law_near"] (jp YY):=fQ
 refine F.okZ sc (fun vs H Q E h=>?_) (fun cdv A outer s H vs Q E hr h=>?_)
 ·obtain ⟨s,n,a,ws,rfl,_⟩:=h
  rfl
 obtain ⟨s,near,a,ws,rfl,hw,hn,q⟩:=h
 refine ⟨_,(jd (jL (jy jby (jq jR (zpv 0) jc) jc (jH _)) (jh (jx (jW (ja jl (ja (jm jV (jY (ja jl (ja (jm jV (zpv 1) jc (fun _ _=>rfl)) (ja (jm jV (zpv 1) jc (fun _ _=>rfl)) (ja (jm jV (zpv 1) jc (fun _ _=>rfl)) jb))))) (jq jR (jq jU (zpv 0) jc) jc) (fun _ _=>rfl)) jb))))) jG)
   (jh (jx (jW (ja jl (ja (jm jV (zpv 1) (jq kN jc (jq jR (jq jU (zpv 0) jc) jc)) (fun _ _=>rfl)) (ja (ji F_place hr (ja (jq jU (zpv 0) jc) (ja (zpv 1) (ja (zpv 2) jb)))) jb))))))),?_⟩
 refine jI (σ':=[some (.int s),some (.ref a),some (.int near)]) rfl ?_
 refine ⟨_,rfl,_,_,rfl,rfl,(by show (0:Int) < _;decide),_,_,rfl,rfl,_,rfl,zD (fun c=>?_) (fun c=>?_)⟩
 ·obtain ⟨x0,e0,o0⟩:=hw.get (i:=0) (by decide) (by decide)
  obtain ⟨x1,e1,o1⟩:=hw.get (i:=1) (by decide) (by decide)
  obtain ⟨x2,e2,o2⟩:=hw.get (i:=2) (by decide) (by decide)
  refine ⟨_,rfl,a,_,_,_,rfl,rfl,SqL.of hw.at_,e0,_,rfl,a,_,_,_,rfl,rfl,SqL.of hw.at_,e1,_,rfl,a,_,_,_,rfl,rfl,SqL.of hw.at_,e2,sm rfl,fun p hp=>?_⟩
  have s1:=jj hp (.lst [V.str "",V.str x0,V.str x1,V.str x2])
  have u1:upd H p (.lst [V.str "",V.str x0,V.str x1,V.str x2]) p=_:=jg
  generalize upd H p (.lst [V.str "",V.str x0,V.str x1,V.str x2])=H1 at *
  have hb:=kI (x:=s / 3) (y:=4) (by decide)
  obtain ⟨u,e3,o3⟩:=Ze o0 o1 o2 hb.1 hb.2
  refine ⟨_,rfl,_,_,rfl,rfl,⟨by decide,by decide⟩,_,_,rfl,rfl,(by show (0:Int) < _;decide),p,_,_,_,rfl,rfl,SqL.of u1,e3,sm rfl,fun p2 hp2=>?_⟩
  exact q (.is u) _ _ (s1.trans (jj hp2 _)) o3 (jP jg (je jA (je jA jw)))
 ·have hb:=kI (x:=s / 3) (y:=3) (by decide)
  obtain ⟨r,e3,o3⟩:=hw.get (i:=3+s / 3 % 3) (by omega) (by omega)
  refine ⟨_,rfl,_,rfl,_,_,rfl,rfl,⟨by decide,by decide⟩,_,_,rfl,rfl,(by show (0:Int) < _;decide),_,_,rfl,rfl,a,_,_,_,rfl,rfl,SqL.of hw.at_,e3,?_⟩
  refine ⟨_,rfl,_,_,rfl,rfl,⟨by decide,by decide⟩,_,rfl,_,rfl,_,near,a,ws,rfl,hw,hn,fun x d v H1 s1 hx hd hv=>⟨sm rfl,fun p hp=>?_⟩⟩
  exact q (.at_ r x d) _ _ (s1.trans (jj hp _)) ⟨o3,hx,by omega⟩ (jP jg (je jA (je jA (je (hv.mono (jj hp _)) jw))))
end
abbrev Y2:Stmt:=top 33
def jbi:Sp:=fun vs H Q _=>∃ (s near:Int) (a:Addr) (ws:List Str),vs=[.int s,.ref a,.int near]∧Ws H a ws∧near.natAbs≤10 ^ 17∧∀ (r:Rw) (v:V) (H':Hp),Same H H'→RwG r→(∀ C,r≠.know C)→Held H' r.toD v→Q v H'
theorem jf4 {x y i:Int} (hx:x.natAbs≤10 ^ 16) (hy:y.natAbs≤10 ^ 16) (h0:0≤i) (h1:i < 2):∃ u,atI [V.int x,V.int y] i=some (.int u)∧u.natAbs≤10 ^ 16:=by
 have:i=0∨i=1:=by omega
 rcases this with rfl | rfl
 ·exact ⟨_,rfl,hx⟩
 ·exact ⟨_,rfl,hy⟩
theorem jgp (x:Int):(x % (2 * 10 ^ Int.toNat 15) - 10 ^ Int.toNat 15).natAbs≤10 ^ 16:=by
 have:=kI (x:=x) (y:=2 * 10 ^ 15) (by decide)
 show (x % (2 * 10 ^ 15) - 10 ^ 15).natAbs≤10 ^ 16
 omega
theorem jh2 (k:Bool):0≤(if k=true then (1:Int) else 0)∧(if k=true then (1:Int) else 0) < 2:=by cases k <;> decide
section
variable {P:Program} {w:World} {K:W.Frag} {mg:Str→Option Value} {base:Heap}
theorem jd2 {f:Addr} {fd:FuncData} (F:Fun K "_law_drawn" "_law_drawn" Y2 f fd) (B:Free0 mg) (F_term:Fn P w K mg base 2 "_law_term" ["_law_seed","_law_w","_law_near"] YR) (F_mix:Fn P w K mg base 1 "_law_mix" ["_law_seed","_law_k"] jbg) (F_place:Fn P w K mg base 1 "_law_place" ["_law_seed","_law_w","_law_near"] zK):FnOk P w K mg base CX0 3 f fd ["_law_seed","_law_w","_law_near"] jbi:=by
 have sc:FnScope ["_law_seed","_law_w","_law_near","_law_kind","_law_more_here","_law_term_here"] ["_law_seed","_law_w","_law_near"] (jp Y2):=fQ
 refine F.okZ sc (fun vs H Q E h=>?_) (fun cdv A outer s H vs Q E hr h=>?_)
 ·obtain ⟨s,n,a,ws,rfl,_⟩:=h
  rfl
 obtain ⟨s,near,a,ws,rfl,hw,hn,q⟩:=h
 refine ⟨_,(jd (jv (i:=3) sc.nd rfl oQ (jq jR (zpv 0) jc))
   (jd (jv (i:=4) sc.nd rfl oQ (jm jV (jY (ja (jq qw (jq jR (jq jU (zpv 0) jc) jc) jc) (ja (jq qw (jq jR (jq kH (zpv 0) jc) (jq kH jc (jq yC jc jc))) (jq yC jc jc)) jb))) (qX qD (by rfl) B.int_ yI (ja (za j8 (jq jR (jq jU (zpv 0) jc) jc) jc (jH _)) jb)) (fun _ _=>rfl)))
   (jd (jv (i:=5) sc.nd rfl oQ (ji F_term hr (ja (ji F_mix hr (ja (zpv 0) (ja jc jb))) (ja (zpv 1) (ja (zpv 2) jb)))))
   (jd (jL (jy jby (zpv 3) jc (jH _)) (jh (jx (jW (ja jl (ja (jm jV (zpv 1) (jq jR (jq jU (zpv 0) jc) jc) (fun _ _=>rfl)) (ja (zpv 5) (ja (zpv 4) jb))))))) jG)
   (jd (jL (jy jby (zpv 3) jc (jH _)) (jh (jx (jW (ja jl (ja (jm jV (zpv 1) (jq kN jc (jq jR (jq jU (zpv 0) jc) jc)) (fun _ _=>rfl)) (ja (ji F_place hr (ja (ji F_mix hr (ja (zpv 0) (ja jc jb))) (ja (zpv 1) (ja (zpv 2) jb)))) (ja (zpv 5) (ja (zpv 4) jb)))))))) jG)
   (jd (jL (jy j8 (zpv 3) jc (jH _)) (jh (jx (jW (ja jl (ja (jm jV (zpv 1) (jq jR (jq jU (zpv 0) jc) jc) (fun _ _=>rfl)) jb))))) jG)
   (jh (jx (jW (ja jl (ja (jm jV (zpv 1) (jq kN jc (jq jR (jq jU (zpv 0) jc) jc)) (fun _ _=>rfl)) jb))))))))))),?_⟩
 refine jI (σ':=[some (.int s),some (.ref a),some (.int near),none,none,none]) rfl ?_
 refine jej ?_
 intro _ _ _ _ _ _
 refine ⟨_,rfl,_,_,rfl,rfl,(by show (0:Int) < _;decide),?_⟩
 refine gQ ?_
 refine ⟨_,rfl,_,_,rfl,rfl,⟨by decide,by decide⟩,_,_,rfl,rfl,(by show (0:Int) < _;decide),_,_,rfl,rfl,_,rfl,_,_,rfl,rfl,.inr ⟨by decide,by decide⟩,_,_,rfl,rfl,⟨by decide,by decide,by decide⟩,_,_,rfl,rfl,.inl ⟨by decide,by decide⟩,_,_,rfl,rfl,(by show (0:Int) < _;decide),_,_,rfl,rfl,⟨by decide,by decide,by decide⟩,_,_,rfl,rfl,sm rfl,fun l1 hl1=>?_⟩
 dsimp only
 have b1:=kI (x:=s / 6) (y:=7) (by decide)
 have b2:=jgp (s * 7919)
 have b3:(s / 6 % 7 - 3).natAbs≤10 ^ 16:=by omega
 generalize s / 6 % 7 - 3=c1 at *
 generalize s * 7919 % (2 * 10 ^ Int.toNat 15) - 10 ^ Int.toNat 15=c2 at *
 have s1:=jj hl1 (.lst [V.int c1,V.int c2])
 have e1:upd H l1 (.lst [V.int c1,V.int c2]) l1=some (.lst [V.int c1,V.int c2]):=jg
 generalize upd H l1 (.lst [V.int c1,V.int c2])=H1 at *
 refine ⟨_,rfl,_,_,rfl,rfl,⟨by decide,by decide⟩,_,_,rfl,rfl,(by show (0:Int) < _;decide),rfl,.inr ⟨_,rfl,?_⟩⟩
 obtain ⟨mo,hmo,bm⟩:=jf4 b3 b2 (jh2 (decide (V.int (s / 42 % 3)=V.int 1))).1 (jh2 (decide (V.int (s / 42 % 3)=V.int 1))).2
 refine ⟨l1,_,_,_,rfl,rfl,SqL.of e1,hmo,?_⟩
 refine gQ ?_
 refine ⟨_,rfl,s,1,rfl,fun s3=>⟨_,rfl,_,rfl,s3,near,a,ws,rfl,hw.mono s1,hn,fun tm v H2 s2 ht hv=>?_⟩⟩
 refine gQ ?_
 have s12:=s1.trans s2
 have hw2:=hw.mono s12
 have b4:=kI (x:=s / 6) (y:=3) (by decide)
 obtain ⟨x,ex,ox⟩:=hw2.get (i:=s / 6 % 3) (by omega) (by omega)
 obtain ⟨r,er,or'⟩:=hw2.get (i:=3+s / 6 % 3) (by omega) (by omega)
 refine ⟨_,rfl,_,_,rfl,rfl,_,rfl,zD (fun d=>?_) (fun d=>?_)⟩
 ·refine ⟨_,rfl,_,rfl,_,_,rfl,rfl,⟨by decide,by decide⟩,_,_,rfl,rfl,(by show (0:Int) < _;decide),a,_,_,_,rfl,rfl,SqL.of hw2.at_,ex,_,rfl,_,rfl,sm rfl,fun p hp=>?_⟩
  exact q (.set x tm mo) _ _ (s12.trans (jj hp _)) ⟨ox,ht,by omega⟩ (fun _ z=>by cases z) (jP jg (je jA (je jA (je (hv.mono (jj hp _)) (je jK jw)))))
 refine ⟨_,rfl,_,_,rfl,rfl,_,rfl,zD (fun d=>?_) (fun d=>?_)⟩
 ·refine ⟨_,rfl,_,rfl,_,_,rfl,rfl,⟨by decide,by decide⟩,_,_,rfl,rfl,(by show (0:Int) < _;decide),_,_,rfl,rfl,a,_,_,_,rfl,rfl,SqL.of hw2.at_,er,?_⟩
  refine ⟨_,rfl,s,2,rfl,fun s4=>⟨_,rfl,_,rfl,s4,near,a,ws,rfl,hw2,hn,fun y d v2 H3 s3 hy hd hv2=>⟨_,rfl,_,rfl,sm rfl,fun p hp=>?_⟩⟩⟩
  exact q (.put r y d tm mo) _ _ (s12.trans (s3.trans (jj hp _))) ⟨or',hy,by omega,ht,by omega⟩ (fun _ z=>by cases z) (jP jg (je jA (je jA (je (hv2.mono (jj hp _)) (je (hv.mono (s3.trans (jj hp _))) (je jK jw))))))
 refine ⟨_,rfl,rfl,_,rfl,zD (fun d=>?_) (fun d=>?_)⟩
 ·refine ⟨_,rfl,_,rfl,_,_,rfl,rfl,⟨by decide,by decide⟩,_,_,rfl,rfl,(by show (0:Int) < _;decide),a,_,_,_,rfl,rfl,SqL.of hw2.at_,ex,sm rfl,fun p hp=>?_⟩
  exact q (.any x) _ _ (s12.trans (jj hp _)) ox (fun _ z=>by cases z) (jP jg (je jA (je jA jw)))
 ·refine ⟨_,rfl,_,rfl,_,_,rfl,rfl,⟨by decide,by decide⟩,_,_,rfl,rfl,(by show (0:Int) < _;decide),_,_,rfl,rfl,a,_,_,_,rfl,rfl,SqL.of hw2.at_,er,sm rfl,fun p hp=>?_⟩
  exact q (.lose r) _ _ (s12.trans (jj hp _)) or' (fun _ z=>by cases z) (jP jg (je jA (je jA jw)))
end
abbrev yV:Stmt:=top 35
structure Fs (H:Hp) (a:Addr) (fs:List Str):Prop where
 at_:H a=some (.lst (fs.map V.str))
 len:fs.length≤6
 ok:∀ x∈fs,Wd x
theorem Fs.mono {H H':Hp} {a:Addr} {ws:List Str} (h:Fs H a ws) (s:Same H H'):Fs H' a ws:=⟨s _ _ h.at_,h.len,h.ok⟩
theorem Fs.get {H:Hp} {a:Addr} {fs:List Str} (h:Fs H a fs) (hp:0 < fs.length) (x:Int):0 < ((fs.map V.str).length:Int)∧∃ r,atI (fs.map V.str) (x % ((fs.map V.str).length:Int))=some (.str r)∧Wd r:=by
 have hml:((fs.map V.str).length:Int)=fs.length:=by rw [List.length_map]
 rw [hml]
 have b:=kI (x:=x) (y:=(fs.length:Int)) (by omega)
 have hk:(x % (fs.length:Int)).toNat < fs.length:=by omega
 refine ⟨by omega,_,Zn b.1 b.2,h.ok _ ?_⟩
 rw [List.getD_eq_getElem?_getD,List.getElem?_eq_getElem hk]
 exact List.getElem_mem hk
def Ks:Sp:=fun vs H Q _=>∃ (s near:Int) (a fr:Addr) (ws fs:List Str),vs=[.int s,.ref a,.int near,.ref fr]∧Ws H a ws∧near.natAbs≤10 ^ 17∧Fs H fr fs∧∀ (k:Cl) (v:V) (H':Hp),Same H H'→ClG k→Held H' k.toD v→Q v H'
theorem KQ:∀ ws:List Str,D.depthL (ws.map D.str)=0
 | []=>rfl
 | x :: r=>by show max (D.str x).depth (D.depthL (r.map D.str))=0;rw [KQ r];rfl
theorem KN {H:Hp}:∀ ws:List Str,HeldL H (ws.map D.str) (ws.map V.str)
 | []=>jw
 | _ :: r=>je jA (KN r)
theorem jcY {i:Int} (h0:0≤i) (h1:i < 2):∃ w:Str,atI [V.str ">=",V.str "<="] i=some (.str w):=by
 have:i=0∨i=1:=by omega
 rcases this with rfl | rfl
 ·exact ⟨_,rfl⟩
 ·exact ⟨_,rfl⟩
theorem jbU {H:Hp} {o:Addr}:∀ {b:Bd},(∃ kd x,b.toD=.tup [.str kd,.str x]∧H o=some (.tup [.str kd,.str x]))→Held H b.toD (.ref o):=fun ⟨kd,x,e,h⟩=>by
 rw [e]
 exact jP h (je jA (je jA jw))
section
variable {P:Program} {w:World} {K:W.Frag} {mg:Str→Option Value} {base:Heap}
theorem jci {f:Addr} {fd:FuncData} (F:Fun K "_law_claim" "_law_claim" yV f fd) (B:Free0 mg) (F_mix:Fn P w K mg base 1 "_law_mix" ["_law_seed","_law_k"] jbg) (F_place:Fn P w K mg base 1 "_law_place" ["_law_seed","_law_w","_law_near"] zK) (F_term:Fn P w K mg base 2 "_law_term" ["_law_seed","_law_w","_law_near"] YR) (F_end:Fn P w K mg base 2 "_law_end" ["_law_seed","_law_w","_law_near"] jdi):FnOk P w K mg base CX0 3 f fd ["_law_seed","_law_w","_law_near","_law_free"] Ks:=by
 have sc:FnScope ["_law_seed","_law_w","_law_near","_law_free","_law_more_here","_law_t","_law_u","_law_r","_law_facing"] ["_law_seed","_law_w","_law_near","_law_free"] (jp yV):=fQ
 refine F.okZ sc (fun vs H Q E h=>?_) (fun cdv A outer s H vs Q E hr h=>?_)
 ·obtain ⟨s,n,a,fr,ws,fs,rfl,_⟩:=h
  rfl
 have hu0:(A.deeper (PyProof.Rows.envOfC "_law_claim" (jp yV) s.heap.objs.size f cdv)).units+1+0 < cLine:=by have:=hr.units;omega
 obtain ⟨sd,n,a,fr,ws,fs,rfl,hw,hn,hf,q⟩:=h
 refine ⟨_,(jd (jv (i:=4) sc.nd rfl oQ (jm jV (jY (ja (jq qw (jq jR (jq jU (zpv 0) jc) jc) jc) (ja (jq qw (jq jR (jq kH (zpv 0) jc) (jq kH jc (jq yC jc jc))) (jq yC jc jc)) jb))) (jq jR (jq jU (zpv 0) jc) jc) (fun _ _=>rfl)))
   (jd (jL (Kb (jy j8 (jq jR (zpv 0) jc) jc (jH _)) (JZ (jy (jbz 0 hu0) (zpv 3) (jY jb) (jH _)))).pt (jh (jx (jW (ja jl (ja (ji F_term hr (ja (ji F_mix hr (ja (zpv 0) (ja jc jb))) (ja (zpv 1) (ja (zpv 2) jb)))) (ja (ji F_term hr (ja (ji F_mix hr (ja (zpv 0) (ja jc jb))) (ja (zpv 1) (ja (zpv 2) jb)))) (ja (zpv 4) jb))))))) jG)
   (jd (jv (i:=5) sc.nd rfl oQ (ji F_place hr (ja (ji F_mix hr (ja (zpv 0) (ja jc jb))) (ja (zpv 1) (ja (zpv 2) jb)))))
   (jd (jv (i:=6) sc.nd rfl oQ (ji F_end hr (ja (ji F_mix hr (ja (zpv 0) (ja jc jb))) (ja (zpv 1) (ja (zpv 2) jb)))))
   (jd (jv (i:=7) sc.nd rfl oQ (jm jV (zpv 3) (jq jR (jq jU (zpv 0) jc) (kW kM (by rfl) B.len_ yH (ja (zpv 3) jb))) (fun _ _=>rfl)))
   (jd (jL (jy j8 (jq jR (zpv 0) jc) jc (jH _)) (jd (jv (i:=8) sc.nd rfl oQ (jW (ja jl (ja (jm jV (jY (ja jl (ja (jm jV (zpv 1) jc (fun _ _=>rfl)) (ja (jm jV (zpv 1) jc (fun _ _=>rfl)) (ja (jm jV (zpv 1) jc (fun _ _=>rfl)) jb))))) (jq jR (jq jU (zpv 0) jc) jc) (fun _ _=>rfl)) jb))))
   (jd (yJ (jL (jy j8 (jq jR (jq jU (zpv 0) jc) jc) jc (jH _)) (jh (jv (i:=8) sc.nd rfl oQ (jW (ja jl (ja (jm jV (zpv 3) (jq jR (jq jU (zpv 0) jc) (kW kM (by rfl) B.len_ yH (ja (zpv 3) jb))) (fun _ _=>rfl)) jb))))) jG))
   (jh (jx (jW (ja jl (ja (zpv 5) (ja (zpv 6) (ja (zpv 7) (ja (jm jV (jY (ja jl (ja jl jb))) (jq jR (jq jU (zpv 0) jc) jc) (fun _ _=>rfl)) (ja (zpv 8) (ja (zpv 4) jb)))))))))))) jG)
   (jh (jx (jW (ja jl (ja (zpv 5) (ja (zpv 6) (ja (zpv 7) jb))))))))))))),?_⟩
 refine jI (σ':=[some (.int sd),some (.ref a),some (.int n),some (.ref fr),none,none,none,none,none]) rfl ?_
 refine jej ?_
 intro _ _ _ _ _ _
 refine ⟨_,rfl,_,_,rfl,rfl,⟨by decide,by decide⟩,_,_,rfl,rfl,(by show (0:Int) < _;decide),_,_,rfl,rfl,_,rfl,_,_,rfl,rfl,.inr ⟨by decide,by decide⟩,_,_,rfl,rfl,⟨by decide,by decide,by decide⟩,_,_,rfl,rfl,.inl ⟨by decide,by decide⟩,_,_,rfl,rfl,(by show (0:Int) < _;decide),_,_,rfl,rfl,⟨by decide,by decide,by decide⟩,_,_,rfl,rfl,sm rfl,fun l1 hl1=>?_⟩
 dsimp only
 have b1:=kI (x:=sd / 6) (y:=7) (by decide)
 have b2:=jgp (sd * 7919)
 have b3:(sd / 6 % 7 - 3).natAbs≤10 ^ 16:=by omega
 generalize sd / 6 % 7 - 3=c1 at *
 generalize sd * 7919 % (2 * 10 ^ Int.toNat 15) - 10 ^ Int.toNat 15=c2 at *
 have s1:=jj hl1 (.lst [V.int c1,V.int c2])
 have e1:upd H l1 (.lst [V.int c1,V.int c2]) l1=some (.lst [V.int c1,V.int c2]):=jg
 generalize upd H l1 (.lst [V.int c1,V.int c2])=H1 at *
 refine ⟨_,rfl,_,_,rfl,rfl,⟨by decide,by decide⟩,_,_,rfl,rfl,(by show (0:Int) < _;decide),?_⟩
 obtain ⟨mo,hmo,bm⟩:=jf4 b3 b2 (i:=sd / 42 % 2) (kI (by decide)).1 (kI (by decide)).2
 refine ⟨l1,_,_,_,rfl,rfl,SqL.of e1,hmo,?_⟩
 refine gQ ?_
 clear hmo e1 hl1
 refine ⟨_,rfl,_,_,rfl,rfl,(by show (0:Int) < _;decide),rfl,_,rfl,?_⟩
 refine zD (fun d=>?ga) (fun d=>?gb)
 case' gb=>
  refine ⟨_,rfl,sm rfl,fun l2 hl2=>?_⟩
  have s2:=jj hl2 (.lst [])
  have e2:upd H1 l2 (.lst []) l2=some (.lst []):=jg
  generalize upd H1 l2 (.lst [])=H2 at *
  have s12:=s1.trans s2
  clear s1 s2 hl2
  refine ⟨fr,l2,_,_,fs.map D.str,[],rfl,rfl,s12 _ _ hf.at_,e2,Nat.le_of_eq (KQ fs),KN fs,jw,_,rfl,zD (fun dd=>?gc) (fun dd=>?gd)⟩
 case' ga=>
  have s12:=s1
  clear s1
  generalize H1=H2 at *
 case' gd=>
  have hfne:fs≠[]:=fun z=>dd (decide_eq_true (by rw [z];rfl))
  have hfpos:0 < fs.length:=List.length_pos_iff.mpr hfne
  refine ⟨_,rfl,sd,3,rfl,fun s3=>?_⟩
  refine ⟨_,rfl,_,rfl,s3,n,a,ws,rfl,hw.mono s12,hn,fun tx td ta H3 t3 gx gd hta=>?_⟩
  refine gQ ?_
  have s13:=s12.trans t3
  refine ⟨_,rfl,sd,4,rfl,fun s4=>?_⟩
  refine ⟨_,rfl,_,rfl,s4,n,a,ws,rfl,hw.mono s13,hn,fun ux ud ua H4 t4 gu ge hua=>?_⟩
  refine gQ ?_
  have s14:=s13.trans t4
  have hta4:=hta.mono t4
  have hf4:=hf.mono s14
  have hw4:=hw.mono s14
  clear t3 t4 hta s12 s13 hf hw e2
  obtain ⟨hml,r,hr',gr⟩:=hf4.get hfpos (sd / 3)
  obtain ⟨_,rr,hq',grr⟩:=hf4.get hfpos (sd / 1512)
  refine ⟨_,rfl,_,rfl,_,_,rfl,rfl,⟨by decide,by decide⟩,_,rfl,fr,_,rfl,.inl (SqL.of hf4.at_),_,_,rfl,rfl,hml,fr,_,_,_,rfl,rfl,SqL.of hf4.at_,hr',?_⟩
  refine gQ ?_
  refine ⟨_,rfl,_,_,rfl,rfl,(by show (0:Int) < _;decide),rfl,_,rfl,zD (fun e=>?ge) (fun e=>?gf)⟩
 case' gf=>
  refine ⟨_,rfl,_,rfl,_,rfl,sm rfl,fun t ht=>?_⟩
  have s5:=jj ht (.tup [V.str "rise",ta,ua,V.str r])
  exact q (.rise tx td ux ud r) _ _ (s14.trans s5) ⟨gx,by omega,gu,by omega,gr⟩ (jP jg (je jA (je (hta4.mono s5) (je (hua.mono s5) (je jA jw)))))
 case' ge=>
  obtain ⟨x0,hx0,o0⟩:=hw4.get (i:=0) (by decide) (by decide)
  obtain ⟨x1,hx1,o1⟩:=hw4.get (i:=1) (by decide) (by decide)
  obtain ⟨x2,hx2,o2⟩:=hw4.get (i:=2) (by decide) (by decide)
  refine ⟨_,rfl,a,_,_,_,rfl,rfl,SqL.of hw4.at_,hx0,_,rfl,a,_,_,_,rfl,rfl,SqL.of hw4.at_,hx1,_,rfl,a,_,_,_,rfl,rfl,SqL.of hw4.at_,hx2,sm rfl,fun l3 hl3=>?_⟩
  have s5:=jj hl3 (.lst [V.str "",V.str x0,V.str x1,V.str x2])
  have e5:upd H4 l3 (.lst [V.str "",V.str x0,V.str x1,V.str x2]) l3=some (.lst [V.str "",V.str x0,V.str x1,V.str x2]):=jg
  generalize upd H4 l3 (.lst [V.str "",V.str x0,V.str x1,V.str x2])=H5 at *
  obtain ⟨z,hz,oz⟩:=Ze o0 o1 o2 (i:=sd / 126 % 4) (kI (by decide)).1 (kI (by decide)).2
  refine ⟨_,rfl,_,_,rfl,rfl,⟨by decide,by decide⟩,_,_,rfl,rfl,(by show (0:Int) < _;decide),l3,_,_,_,rfl,rfl,SqL.of e5,hz,sm rfl,fun t6 ht6=>?_⟩
  have s6:=jj ht6 (.tup [V.str "is",V.str z])
  have e6:upd H5 t6 (.tup [V.str "is",V.str z]) t6=some (.tup [V.str "is",V.str z]):=jg
  generalize upd H5 t6 (.tup [V.str "is",V.str z])=H6 at *
  refine gQ ?_
  have s46:=s5.trans s6
  refine ⟨fun σ G=>∃ o b,σ=[some (.int sd),some (.ref a),some (.int n),some (.ref fr),some (.int mo),some ta,some ua,some (.str r),some (.ref o)]∧Same H6 G∧BdG b∧Held G b.toD (.ref o),?_,?_⟩
  ·refine ⟨_,rfl,_,_,rfl,rfl,⟨by decide,by decide⟩,_,_,rfl,rfl,(by show (0:Int) < _;decide),rfl,_,rfl,zD (fun e=>?_) (fun e=>?_)⟩
   ·have hfr6:=s46 _ _ hf4.at_
    refine ⟨_,rfl,_,rfl,_,_,rfl,rfl,⟨by decide,by decide⟩,_,rfl,fr,_,rfl,.inl (SqL.of hfr6),_,_,rfl,rfl,hml,fr,_,_,_,rfl,rfl,SqL.of hfr6,hq',sm rfl,fun t7 ht7=>?_⟩
    exact ⟨t7,.row rr,rfl,jj ht7 _,grr,jbU ⟨_,_,rfl,jg⟩⟩
   ·exact ⟨t6,.is z,rfl,Same.refl _,oz,jbU ⟨_,_,rfl,e6⟩⟩
  rintro σ G ⟨o,b,rfl,sG,gb,ho⟩
  refine ⟨_,rfl,_,rfl,_,rfl,sm rfl,fun l8 hl8=>?_⟩
  have s8:=jj hl8 (.lst [V.str ">=",V.str "<="])
  have e8:upd G l8 (.lst [V.str ">=",V.str "<="]) l8=some (.lst [V.str ">=",V.str "<="]):=jg
  generalize upd G l8 (.lst [V.str ">=",V.str "<="])=H8 at *
  obtain ⟨way,hway⟩:=jcY (i:=sd / 84 % 2) (kI (by decide)).1 (kI (by decide)).2
  refine ⟨_,rfl,_,_,rfl,rfl,⟨by decide,by decide⟩,_,_,rfl,rfl,(by show (0:Int) < _;decide),l8,_,_,_,rfl,rfl,SqL.of e8,hway,_,rfl,_,rfl,sm rfl,fun t9 ht9=>?_⟩
  have s9:=jj ht9 (.tup [V.str "each",ta,ua,V.str r,V.str way,V.ref o,V.int mo])
  have sZ:=s46.trans (sG.trans (s8.trans s9))
  exact q (.each tx td ux ud r way b mo) _ _ (s14.trans sZ) ⟨gx,by omega,gu,by omega,gr,gb,by omega⟩ (jP jg (je jA (je (hta4.mono sZ) (je (hua.mono sZ) (je jA (je jA (je (ho.mono (s8.trans s9)) (je jK jw))))))))
 all_goals
  refine ⟨_,rfl,sd,1,rfl,fun s3=>?_⟩
  refine ⟨_,rfl,_,rfl,s3,n,a,ws,rfl,hw.mono s12,hn,fun tm u H3 t3 g1 hu=>?_⟩
  refine ⟨_,rfl,sd,2,rfl,fun s4=>?_⟩
  refine ⟨_,rfl,_,rfl,s4,n,a,ws,rfl,hw.mono (s12.trans t3),hn,fun tm2 u2 H4 t4 g2 hu2=>?_⟩
  refine ⟨_,rfl,sm rfl,fun t ht=>?_⟩
  have s5:=jj ht (.tup [V.str "least",u,u2,V.int mo])
  exact q (.least tm tm2 mo) _ _ (s12.trans (t3.trans (t4.trans s5))) ⟨g1,g2,by omega⟩ (jP jg (je jA (je (hu.mono (t4.trans s5)) (je (hu2.mono s5) (je jK jw)))))
end
end LW
namespace L2
open PySem PySem.Spec PyProof.Rows PySem.W
abbrev jbm (P:Program) (w:World) (v:Addr) (σ:List Str):HO:=.ext fun h=>SetAtS P w h v (ledOf w) σ
theorem KW {X:Cx} {P:Program} {w:World} {K:W.Frag} (hc:X.calm=true) (h1:X.prog=P:=by rfl) (h2:X.w=w:=by rfl) (h3:X.K=K:=by rfl):qt X (.type "set") (fun xs H Q=>∃ (p:Addr) (ns:List Str),xs=[.ref p]∧SqL K H p (ns.map V.str)∧ns.length≤1000∧∀ v,H v=none→Q (.ref v) (upd H v (jbm P w v (dedupS ns)))):=by subst h1 h2 h3;exact K5 hc
theorem lt_trans {a b c:List Nat} (h1:ltCps a b=true) (h2:ltCps b c=true):ltCps a c=true:=by
 induction a generalizing b c with
 | nil=>cases c with
  | nil=>cases b <;> simp [ltCps] at h1 h2
  | cons _ _=>rfl
 | cons x a ih=>
  cases b with
  | nil=>simp [ltCps] at h1
  | cons y b=>cases c with
   | nil=>simp [ltCps] at h2
   | cons z c=>
    simp only [ltCps,Bool.or_eq_true,Bool.and_eq_true,decide_eq_true_eq,beq_iff_eq] at h1 h2 ⊢
    rcases h1 with h1 | ⟨h1,h1'⟩
    ·rcases h2 with h2 | ⟨h2,h2'⟩
     ·left;omega
     ·left;omega
    ·rcases h2 with h2 | ⟨h2,h2'⟩
     ·left;omega
     ·right;exact ⟨by omega,ih h1' h2'⟩
theorem KY {X:Cx} {P:Program} {w:World} (h1:X.prog=P:=by rfl) (h2:X.w=w:=by rfl):qt X (.builtin "len") (fun xs H Q=>∃ (p:Addr) (τ:List Str),xs=[.ref p]∧H p=some (jbm P w p τ)∧τ.length≤1000∧Q (.int τ.length) H):=by
 subst h1 h2
 intro pins s σ H xs us Q I r h
 obtain ⟨p,τ,rfl,hp,hn,q⟩:=h
 obtain ⟨u,rfl,rx⟩:=zz r
 cases rx
 obtain ⟨⟨es,ep,t,ho,hel,⟨l0,hI0,hp0⟩,hb,hf,ht⟩,_⟩:=I.hok p _ hp
 have hz:es.size=τ.length:=by
  have h1:=hI0.length
  rw [List.length_map,Array.length_toList] at h1
  rw [h1,hp0.length_eq]
 refine PySem.call_len_set ho ⟨rfl,rfl,rfl⟩ rfl hf (by omega) ⟨.int τ.length,H,?_,⟨_,by rw [← hz]⟩,q⟩
 exact (I.tok _).tok _
end L2
namespace PySem.W
open PySem PySem.Calls PyProof.Rows PyProof.V PySem.Spec
section
variable {prog:Program} {w:World} {A:Around} {E:Value→Shared→Prop} {s:Shared} {T:String} {r d:Addr} {n:Nat} {P:Nat→Value→Prop} {OK:Heap→Prop}
theorem jeh {R:Result→Shared→Prop} (K:KdlSrc prog w T r d n P OK) (hh:A.handled=none) (hok:OK s.heap) (hn:n≤sizeLine) (S:Addr) (hSr:S≠r) (hSd:S≠d) (c₀:Nat) (hS:s.heap.get? S=some { cls:=.type "list",data:=.seq #[] c₀ })
  (hR:∀ h' tk acc' c',(∀ b o,b≠S→s.heap.get? b=some o→h'.get? b=some o)→h'.get? S=some { cls:=.type "list",dict:=none,data:=.seq acc' c',slots:=#[] }→ItemsOf P acc' n→R (.ok (.ret (.ref S))) { s with heap:=h',toks:=tk }) :
  codeAny (model prog w) A (.builtin "list.__iadd__" ⟨[.ref S,.ref r],[]⟩) R s:=by
 refine codeAny_builtin F.entry_list_iadd ?_
 rw [Around.under_plainId F.plain_list_iadd _]
 exact kdl_extend K hh hok S hSr hSd _ c₀ hS hR hn
theorem jad {Q:List Value→Shared→Prop} (K:KdlSrc prog w T r d n P OK) (hh:A.handled=none) (hok:OK s.heap) (hn:n≤sizeLine)
  (hQ:∀ h' tk acc,(∀ b o,s.heap.get? b=some o→h'.get? b=some o)→ItemsOf P acc n→Q acc.toList { s with heap:=h',toks:=tk }) :
  wpAny (model prog w) A (collect (.ref r)) Q E s:=by
 have hlt:=K.there _ hok
 unfold collect
 refine wpAny_bind (wpAny_runValue (codeAny_builtin F.entry_proto_collect ?_))
 rw [Around.under_plainId F.plain_proto_collect _]
 show wpAny _ A.in1 (newList [] >>= fun l=>again (.builtin "list.__iadd__" ⟨[l,.ref r],[]⟩)) _ _ s
 refine wpAny_bind (wpAny_newObj_type ?_)
 have hS:(s.heap.push { cls:=.type "list",data:=.seq ([]:List Value).toArray }).get? s.heap.objs.size=some { cls:=.type "list",data:=.seq #[] 0 }:=Heap.get?_push_size _ rfl
 refine wpAny_pure ⟨plainId_quiet F.plain_list_iadd _,jeh (A:=A) (s:=({ s with heap:=s.heap.push { cls:=.type "list",data:=.seq ([]:List Value).toArray } }:Shared)) K hh (K.keep _ _ hok fun b _ o e=>Heap.get?_push_of_some _ e) hn s.heap.objs.size (Nat.ne_of_gt hlt.1) (Nat.ne_of_gt hlt.2) 0 hS fun h' tk acc' c' hk hS' hacc=>?_⟩
 show wpAny _ A (load s.heap.objs.size >>= _) _ _ _
 refine wpAny_bind (wpAny_load hS' ?_)
 exact wpAny_pure (hQ h' tk acc' (fun b o e=>hk b o (Nat.ne_of_lt (Heap.lt_size e)) (Heap.get?_push_of_some _ e)) hacc)
end
end PySem.W
namespace L2
open PySem PySem.Spec PyProof.Rows PySem.W
theorem jh1 {P:Program} {w:World} {k:Key} {v:Value} (h:(j3 P w).is k v=true):RelV (kV k) v:=by
 rw [jaB] at h
 rcases km h with ⟨i,t,rfl,rfl⟩ | ⟨x,t,rfl,rfl⟩
 ·exact ⟨t,rfl⟩
 ·exact ⟨t,rfl⟩
theorem Z1 {P:Program} {w:World}:∀ {kvs:List (Key×V)} {vs:List (Key×Value)} {us:List Value},KV kvs vs→us.length=vs.length→(∀ (j:Nat) (v:Value),us[j]?=some v→∃ k x,vs[j]?=some (k,x)∧(j3 P w).is k v=true)→Vals ((kvs.map (·.1)).map kV) us
 | [],[],us,_,hl,_=>by cases us with
  | nil=>exact .nil
  | cons _ _=>cases hl
 | p :: r,q :: t,[],_,hl,_=>by cases hl
 | p :: r,q :: t,u :: us,h,hl,hs=>by
  unfold KV at h
  cases h with
  | cons h1 h2=>
   obtain ⟨k,x,e,z⟩:=hs 0 u rfl
   have e:q=(k,x):=Option.some.inj e
   refine .cons ?_ (Z1 h2 (Nat.succ.inj hl) fun j v e=>hs (j+1) v e)
   have e5:p.1=k:=h1.1.trans (by rw [e])
   show RelV (kV p.1) u
   rw [e5]
   exact jh1 z
theorem zW {X:Cx} (hc:X.calm=true):qt X (.type "list") (fun xs H Q=>∃ (d:Addr) (kvs:List (Key×V)),xs=[.ref d]∧H d=some (.dK kvs)∧∀ l,H l=none→Q (.ref l) (upd H l (.lst ((kvs.map (·.1)).map kV)))):=by
 intro pins s σ H xs us Q I r h
 obtain ⟨d,kvs,rfl,hd,q⟩:=h
 obtain ⟨u,rfl,rx⟩:=zz r
 cases rx
 obtain ⟨hz,lo,vs,rel,hD⟩:=I.hok d _ hd
 obtain ⟨ep,hat⟩:=hD.dictAt
 have hlen:kvs.length=vs.length:=rel.length
 refine kdl_call (kdl_dict (knd:=j3 X.prog X.w) (kvs:=vs) (ep:=ep) lo) (I.ok.hd hc) hat (by rw [← hlen];exact hz) fun h' tk acc c hk hl ha=>?_
 refine ⟨.ref s.heap.objs.size,_,I.laid (t':=tk) hk (Nat.le_refl _) (show ObjOk X.prog X.w _ _ _ (.lst ((kvs.map (·.1)).map kV)) from ⟨by rw [List.length_map,List.length_map];exact hz,acc.toList,c,Z1 rel (by rw [Array.length_toList];exact ha.1) (fun j v e=>ha.2 j v (by rw [← Array.getElem?_toList];exact e)),by rw [Array.toArray_toList];exact hl⟩),rfl,q _ (I.hok.fresh (Nat.le_refl _))⟩
theorem zn {X:Cx} {n:Nat} (hc:X.calm=true) (hu:X.A.units+3+n < cLine):qt X (.builtin "sorted") (fun xs H Q=>∃ (v d:Addr) (kvs:List (Key×V)) (ps:List (D×Addr)),xs=[.ref v]∧H v=some (kZ v d)∧H d=some (.dK kvs)∧kvs.map (·.2)=(ps.map (·.2)).map V.ref∧(∀ q∈ps,Held H q.1 (.ref q.2))∧SortT (ps.map (·.1)) n∧ps.length≤1000∧
  ∀ (l:Addr) (qs:List (D×Addr)),H l=none→qs.Perm ps→(qs.map (·.1)).Pairwise (fun a b=>dLt b a=false)→Q (.ref l) (upd H l (.lst ((qs.map (·.2)).map V.ref)))):=by
 intro pins s σ H xs us Q I r h
 obtain ⟨v,d,kvs,ps,rfl,hv,hd,hps,hk,hS,most,q⟩:=h
 obtain ⟨u,rfl,rx⟩:=zz r
 cases rx
 obtain ⟨hz,lo,vs,rel,hD⟩:=I.hok d _ hd
 obtain ⟨hview,_⟩:=I.hok v _ hv
 obtain ⟨ep,hat⟩:=hD.dictAt
 have hlen:kvs.length=vs.length:=rel.length
 have ev:vs.map (·.2)=ps.map fun p=>Value.ref p.2:=by
  have:=jbD rel
  rw [hps] at this
  rw [Jt this,List.map_map]
  rfl
 refine Calls.call_function_entry kind_sorted plain_sorted entry_sorted (args_sorted1 _) ?_
 unfold Builtin.«sorted»
 refine wpAny_bind (m:=checkCount "sorted" 1 1 _) (wpAny_pure (wpAny_bind (jad (A:=X.A.in1) (kdl_values (knd:=j3 X.prog X.w) (kvs:=vs) (ep:=ep)) (show X.A.in1.handled=none from I.ok.hd hc) ⟨hview,hat⟩ (by rw [← hlen];exact hz) fun h' tk acc hkp ha=>?_)))
 have eacc:acc.toList=ps.map fun p=>Value.ref p.2:=by
  rw [← ev]
  apply List.ext_getElem?
  intro j
  rw [List.getElem?_map]
  by_cases hj:j < acc.size
  ·have e1:acc[j]?=some acc[j]:=by simp [hj]
   obtain ⟨k,e2⟩:=ha.2 j _ e1
   rw [e2]
   simp [hj]
  ·have h1:acc.toList[j]?=none:=List.getElem?_eq_none (by simp;omega)
   have h2:vs[j]?=none:=List.getElem?_eq_none (by have:=ha.1;omega)
   rw [h1,h2]
   rfl
 generalize acc.toList=vals at *
 subst eacc
 have hl:(ps.map fun p=>Value.ref p.2).length=ps.length:=List.length_map _
 have I1:Inv X pins σ H { s with heap:=h',toks:=tk }:=I.kept hkp
 refine wpAny_bind (wpAny_newList ?_ (by rw [hl];exact Nat.le_trans most Jd))
 have hoL:(h'.push (seqObj "list" (ps.map fun p=>Value.ref p.2).toArray 0)).get? h'.objs.size=some (seqObj "list" (ps.map fun p=>Value.ref p.2).toArray 0):=Heap.get?_push_size _ rfl
 have kt:∀ b xs,h'.IsTuple b xs→(h'.push (seqObj "list" (ps.map fun p=>Value.ref p.2).toArray 0)).IsTuple b xs:=fun b xs ⟨o,z1,z2⟩=>⟨o,Heap.get?_push_of_some _ z1,z2⟩
 have hT:∀ q∈ps,TrAt (h'.push (seqObj "list" (ps.map fun p=>Value.ref p.2).toArray 0)) q.1 (.ref q.2):=fun q hq=>(J4 I1 (u:=.ref q.2) (hk q hq) rfl).kept kt
 have hI:TrAtL (h'.push (seqObj "list" (ps.map fun p=>Value.ref p.2).toArray 0)) (ps.map (·.1)) (ps.map fun p=>Value.ref p.2):=Kl (qs:=ps) hT
 refine wpAny_bind (wpAny_holding (wpAny_call_entry slot_list_sort ⟨_,hoL,rfl⟩ entry_list_sort (JP (n:=n) hoL hI hS (by show X.A.units+1+1+n < cLine;omega) (by omega) fun out ms a0 a1 a2 a3=>⟨_,rfl,wpAny_pure ⟨_,rfl,?_⟩⟩) (args_list_sort _)))
 obtain ⟨qs,q1,q2⟩:=Yr (f:=fun p:D×Addr=>Value.ref p.2) a0.symm rfl
 have em:ms=qs.map (·.1):=trL_inj a1 (by
  have:=Kl (qs:=qs) fun q hq=>hT q (q1.mem_iff.mp hq)
  rw [q2] at this
  exact this)
 rw [em] at a3
 obtain ⟨e,he⟩:=sortedHeap_at (out:=out) hoL
 refine ⟨.ref h'.objs.size,_,I1.laid (t':=tk) (a:=h'.objs.size) (fun b o hb=>?_) (Nat.le_refl _) (show ObjOk X.prog X.w _ _ _ (.lst ((qs.map (·.2)).map V.ref)) from ⟨?_,_,e,JC _,?_⟩),rfl,q _ qs (I1.hok.fresh (Nat.le_refl _)) q1 a3⟩
 ·have hlt:=Heap.lt_size hb
  rw [sortedHeap_old (Nat.ne_of_lt hlt) (by rw [size_push'];exact Nat.lt_succ_of_lt hlt)]
  exact Heap.get?_push_of_some _ hb
 ·rw [List.length_map,List.length_map,q1.length_eq]
  exact Nat.le_trans most Jd
 ·have:((qs.map (·.2)).map Value.ref).toArray=out:=by
   rw [List.map_map]
   show (qs.map fun p=>Value.ref p.2).toArray=out
   rw [q2,Array.toArray_toList]
  rw [this]
  exact he
end L2
namespace LW
open PySem L2
abbrev qB:Stmt:=top 49
def Ko (K:W.Frag):Sp:=fun vs H Q _=>∃ (cs:Addr) (ns:List Int) (near:Int) (a:Addr) (ws:List Str),vs=[.ref cs,.ref a,.int near]∧SqL K H cs (ns.map V.int)∧ns.length≤40∧Ws H a ws∧near.natAbs≤10 ^ 17∧
 ∀ (l:Addr) (R:List Rw) (rs:List V) (H':Hp),Same H H'→H l=none→H' l=some (.lst rs)→HeldL H' (R.map Rw.toD) rs→R.length≤40→(∀ r∈R,RwG r)→Q (.ref l) H'
def SInv (H:Hp) (l p:Addr) (i:Nat) (G:Hp):Prop:=Same H G∧∃ (R:List Rw) (rs:List V) (kvs:List (Key×V)),G l=some (.lst rs)∧HeldL G (R.map Rw.toD) rs∧R.length≤i∧(∀ r∈R,RwG r)∧G p=some (.dK kvs)∧kvs.length≤i
theorem zb {K:W.Frag} {H G:Hp} {a:Addr} {xs:List V} (h:SqL K H a xs) (s:Same H G):SqL K G a xs:=by
 rcases h with (h | ⟨o,h⟩) | h
 ·exact .inl (.inl (s _ _ h))
 ·exact .inl (.inr ⟨o,s _ _ h⟩)
 ·exact .inr h
theorem jid {ws:List Str} (h:ws.length=6):qZ (ws.map V.str) (some 3) none=(ws.drop 3).map V.str:=by
 match ws,h with
 | [a,b,c,d,e,f],_=>rfl
theorem jaK {H:Hp} {a:Addr} {xs ys:List V} {ds:List D} {vs:List V} (h:HeldL H ds vs) (e:H a=some (.lst xs)):HeldL (upd H a (.lst ys)) ds vs:=
 TK.heldL (fun b zs eb=>jo (jD eb e (by intro z;cases z)) eb) h
section
variable {P:Program} {w:World} {K:W.Frag} {mg:Str→Option Value} {base:Heap}
theorem ZT {f:Addr} {fd:FuncData} (F:Fun K "_law_straight" "_law_straight" qB f fd) (B:Free0 mg) (Z_enumerate:mg "enumerate" = none) (F_mix:Fn P w K mg base 1 "_law_mix" ["_law_seed","_law_k"] jbg) (F_claim:Fn P w K mg base 3 "_law_claim" ["_law_seed","_law_w","_law_near","_law_free"] Ks) (F_drawn:Fn P w K mg base 3 "_law_drawn" ["_law_seed","_law_w","_law_near"] jbi):FnOk P w K mg base CX0 4 f fd ["_law_cells","_law_w","_law_near"] (Ko K):=by
 have sc:FnScope ["_law_cells","_law_w","_law_near","_law_straight_here","_law_put","_law_k","_law_cell","_law_seed","_law_free","_law_row"] ["_law_cells","_law_w","_law_near"] (jp qB):=fQ
 refine F.okZ sc (fun vs H Q E h=>?_) (fun cdv A outer s H vs Q E hr h=>?_)
 ·obtain ⟨cs,ns,n,a,ws,rfl,_⟩:=h
  rfl
 have hu:(A.deeper (PyProof.Rows.envOfC "_law_straight" (jp qB) s.heap.objs.size f cdv)).units+1 < cLine:=by have:=hr.units;omega
 obtain ⟨cs,ns,near,a,ws,rfl,hcs,hnl,hw,hn,q⟩:=h
 refine ⟨_,(jd (jv (i:=3) sc.nd rfl oQ (jY jb))
   (jd (jv (i:=4) sc.nd rfl oQ kK)
   (jd (zY PassesOwn.never rfl (Kc (by rfl) Z_enumerate (ja (zpv 0) jb)) (kU rfl (jE (jC (i:=5) sc.nd rfl oQ) (jE (jC (i:=6) sc.nd rfl oQ) kD))) (jd (jv (i:=7) sc.nd rfl oQ (ji F_mix hr (ja (jq jR (zpv 6) jc) (ja (zpv 5) jb))))
   (jh (jL (jy j8 (jq jR (jq jU (zpv 7) jc) jc) jc (jH _)) (jd (zF (i:=8) sc.nd rfl oQ ["_law_r"] [4] rfl (yl (sc:=jp qB) (N:=["_law_cells","_law_w","_law_near","_law_straight_here","_law_put","_law_k","_law_cell","_law_seed","_law_free","_law_row"]) rfl rfl (by decide +kernel)) (zG (qf YW (zpv 1) (qp jc) q8)) (fun s H ex=>⟨(jC (i:=0) (show List.Nodup (["_law_r","_law_put"]:List Str) by decide +kernel) rfl oQ),(jcI (jeH (jag hu (zpv 0) (zpv 1)))),(zpv 0)⟩))
   (jh (jz (ko PySem.F.plainAttrs_list PySem.F.slot_list_append PySem.F.type_list_append j0 (zpv 3) (ja (jW (ja jl (ja (ji F_claim hr (ja (ji F_mix hr (ja (zpv 7) (ja jc jb))) (ja (zpv 1) (ja (zpv 2) (ja (zpv 8) jb))))) jb))) jb))))) (jd (jv (i:=9) sc.nd rfl oQ (ji F_drawn hr (ja (ji F_mix hr (ja (zpv 7) (ja jc jb))) (ja (zpv 1) (ja (zpv 2) jb)))))
   (jd (jz (ko PySem.F.plainAttrs_list PySem.F.slot_list_append PySem.F.type_list_append j0 (zpv 3) (ja (zpv 9) jb)))
   (jd (jL (jy j8 (jm ju (zpv 9) jc (fun _ _=>rfl)) jl (jH _)) (jh (kg hu (zpv 4) (jm ju (zpv 9) jc (fun _ _=>rfl)) qY rfl)) jG)
   (jh (jL (jy j8 (jm ju (zpv 9) jc (fun _ _=>rfl)) jl (jH _)) (jh (jz ⟨jdK (zpv 4).h (jm ju (zpv 9) jc (fun _ _=>rfl)).h qY.h ⟨rfl,rfl,rfl,rfl⟩⟩)) jG)))))))))
   (jh (jx (zpv 3)))))),?_⟩
 refine jI (σ':=[some (.ref cs),some (.ref a),some (.int near),none,none,none,none,none,none,none]) rfl ?_
 refine ⟨sm rfl,fun l hl=>?_⟩
 have s1:=jj hl (.lst [])
 have e1:upd H l (.lst []) l=some (.lst []):=jg
 generalize upd H l (.lst [])=H1 at *
 refine fun p hp=>?_
 have s2:=jj hp (.dK [])
 have e2:upd H1 p (.dK []) p=some (.dK []):=jg
 have e1':=s2 _ _ e1
 have npl:l≠p:=jt e1 hp
 have hp0:H p=none:=s1.free hp
 generalize upd H1 p (.dK [])=H2 at *
 have s12:=s1.trans s2
 refine gQ ?_
 refine ⟨_,rfl,cs,rfl,⟨_,zb hcs s12⟩,?_⟩
 let Pv:Nat→L2.St→Hp→Prop:=fun i σ G=>∃ u5 u6 u7 u8 u9,σ=[some (.ref cs),some (.ref a),some (.int near),some (.ref l),some (.ref p),u5,u6,u7,u8,u9]∧SInv H l p i G
 refine KP (xs:=ns.map V.int) Pv ⟨none,none,none,none,none,rfl,s12,[],[],[],e1',jw,Nat.le_refl _,fun _ z=>(nomatch z),e2,Nat.le_refl _⟩ ?_ ?_ ?_
 ·rintro i σ G _ ⟨u5,u6,u7,u8,u9,rfl,sG,_⟩
  exact zb hcs sG
 ·rintro i y σ G t hy ⟨u5,u6,u7,u8,u9,rfl,sG,R,rs,kvs,hGl,hR,hRl,hRG,hGp,hkl⟩ ht
  obtain ⟨c,rfl⟩:∃ c,y=.int c:=by
   rw [List.getElem?_map] at hy
   obtain ⟨c,_,e⟩:=Option.map_eq_some_iff.mp hy
   exact ⟨c,e.symm⟩
  have hi:i < 40:=by
   have:=(List.getElem?_eq_some_iff.mp hy).1
   rw [List.length_map] at this
   omega
  have s3:=jj ht (.tup [.int i,.int c])
  have e3:upd G t (.tup [.int i,.int c]) t=some (.tup [.int i,.int c]):=jg
  generalize upd G t (.tup [.int i,.int c])=G1 at *
  have sG1:=sG.trans s3
  have hGl1:=s3 _ _ hGl
  have hGp1:=s3 _ _ hGp
  have hR1:=hR.mono s3
  refine ⟨t,_,rfl,SqT.of e3,rfl,_,_,rfl,_,_,rfl,rfl,?_⟩
  refine gQ ?_
  refine ⟨_,rfl,_,_,rfl,rfl,(by show (0:Int) < _;decide),_,rfl,_,_,rfl,fun sd=>?_⟩
  refine gQ ?_
  refine ⟨_,rfl,_,_,rfl,rfl,⟨by decide,by decide⟩,_,_,rfl,rfl,(by show (0:Int) < _;decide),rfl,_,rfl,zD (fun d=>?_) (fun d=>?_)⟩
  ·have hw1:=hw.mono sG1
   refine ⟨_,rfl,_,rfl,a,_,rfl,SqL.of hw1.at_,fun p5 h5=>⟨p5,rfl,⟨_,SqL.of jg⟩,fun lf hlf=>?_⟩⟩
   rw [jid hw1.len] at hlf ⊢
   have s5:=jj h5 (.lst ((ws.drop 3).map V.str))
   have e5:upd G1 p5 (.lst ((ws.drop 3).map V.str)) p5=some (.lst ((ws.drop 3).map V.str)):=jg
   generalize upd G1 p5 (.lst ((ws.drop 3).map V.str))=G2 at *
   have s6:=jj hlf (.lst [])
   have hGp2:=s5 _ _ hGp1
   have hd6:(ws.drop 3).length=3:=by rw [List.length_drop,hw1.len]
   refine JK (xs:=(ws.drop 3).map V.str) (fun j σ' G'=>∃ (u:Option V) (fs:List Str),σ'=[u,some (.ref p)]∧Same G2 G'∧G' lf=some (.lst (fs.map V.str))∧fs.length≤j∧∀ x∈fs,Wd x) ⟨none,[],rfl,s6,jg,Nat.le_refl _,fun _ z=>(nomatch z)⟩ ?_ ?_ ?_
   ·rintro j σ' G' _ ⟨u,fs,rfl,sG',_⟩
    exact SqL.of (sG' _ _ e5)
   ·rintro j x σ' G' hx ⟨u,fs,rfl,sG',hGf,hfl,hfo⟩
    have hj:j < 3:=by
     have:=(List.getElem?_eq_some_iff.mp hx).1
     rw [List.length_map,hd6] at this
     exact this
    obtain ⟨z,rfl,hz⟩:∃ z,x=.str z∧Wd z:=by
     rw [List.getElem?_map] at hx
     obtain ⟨z,hz,e⟩:=Option.map_eq_some_iff.mp hx
     exact ⟨z,e.symm,hw.ok z (List.mem_of_mem_drop (List.mem_of_getElem? hz))⟩
    unfold qd
    refine ⟨_,rfl,_,rfl,p,_,rfl,.k (k:=.inr z) (sG' _ _ hGp2),_,rfl,?_⟩
    refine zD (fun c=>?_) (fun c=>?_)
    ·refine ⟨_,rfl,_,hGf,jJ (by rw [List.length_map];omega),_,fs++[z],rfl,fun b o e=>?_,?_,by rw [List.length_append];exact Nat.succ_le_succ hfl,fun y hy=>?_⟩
     ·rw [jB (jt e hlf)]
      exact sG' _ _ e
     ·rw [jg,List.map_append]
      rfl
     ·rcases List.mem_append.mp hy with hy | hy
      ·exact hfo y hy
      ·cases List.mem_singleton.mp hy
       exact hz
    ·exact ⟨_,fs,rfl,sG',hGf,Nat.le_succ_of_le hfl,hfo⟩
   rintro σ' G3 ⟨u,fs,rfl,sG3,hG3,hfl,hfo⟩
   have hfl:fs.length≤6:=by rw [List.length_map,hd6] at hfl;omega
   refine gQ ?_
   have s13:=s5.trans sG3
   have hGl3:=s13 _ _ hGl1
   refine ⟨_,rfl,.inl ⟨rfl,_,SqL.of hGl3⟩,?_⟩
   refine ⟨_,rfl,sd,1,rfl,fun s3'=>?_⟩
   refine ⟨_,rfl,_,rfl,_,rfl,s3',near,a,lf,ws,fs,rfl,(hw1.mono s13),hn,⟨hG3,hfl,hfo⟩,fun k v G4 s4 gk hv=>⟨sm rfl,fun t2 ht2=>?_⟩⟩
   have s7:=jj ht2 (.tup [V.str "know",v])
   have e7:upd G4 t2 (.tup [V.str "know",v]) t2=some (.tup [V.str "know",v]):=jg
   generalize upd G4 t2 (.tup [V.str "know",v])=G5 at *
   have s15:=s13.trans (s4.trans s7)
   have sA:=sG1.trans s15
   refine ⟨l,rs,_,rfl,rfl,s15 _ _ hGl1,jJ (by rw [← hR.length,List.length_map];omega),?_⟩
   exact ⟨_,_,_,_,_,rfl,fun b o e=>jo (jt e hl) (sA _ _ e),R++[.know k],_,kvs,jg,by
    rw [List.map_append]
    exact jaK (kT (hR1.mono s15) (je (jP e7 (je jA (je (hv.mono s7) jw))) jw)) (s15 _ _ hGl1),by rw [List.length_append];exact Nat.succ_le_succ hRl,fun r hr=>(List.mem_append.mp hr).elim (hRG r) fun z=>by cases List.mem_singleton.mp z;exact gk,jo npl.symm (s15 _ _ hGp1),Nat.le_succ_of_le hkl⟩
  ·have hw1:=hw.mono sG1
   refine ⟨_,rfl,sd,2,rfl,fun s3'=>⟨_,rfl,_,rfl,s3',near,a,ws,rfl,hw1,hn,fun r v G4 s4 gr nk hv=>?_⟩⟩
   refine gQ ?_
   have hGl4:=s4 _ _ hGl1
   have hGp4:=s4 _ _ hGp1
   have sA:=sG1.trans s4
   refine ⟨_,rfl,.inl ⟨rfl,_,SqL.of hGl4⟩,_,rfl,l,rs,_,rfl,rfl,hGl4,jJ (by rw [← hR.length,List.length_map];omega),?_⟩
   have s5:Same H (upd G4 l (.lst (rs++[v]))):=fun b o e=>jo (jt e hl) (sA _ _ e)
   have k5:TK G4 (upd G4 l (.lst (rs++[v]))):=fun b zs eb=>jo (jD eb hGl4 (by intro z;cases z)) eb
   have hl5:upd G4 l (.lst (rs++[v])) l=some (.lst (rs++[v])):=jg
   have hp5:upd G4 l (.lst (rs++[v])) p=some (.dK kvs):=jo npl.symm hGp4
   have hR5:=kT (k5.heldL (hR1.mono s4)) (je (k5.held hv) jw)
   have hv5:=k5.held hv
   generalize upd G4 l (.lst (rs++[v]))=G5 at *
   have hR5':HeldL G5 ((R++[r]).map Rw.toD) (rs++[v]):=by rw [List.map_append];exact hR5
   have hRl5:(R++[r]).length≤i+1:=by rw [List.length_append];exact Nat.succ_le_succ hRl
   have hRG5:∀ q∈R++[r],RwG q:=fun q hq=>(List.mem_append.mp hq).elim (hRG q) fun z=>by cases List.mem_singleton.mp z;exact gr
   have nx0:∀ u9,Pv (i+1) [some (.ref cs),some (.ref a),some (.int near),some (.ref l),some (.ref p),some (.int i),some (.int c),some (.int sd),u8,u9] G5:=fun u9=>⟨_,_,_,_,_,rfl,s5,_,_,kvs,hl5,hR5',hRl5,hRG5,hp5,Nat.le_succ_of_le hkl⟩
   have nxp:∀ u9 kv2,kv2.length≤i+1→Pv (i+1) [some (.ref cs),some (.ref a),some (.int near),some (.ref l),some (.ref p),some (.int i),some (.int c),some (.int sd),u8,u9] (upd G5 p (.dK kv2)):=fun u9 kv2 hk2=>⟨_,_,_,_,_,rfl,fun b o e=>jo (jt e hp0) (s5 _ _ e),_,_,kv2,jo npl hl5,TK.heldL (fun b zs eb=>jo (jD eb hp5 (by intro z;cases z)) eb) hR5',hRl5,hRG5,jg,hk2⟩
   clear_value Pv
   rcases r with ⟨x,tm,k'⟩ | ⟨r,x,d,tm,k'⟩ | ⟨x⟩ | ⟨r⟩ | ⟨C⟩
   ·obtain ⟨b,y0,y1,y2,y3,rfl,hb,h0,h1,h2,h3⟩:=zR hv5
    cases js h0
    refine ⟨_,rfl,b,_,_,_,rfl,rfl,SqT.of hb,jf (j:=0) rfl,rfl,_,rfl,kh ?_⟩
    exact ⟨_,rfl,b,_,_,_,rfl,rfl,SqT.of hb,jf (j:=0) rfl,rfl,_,rfl,kh (nx0 _)⟩
   ·obtain ⟨b,y0,y1,y2,y3,y4,rfl,hb,h0,h1,h2,h3,h4⟩:=Jh hv5
    cases js h0
    cases js h1
    refine ⟨_,rfl,b,_,_,_,rfl,rfl,SqT.of hb,jf (j:=0) rfl,rfl,_,rfl,kO ?_⟩
    refine ⟨_,rfl,_,rfl,b,_,_,_,rfl,rfl,SqT.of hb,jf (j:=1) rfl,p,_,rfl,.k (k:=.inr r) hp5 (jJ (by omega)),?_⟩
    have hb6:upd G5 p (.dK (kc kvs (.inr r) (.bl true))) b=_:=jo (jD hb hp5 (by intro z;cases z)) hb
    exact ⟨_,rfl,b,_,_,_,rfl,rfl,SqT.of hb6,jf (j:=0) rfl,rfl,_,rfl,kh (nxp _ _ (Nat.le_trans (ky _ _ _) (Nat.succ_le_succ hkl)))⟩
   ·obtain ⟨b,y0,y1,rfl,hb,h0,h1⟩:=ql hv5
    cases js h0
    refine ⟨_,rfl,b,_,_,_,rfl,rfl,SqT.of hb,jf (j:=0) rfl,rfl,_,rfl,kh ?_⟩
    exact ⟨_,rfl,b,_,_,_,rfl,rfl,SqT.of hb,jf (j:=0) rfl,rfl,_,rfl,kh (nx0 _)⟩
   ·obtain ⟨b,y0,y1,rfl,hb,h0,h1⟩:=ql hv5
    cases js h0
    cases js h1
    refine ⟨_,rfl,b,_,_,_,rfl,rfl,SqT.of hb,jf (j:=0) rfl,rfl,_,rfl,kh ?_⟩
    refine ⟨_,rfl,b,_,_,_,rfl,rfl,SqT.of hb,jf (j:=0) rfl,rfl,_,rfl,kO ?_⟩
    exact ⟨_,rfl,p,rfl,.inl ⟨_,.inl hp5⟩,_,rfl,b,_,_,_,rfl,rfl,SqT.of hb,jf (j:=1) rfl,kvs,.inr r,hp5,rfl,fun v e=>nxp _ _ (Nat.le_succ_of_le (Nat.le_trans (List.length_filter_le _ _) hkl)),fun e=>nx0 _⟩
   ·exact absurd rfl (nk C)
 ·rintro σ G ⟨u5,u6,u7,u8,u9,rfl,sG,R,rs,kvs,hGl,hR,hRl,hRG,_⟩
  rw [List.length_map] at hRl
  exact ⟨_,rfl,q l R rs G sG hl hGl hR (by omega) hRG⟩
end
end LW
namespace L2
open PySem PySem.Spec PyProof.Rows
def jT (os:List Addr) (K:W.Frag):W.Frag:=K.filter fun p=>!os.contains p.1
theorem Jj {os:List Addr} {b:Addr} (h:b∈os):∀ K:W.Frag,(jT os K).lookup b=none
 | []=>rfl
 | (c,o) :: K=>by
  unfold jT
  rw [List.filter_cons]
  by_cases z:os.contains c=true
  ·rw [if_neg (by simp only [z];decide)]
   exact Jj h K
  ·rw [if_pos (by simp only [Bool.not_eq_true] at z;simp only [z];decide),List.lookup_cons]
   have:(b == c)=false:=by
    rw [beq_eq_false_iff_ne]
    intro e
    rw [← e] at z
    exact z (List.contains_iff_mem.mpr h)
   rw [this]
   exact Jj h K
theorem zk {os:List Addr} {b:Addr} (h:b ∉ os):∀ K:W.Frag,(jT os K).lookup b=K.lookup b
 | []=>rfl
 | (c,o) :: K=>by
  unfold jT
  rw [List.filter_cons]
  by_cases z:os.contains c=true
  ·rw [if_neg (by simp only [z];decide),List.lookup_cons]
   have:(b == c)=false:=by
    rw [beq_eq_false_iff_ne]
    intro e
    rw [← e] at z
    exact h (List.contains_iff_mem.mp z)
   rw [this]
   exact zk h K
  ·rw [if_pos (by simp only [Bool.not_eq_true] at z;simp only [z];decide),List.lookup_cons,List.lookup_cons]
   cases b == c
   ·exact zk h K
   ·rfl
theorem Z8 {os:List Addr} {K:W.Frag} {b:Addr} {o:Obj} (e:(jT os K).lookup b=some o):b ∉ os∧K.lookup b=some o:=by
 by_cases h:b∈os
 ·rw [Jj h] at e;cases e
 ·exact ⟨h,(zk h K).symm.trans e⟩
def jeD:Value→V
 | .int i _=>.int i
 | .str s _=>.str s
 | .ref a=>.ref a
 | .bool b=>.bl b
 | _=>.non
def TupsF (K:W.Frag) (os:List Addr):Prop:=∀ b∈os,∃ od its n sl,K.lookup b=some ⟨.type "tuple",od,.seq its n,sl⟩∧its.size≤1000∧Vals (its.toList.map jeD) its.toList
section
variable {K:W.Frag} {os:List Addr}
theorem TupsF.or (hs:TupsF K os) (b:Addr):(jT os K).lookup b=K.lookup b∨((jT os K).lookup b=none∧∃ od its n sl,K.lookup b=some ⟨.type "tuple",od,.seq its n,sl⟩):=by
 by_cases h:b∈os
 ·obtain ⟨od,its,n,sl,e,_⟩:=hs b h
  exact .inr ⟨Jj h K,od,its,n,sl,e⟩
 ·exact .inl (zk h K)
theorem jS (hs:TupsF K os) (b:Addr) (x:Str):W.nsIn (jT os K) b x=W.nsIn K b x:=by
 unfold W.nsIn
 rcases hs.or b with e | ⟨e,od,its,n,sl,e2⟩
 ·rw [e]
 ·rw [e,e2]
theorem jaz (hs:TupsF K os) (x:Str) (v:Value):W.ownIn (jT os K) x v=W.ownIn K x v:=by
 cases v with
 | ref a=>
  show (match (jT os K).lookup a with | some ⟨_,_,.cls cd,_⟩=>W.nsIn (jT os K) cd.ns x | _=>none)=(match K.lookup a with | some ⟨_,_,.cls cd,_⟩=>W.nsIn K cd.ns x | _=>none)
  rcases hs.or a with e | ⟨e,od,its,n,sl,e2⟩
  ·rw [e]
   simp only [jS hs]
  ·rw [e,e2]
 | _=>rfl
theorem Jq (hs:TupsF K os) (x:Str):∀ l:List Value,W.alongIn (jT os K) x l=W.alongIn K x l
 | []=>rfl
 | c :: r=>by
  unfold W.alongIn
  rw [jaz hs,Jq hs x r]
theorem j5 (hs:TupsF K os) (t:Value) (x:Str):W.findIn (jT os K) t x=W.findIn K t x:=by
 cases t with
 | ref a=>
  show (match (jT os K).lookup a with | some ⟨_,_,.cls cd,_⟩=>W.alongIn (jT os K) x cd.mro | _=>none)=(match K.lookup a with | some ⟨_,_,.cls cd,_⟩=>W.alongIn K x cd.mro | _=>none)
  rcases hs.or a with e | ⟨e,od,its,n,sl,e2⟩
  ·rw [e]
   simp only [Jq hs]
  ·rw [e,e2]
 | _=>rfl
theorem zT (hs:TupsF K os) (cd:Value) (q:Str):W.codeIn (jT os K) cd q=W.codeIn K cd q:=by
 cases cd with
 | ref a=>
  show (match (jT os K).lookup a with | some ⟨_,_,.fields vs,_⟩=>(match vs.toList with | _ :: .str n _ :: _=>n == q | _=>false) | _=>false)=(match K.lookup a with | some ⟨_,_,.fields vs,_⟩=>(match vs.toList with | _ :: .str n _ :: _=>n == q | _=>false) | _=>false)
  rcases hs.or a with e | ⟨e,od,its,n,sl,e2⟩
  ·rw [e]
  ·rw [e,e2]
 | _=>rfl
theorem yG (hs:TupsF K os) (C:Addr):W.clsIn (jT os K) C=W.clsIn K C:=by
 unfold W.clsIn
 rcases hs.or C with e | ⟨e,od,its,n,sl,e2⟩
 ·rw [e]
 ·rw [e,e2]
theorem KO (hs:TupsF K os) (C:Addr):W.hasDictIn (jT os K) C=W.hasDictIn K C:=by unfold W.hasDictIn;rw [yG hs]
theorem KA (hs:TupsF K os) (C:Addr):W.plainOver (jT os K) C=W.plainOver K C:=by unfold W.plainOver;rw [yG hs]
theorem K4 (hs:TupsF K os) (C:Addr) (x:Str):W.plainGet (jT os K) C x=W.plainGet K C x:=by unfold W.plainGet;rw [j5 hs,j5 hs]
theorem zI {b:Addr} (e:(jT os K).lookup b=K.lookup b):W.typeIn (jT os K) (.ref b)=W.typeIn K (.ref b):=by
 show ((jT os K).lookup b).map _=(K.lookup b).map _
 rw [e]
theorem zJ (hs:TupsF K os) {b:Addr} (e:(jT os K).lookup b=K.lookup b) (x:Str):W.specialIn (jT os K) (.ref b) x=W.specialIn K (.ref b) x:=by
 unfold W.specialIn
 rw [zI e]
 simp only [j5 hs]
theorem jct (hs:TupsF K os) (b:Addr):W.isFn (jT os K) (.ref b)=W.isFn K (.ref b):=by
 rcases hs.or b with e | ⟨e,od,its,n,sl,e2⟩
 ·unfold W.isFn
  rw [zI e]
 ·show (((jT os K).lookup b).map (·.cls) == some (Value.type "function"))=((K.lookup b).map (·.cls) == some (Value.type "function"))
  rw [e,e2]
  show (none == some (Value.type "function"))=(some (Value.type "tuple") == some (Value.type "function"))
  decide +kernel
theorem qR (hs:TupsF K os) (b:Addr):W.keepIn (jT os K) (.ref b)=W.keepIn K (.ref b):=by
 show (match (jT os K).lookup b with | some ⟨_,_,.func _,_⟩=>true | some ⟨_,_,.cls _,_⟩=>W.specialIn (jT os K) (.ref b) "__call__" == some (some (Value.builtin "type.__call__")) | _=>false)=(match K.lookup b with | some ⟨_,_,.func _,_⟩=>true | some ⟨_,_,.cls _,_⟩=>W.specialIn K (.ref b) "__call__" == some (some (Value.builtin "type.__call__")) | _=>false)
 rcases hs.or b with e | ⟨e,od,its,n,sl,e2⟩
 ·rw [e]
  simp only [zJ hs e]
 ·rw [e,e2]
theorem jar (hs:TupsF K os) (t c:Value):W.subIn (jT os K) t c=W.subIn K t c:=by
 cases t with
 | ref a=>
  show W.mroIn (jT os K) a c=W.mroIn K a c
  unfold W.mroIn
  rw [yG hs]
 | _=>rfl
theorem Y5 (hs:TupsF K os) (C:Addr):W.makesIn (jT os K) C=W.makesIn K C:=by
 unfold W.makesIn
 rcases hs.or C with e | ⟨e,od,its,n,sl,e2⟩
 ·rw [e]
  simp only [zJ hs e]
  unfold W.instIn
  rw [zI e]
  simp only [jar hs]
 ·rw [e,e2]
theorem JI (hs:TupsF K os) {f:Addr} {oc:Value} {od:Option Addr} {fd:FuncData} {sl:Array (Option Value)} (e:K.lookup f=some ⟨oc,od,.func fd,sl⟩):(jT os K).lookup f=some ⟨oc,od,.func fd,sl⟩:=by
 rcases hs.or f with e1 | ⟨_,od',its,n,sl',e2⟩
 ·rw [e1,e]
 ·rw [e] at e2;cases e2
theorem jcH {h:Heap} (X:K.In h):(jT os K).In h:=fun a o e=>X a o (Z8 e).2
theorem Fun.drop (hs:TupsF K os) {x q:Str} {st:Stmt} {f:Addr} {fd:FuncData} (F:Fun K x q st f fd):Fun (jT os K) x q st f fd:=by
 obtain ⟨⟨oc,od,kV,doc,pm,an,cdv,ct,osl,e1,e2,e3⟩,e4⟩:=F
 exact ⟨⟨oc,od,kV,doc,pm,an,cdv,ct,osl,e1,JI hs e2,by rw [zT hs];exact e3⟩,by rw [qR hs];exact e4⟩
end
def Jr (K:W.Frag) (os:List Addr) (H:Hp):Prop:=∀ b∈os,∀ od its n sl,K.lookup b=some ⟨.type "tuple",od,.seq its n,sl⟩→H b=some (.tup (its.toList.map jeD))
def qu (K:W.Frag) (os:List Addr):Hp:=fun b=>if b∈os then (match K.lookup b with | some ⟨_,_,.seq its _,_⟩=>some (.tup (its.toList.map jeD)) | _=>none) else none
theorem jcn {P:Program} {w:World} {K:W.Frag} {os:List Addr} {mg mb:Str→Option Value} {CX:CXT} {k:Nat} {fa a:Addr} {fd:FuncData} {x:Str} {sp:Sp} {s₁:Shared} {vs:List Value} {ns:List Int}
  (KX:K.In s₁.heap) (hs:TupsF K os) (hns:s₁.heap.Ns mainGlobals mg) (hb:s₁.heap.Ns builtinsNs mb) (hbb:∀ x:Str,x≠"__name__"→mb x=bootBuiltins x) (hlim:s₁.heap.NoLimit) (hg:s₁.gens=#[])
  (ha:s₁.heap.get? a=some { cls:=.type "list",data:=.seq vs.toArray }) (hi:IntsAre vs ns) (hl:ns.length≤sizeLine) (hr:Room k callerA)
  (F:∀ base:Heap,(jT os K).In base→base.Ns mainGlobals mg→FnOk P w (jT os K) mg base CX k fa fd [x] sp) (hbind:∀ (s:Shared) (u:Value),BindsTo s fd ⟨[u],[]⟩ [(x,u)])
  (hsp:∀ H:Hp,Jr K os H→SqL (jT os K) H a (ns.map V.int)→sp [.ref a] H (fun v _=>v=.bl true) fun _ _ _=>False)
  (hCX:∀ H e s',CX [] H s₁ (fun _ _ _=>False) e s'→False) :
  codeAny (model P w) callerA (.call (.ref fa) ⟨[.ref a],[]⟩) (fun r s'=>r=.ok (.ret (.bool true))∧OldK s₁.heap s'.heap∧s'.os=s₁.os∧AllBare s'.gens) s₁:=by
 have rv:=Ye hi
 have lenV:=hi.length
 have trk:∀ b,b∈os→∃ od its n sl,K.lookup b=some ⟨.type "tuple",od,.seq its n,sl⟩∧qu K os b=some (.tup (its.toList.map jeD))∧its.size≤1000∧Vals (its.toList.map jeD) its.toList:=fun b hb=>by
  obtain ⟨od,its,n,sl,e1,e2,e3⟩:=hs b hb
  refine ⟨od,its,n,sl,e1,?_,e2,e3⟩
  unfold qu
  rw [if_pos hb,e1]
 have nos:a ∉ os:=fun z=>by
  obtain ⟨od,its,n,sl,e,_⟩:=hs a z
  have:=KX a _ e
  rw [ha] at this
  injection this with t1
  injection t1 with t2
  injection t2 with t3
  revert t3
  decide +kernel
 have core:∀ H:Hp,(∀ b,b∈os→H b=qu K os b)→SqL (jT os K) H a (ns.map V.int)→HOk P w H s₁.heap→(∀ b,H b≠none→b=a∨b∈os)→(H a≠none→K.lookup a=none∧∃ o u,H a=some (.frz o u))→
   codeAny (model P w) callerA (.call (.ref fa) ⟨[.ref a],[]⟩) (fun r s'=>r=.ok (.ret (.bool true))∧OldK s₁.heap s'.heap∧s'.os=s₁.os∧AllBare s'.gens) s₁:=by
  intro H hT hS hok hA hK
  have base_of:∀ {b:Addr} {o:Obj},s₁.heap.get? b=some o→H b=none→(Zb s₁.heap H).get? b=some o:=fun e n=>jek e n
  have noA:∀ {b:Addr} {o:Obj} {es:Array DictEntry} {ep:Nat},s₁.heap.get? b=some o→o.data=.dict es ep→H b=none:=fun {b o es ep} e d=>by
   cases q:H b with
   | none=>rfl
   | some u=>
    rcases hA b (by rw [q];simp) with e' | e'
    ·subst e'
     rw [ha] at e;cases e
     have d':Data.seq vs.toArray _=Data.dict es ep:=d
     cases d'
    ·obtain ⟨od,its,n,sl,e1,_⟩:=trk b e'
     rw [KX b _ e1] at e;cases e
     have d':Data.seq its n=Data.dict es ep:=d
     cases d'
  have nsK:∀ {b:Addr} {m:Str→Option Value},s₁.heap.Ns b m→(Zb s₁.heap H).Ns b m:=fun {b m} ⟨o,es,ep,e,d,r⟩=>⟨o,es,ep,base_of e (noA e d),d,r⟩
  have hKb:(jT os K).In (Zb s₁.heap H):=fun b o e=>by
   obtain ⟨z1,z2⟩:=Z8 e
   refine base_of (KX b o z2) ?_
   cases q:H b with
   | none=>rfl
   | some u=>
    rcases hA b (by rw [q];simp) with e' | e'
    ·subst e'
     rw [(hK (by rw [q];simp)).1] at z2;cases z2
    ·exact absurd e' z1
  have hM:Mod (jT os K) mg (Zb s₁.heap H):=⟨hKb,nsK hns,⟨mb,nsK hb,hbb⟩,let ⟨mc,h1,h2⟩:=hlim;⟨mc,nsK h1,h2⟩⟩
  have e0:Env0 P w (jT os K) mg (Zb s₁.heap H) callerA [] s₁ H:=⟨rfl,hM,fun b o e=>jfF e,Nat.le_of_eq (jcw _ _),trivial,fun b hb=>absurd (show b∈([]:List Addr) from hb) (by simp),hok,.of_eq hg⟩
  have hTr:Jr K os H:=fun b hb od its n sl e=>by
   obtain ⟨od',its',n',sl',e1,e2,_⟩:=trk b hb
   rw [e1] at e
   cases e
   rw [hT b hb,e2]
  refine codeAny_mono ((F _ hKb (nsK hns)).run callerA [] s₁ H ⟨[.ref a],[]⟩ [.ref a] [.ref a] _ _ hr e0 (hbind s₁ (.ref a)) (.cons rfl .nil) (hsp H hTr hS)) fun r s' h=>?_
  cases r with
  | error e=>exact (hCX H e s' h).elim
  | ok fl=>
   cases fl with
   | next=>exact False.elim h
   | brk=>exact False.elim h
   | cont=>exact False.elim h
   | ret u=>
    obtain ⟨v,H',os',bare,un,hok',r',q⟩:=h
    have q':v=.bl true:=q
    subst q'
    obtain rfl:u=Value.bool true:=r'
    refine ⟨rfl,OldK.of_keep fun b o e=>?_,os',bare⟩
    cases q:H b with
    | none=>exact un.keep b o e q (by intro z;exact absurd (show b∈([]:List Addr) from z) (by simp)) (by simp)
    | some u=>
     rcases hA b (by rw [q];simp) with e' | e'
     ·subst e'
      obtain ⟨_,ob,xs,z⟩:=hK (by rw [q];simp)
      have z2:=un.frzs b ob _ z
      obtain ⟨e1,_⟩:=hok b _ z
      obtain ⟨e2,_⟩:=hok' b _ z2
      rw [e] at e1;cases e1
      exact e2
     ·obtain ⟨od,its,n,sl,e1,e2,_⟩:=trk b e'
      exact un.stay b o _ ((hT b e').trans e2) e (by intro z;exact absurd (show b∈([]:List Addr) from z) (by simp)) (by simp)
 have okT:∀ (H:Hp) b u,b∈os→qu K os b=some u→ObjOk P w H s₁.heap b u:=fun H b u hb z=>by
  obtain ⟨od,its,n,sl,e1,e2,e3,e4⟩:=trk b hb
  rw [e2] at z
  cases z
  exact ⟨by rw [List.length_map,Array.length_toList];exact Nat.le_of_lt (jJ e3),its.toList,e4,_,KX b _ e1,rfl,n,rfl⟩
 have offT:∀ b,b ∉ os→qu K os b=none:=fun b hb=>by unfold qu;rw [if_neg hb]
 cases hk:K.lookup a with
 | some o=>
  have e:=KX a o hk
  rw [ha] at e
  cases e
  refine core (qu K os) (fun _ _=>rfl) (.inr ⟨_,vs.toArray,_,(zk nos K).trans hk,rfl,rfl,rfl,by rw [List.size_toArray,lenV];exact hl,by simpa using rv⟩) (fun b u z=>?_) (fun b z=>.inr ?_) fun z=>absurd (offT a nos) z
  ·by_cases hb:b∈os
   ·exact okT _ b u hb z
   ·rw [offT b hb] at z;cases z
  ·by_cases hb:b∈os
   ·exact hb
   ·exact absurd (offT b hb) z
 | none=>
  refine core (fun b=>if b=a then some (.frz { cls:=.type "list",data:=.seq vs.toArray } (.lst (ns.map V.int))) else qu K os b) (fun b hb=>if_neg fun z=>nos (by rw [← z];exact hb)) (.inl (.inr ⟨{ cls:=.type "list",data:=.seq vs.toArray },if_pos rfl⟩)) (fun b u z=>?_) (fun b z=>?_) fun _=>⟨hk,_,_,if_pos rfl⟩
  ·by_cases hb:b=a
   ·have z':=(if_pos hb).symm.trans z
    cases z'
    subst hb
    exact ⟨ha,by rw [List.length_map];exact hl,vs,_,rv,ha⟩
   ·have z':qu K os b=some u:=(if_neg hb).symm.trans z
    by_cases hc:b∈os
    ·exact okT _ b u hc z'
    ·rw [offT b hc] at z';cases z'
  ·by_cases hb:b=a
   ·exact .inl hb
   ·have z':qu K os b≠none:=by
     have e:(if b=a then some (HO.frz { cls:=.type "list",data:=.seq vs.toArray } (.lst (ns.map V.int))) else qu K os b)=qu K os b:=if_neg hb
     rw [← e]
     exact z
    by_cases hc:b∈os
    ·exact .inr hc
    ·exact absurd (offT b hc) z'
theorem walk_ofT {l:PySem.W.OpenLaw} {n k:Nat} {q:Program} {loose:List Str} {XP:(Str→Option Value)→Heap→Prop} {YP:World→Heap→Prop} {d:DefRec} {K:Params→W.Frag} {x:Str}
  (hn:l.most=some n) (hn2:n≤sizeLine) (hdf:d.params.defaults=[]) (hr:Room k callerA)
  (hY:∀ (w:World) (h:Heap),YP w h→(K w.params).In h)
  (F:∀ (w:World) (mg:Str→Option Value) (fa:Addr) (h:Heap),(K w.params).In h→h.Ns mainGlobals mg→mg d.name=some (.ref fa)→
   ∃ (os:List Addr) (fd:FuncData) (sp:Sp),TupsF (K w.params) os∧(∀ (s:Shared) (u:Value),BindsTo s fd ⟨[u],[]⟩ [(x,u)])∧
    (∀ (H:Hp) (a:Addr) (ns:List Int),ns.length≤n→Jr (K w.params) os H→SqL (jT os (K w.params)) H a (ns.map V.int)→sp [.ref a] H (fun v _=>v=.bl true) fun _ _ _=>False)∧
    ∀ base:Heap,(jT os (K w.params)).In base→base.Ns mainGlobals mg→FnOk l.prog w (jT os (K w.params)) mg base CX0 k fa fd [x] sp) :
  PySem.W.WalkO q loose XP YP l.row.toRowW d [] (fun f vs=>PySem.call f vs):=by
 refine Att.attach_call hn hdf fun w s₀ s₁ mg mb fa o pm cd doc a vs ns G Y ho hd hcd hmg hobj hints hlen hg=>?_
 have KX:=hY w _ Y
 obtain ⟨os,fd,sp,hs,hb,hsp,hF⟩:=F w mg fa _ KX G.T.g hmg
 exact jcn KX hs G.T.g G.T.b G.T.builtins G.T.nolimit hg hobj hints (Nat.le_trans hlen hn2) hr hF hb (fun H hT hS=>hsp H a ns hlen hT hS) fun _ _ _ z=>z
end L2
namespace LW
open PySem L2
abbrev JV:Stmt:=top 50
def jge (K:W.Frag) (o1 o2:Addr):Sp:=fun vs H Q _=>∃ (a:Addr) (ns:List Int),vs=[.ref a]∧SqL K H a (ns.map V.int)∧ns.length≤63∧Own H o1 o2∧∀ H',Q (.bl true) H'
theorem jhp {x y:Str} (hx:W10 x) (hy:W10 y):Wd ((x++".")++y):=by
 refine ⟨fun c hc=>?_,?_⟩
 ·rw [Str.cps_append,Array.toList_append,Str.cps_append,Array.toList_append,List.mem_append,List.mem_append] at hc
  rcases hc with (hc | hc) | hc
  ·exact .inl (hx.1 c hc)
  ·exact .inr (List.mem_singleton.mp hc)
  ·exact .inl (hy.1 c hc)
 ·show ((x++".")++y).cps.size≤40
  rw [Str.cps_append,Array.size_append,Str.cps_append,Array.size_append]
  have h1:x.cps.size≤10:=hx.2
  have h2:y.cps.size≤10:=hy.2
  have h3:("." : Str).cps.size=1:=rfl
  omega
theorem jal {x:Str} (h:W10 x):Wd x:=⟨fun c hc=>.inl (h.1 c hc),Nat.le_trans h.2 (by decide)⟩
theorem jds (r:Rw):r.toD.depth≤200:=by
 rcases r with ⟨x,t,k⟩ | ⟨r,x,d,t,k⟩ | ⟨x⟩ | ⟨r⟩ | ⟨C⟩
 ·cases t <;> exact Nat.le_of_ble_eq_true rfl
 ·cases t <;> exact Nat.le_of_ble_eq_true rfl
 ·exact Nat.le_of_ble_eq_true rfl
 ·exact Nat.le_of_ble_eq_true rfl
 ·rcases C with ⟨a,b,k⟩ | ⟨t,td,u,ud,r,way,b,k⟩ | ⟨t,td,u,ud,r⟩
  ·cases a <;> cases b <;> exact Nat.le_of_ble_eq_true rfl
  ·cases b <;> exact Nat.le_of_ble_eq_true rfl
  ·exact Nat.le_of_ble_eq_true rfl
theorem yk {n:Nat}:∀ {ds:List D},(∀ d∈ds,d.depth≤n)→D.depthL ds≤n
 | [],_=>Nat.zero_le _
 | d :: ds,h=>Nat.max_le.mpr ⟨h d (List.mem_cons_self ..),yk fun e he=>h e (List.mem_cons_of_mem _ he)⟩
theorem jg2 (x:Int):(x % (2 * 10 ^ Int.toNat 17) - 10 ^ Int.toNat 17).natAbs≤10 ^ 17:=by
 have:=kI (x:=x) (y:=2 * 10 ^ 17) (by decide)
 show (x % (2 * 10 ^ 17) - 10 ^ 17).natAbs≤10 ^ 17
 omega
theorem jes (ns:List Int):∃ ms:List Int,qZ (ns.map V.int) (some 2) (some 42)=ms.map V.int∧ms.length≤40:=by
 refine ⟨(ns.drop (HT.sIx (ns.map V.int).length 0 (some 2))).take (HT.sIx (ns.map V.int).length (ns.map V.int).length (some 42) - HT.sIx (ns.map V.int).length 0 (some 2)),by unfold qZ;rw [List.map_take,List.map_drop],?_⟩
 rw [List.length_take]
 generalize (ns.map V.int).length=n
 have h:HT.sIx n n (some 42) - HT.sIx n 0 (some 2)≤40:=by
  unfold HT.sIx
  dsimp only
  rw [if_neg (by decide),if_neg (by decide)]
  have e1:Int.toNat 42=42:=rfl
  have e2:Int.toNat 2=2:=rfl
  rw [e1,e2]
  omega
 omega
theorem jg4 (K:W.Frag):W.kitOne K (.type "list") (.type "list")=some true:=rfl
theorem jef {c A B:Prop} [Decidable c] (h:¬ c) (b:B):if c then A else B:=by rw [if_neg h];exact b
theorem ZH {R:List Rw} {k:Cl} {es ds:List D} {ps qs:List DA} (h:jcE R k es) (hp:ps.map (·.1)=ds) (nd:ds.Nodup) (hm:∀ d,d∈ds↔d∈(kf R k).l 2) (hq:qs.Perm ps) (hr:(qs.map (·.1)).Pairwise (fun a b=>dLt b a=false)):es=qs.map (·.1):=by
 obtain ⟨p1,q1,e1,e2,e3,rfl⟩:=h
 have hqd:(qs.map (·.1)).Perm ds:=by rw [← hp];exact hq.map _
 refine jbr (Ys e3) (jeV hr (hqd.nodup_iff.mpr nd)) fun d=>?_
 rw [KB,hqd.mem_iff,hm,← e1,(e2.map (·.1)).mem_iff]
theorem jcS {R:List Rw} {k:Cl} {es ds ds':List D} {ps qs:List DA} (h:jcE R k es) (hp:ps.map (·.1)=es++(kf R k).ends) (hq:qs.Perm ps) (hr:(qs.map (·.1)).Pairwise (fun a b=>dLt b a=false)) (hm:∀ d,d∈ds↔d∈(kf R k).l 2) (hm':∀ d,d∈ds'↔d∈(kf R k).ends) (ok:∀ d∈ds,OkD d) (ok':∀ d∈ds',OkD d) :
  (kr qs).length=(dedupS ((ds.map fun d=>d.py.shown)++ds'.map fun d=>d.py.shown)).length:=by
 obtain ⟨p1,q1,e1,e2,e3,rfl⟩:=h
 have hmem:∀ d,d∈(kr qs).map (·.1)↔d∈ds∨d∈ds':=fun d=>by
  rw [KB,(hq.map (·.1)).mem_iff,hp,List.mem_append,KB,(e2.map (·.1)).mem_iff,e1,hm,hm']
 have rs:=Ys hr
 have nd:((kr qs).map (·.1)).Nodup:=rs.imp fun {a b} h e=>by rw [e,J7] at h;cases h
 have okA:∀ d∈(kr qs).map (·.1),OkD d:=fun d hd=>((hmem d).mp hd).elim (ok d) (ok' d)
 obtain ⟨n1,_,n3⟩:=JJ ((ds.map fun d=>d.py.shown)++ds'.map fun d=>d.py.shown)
 have nd2:(((kr qs).map (·.1)).map fun d=>d.py.shown).Nodup:=by
  unfold List.Nodup
  rw [List.pairwise_map]
  refine List.Pairwise.imp_of_mem (fun {a b} ha hb hab e=>hab ?_) nd
  exact JB (okA a ha) (okA b hb) e
 have pp:(((kr qs).map (·.1)).map fun d=>d.py.shown).Perm (dedupS ((ds.map fun d=>d.py.shown)++ds'.map fun d=>d.py.shown)):=by
  refine (List.perm_ext_iff_of_nodup nd2 n1).mpr fun x=>?_
  rw [n3,List.mem_append,List.mem_map,List.mem_map,List.mem_map]
  constructor
  ·rintro ⟨d,hd,rfl⟩
   exact ((hmem d).mp hd).elim (fun h=>.inl ⟨d,h,rfl⟩) fun h=>.inr ⟨d,h,rfl⟩
  ·rintro (⟨d,hd,rfl⟩ | ⟨d,hd,rfl⟩)
   ·exact ⟨d,(hmem d).mpr (.inl hd),rfl⟩
   ·exact ⟨d,(hmem d).mpr (.inr hd),rfl⟩
 have:=pp.length_eq
 rw [List.length_map,List.length_map] at this
 exact this
theorem ja1 {G:Hp} {ds L:List D} {vs:List V} {n:Nat} (t3:HeldL G ds vs) (so:SortT L 200) (t5:∀ d,d∈ds↔d∈L) (hl:vs.length≤n):∃ ps:List DA,ps.map (·.1)=ds∧vs=(ps.map (·.2)).map V.ref∧(∀ q∈ps,Held G q.1 (.ref q.2))∧SortT (ps.map (·.1)) 200∧ps.length≤n:=by
 have so':SortT ds 200:=ye so fun d hd=>(t5 d).mp hd
 obtain ⟨ps,e1,e2,e3⟩:=qS t3 fun d hd=>so'.tup d hd
 refine ⟨ps,e1,e2,e3,by rw [e1];exact so',?_⟩
 rw [e2,List.length_map,List.length_map] at hl
 exact hl
theorem Z2 {kvs:List (Key×V)} {ds:List D} (h:kvs.map (·.1)=ds.map (fun d=>Sum.inr d.py.shown)):(kvs.map (·.1)).map kV=(ds.map fun d=>d.py.shown).map V.str:=by
 rw [h,List.map_map,List.map_map]
 rfl
section
variable {P:Program} {w:World} {K:W.Frag} {mg:Str→Option Value} {base:Heap} {C o1 o2:Addr}
theorem jgY {f:Addr} {fd:FuncData} (F:Fun K "law" "law" JV f fd) (B:Free0 mg) (F_cell_at:Fn P w K mg base 1 "_law_cell_at" ["_law_script","_law_k"] (jdk K)) (F_words:Fn P w K mg base 1 "_law_words" ["_law_cell","_law_many"] ja9) (F_straight:Fn P w K mg base 4 "_law_straight" ["_law_cells","_law_w","_law_near"] (Ko K)) (F_claim:Fn P w K mg base 3 "_law_claim" ["_law_seed","_law_w","_law_near","_law_free"] Ks) (F_walk:Fn P w K mg base 17 "_law_walk" ["_law_straight_here","_law_goal"] jbb) (F_spots:Fn P w K mg base 16 "spots" ["rows","goal"] (jbe o1 o2)) (F_width:Fn P w K mg base 16 "width" ["rows","goal"] (jba o1 o2)):FnOk P w K mg base CX0 18 f fd ["_law_script"] (jge K o1 o2):=by
 have sc:FnScope ["_law_script","_law_w","_law_near","_law_straight_here","_law_goal","_law_box","_law_kept_here","_law_found","_law_broad"] ["_law_script"] (jp JV):=fQ
 refine F.okZ sc (fun vs H Q E h=>?_) (fun cdv A outer s H vs Q E hr h=>?_)
 ·obtain ⟨a,ns,rfl,_⟩:=h
  rfl
 have hun:(A.deeper (PyProof.Rows.envOfC "law" (jp JV) s.heap.objs.size f cdv)).units+16 * 17+200 < cLine:=hr.un
 have hu:(A.deeper (PyProof.Rows.envOfC "law" (jp JV) s.heap.objs.size f cdv)).units+1 < cLine:=by omega
 have hus:(A.deeper (PyProof.Rows.envOfC "law" (jp JV) s.heap.objs.size f cdv)).units+3+200 < cLine:=by omega
 have hu2:(A.deeper (PyProof.Rows.envOfC "law" (jp JV) s.heap.objs.size f cdv)).units+1+200 < cLine:=by omega
 obtain ⟨a,ns,rfl,hS,hl,hO,q⟩:=h
 refine ⟨_,(jd (jv (i:=1) sc.nd rfl oQ (ji F_words hr (ja (ji F_cell_at hr (ja (zpv 0) (ja jc jb))) (ja jc jb))))
   (jd (yJ (jL (jy j8 (jq jR (jq jU (ji F_cell_at hr (ja (zpv 0) (ja jc jb))) jc) jc) jc (jH _)) (jh (qx (jq yD (jq yD (jm jV (zpv 1) jc (fun _ _=>rfl)) jl) (jm jV (zpv 1) jc (fun _ _=>rfl))) (jeI (zpv 1) jc jdo))) jG))
   (jd (jv (i:=2) sc.nd rfl oQ (jq qw (jq jR (jq kH (ji F_cell_at hr (ja (zpv 0) (ja jc jb))) jc) (jq kH jc (jq yC jc jc))) (jq yC jc jc)))
   (jd (jv (i:=3) sc.nd rfl oQ (ji F_straight hr (ja (qf YW (zpv 0) (qp jc) (qp jc)) (ja (zpv 1) (ja (zpv 2) jb)))))
   (jd (jv (i:=4) sc.nd rfl oQ (ji F_claim hr (ja (jq jR (ji F_cell_at hr (ja (zpv 0) (ja jc jb))) jc) (ja (zpv 1) (ja (zpv 2) (ja (qf YW (zpv 1) (qp jc) q8) jb))))))
   (jd (jv (i:=5) sc.nd rfl oQ (ji F_walk hr (ja (zpv 3) (ja (zpv 4) jb))))
   (jd (jv (i:=6) sc.nd rfl oQ (qX Zk (by rfl) B.list_ Ka (ja (zpv 3) jb)))
   (jd (jv (i:=7) sc.nd rfl oQ (ji F_spots hr (ja (zpv 3) (ja (zpv 4) jb))))
   (jd (jL (Kb (YK (YJ (kW zX (by rfl) B.isinstance_ q0 (ja (zpv 7) (ja (Ke (v:=.ty "list") (by rfl) B.list_ Ka (by rfl)) jb))))) (JZ (jy (jbx 200 hu2) (zpv 7) (kW (zn (n:=200) rfl hus) (by rfl) B.sorted_ JM (ja (YL PySem.F.plainAttrs_dict PySem.F.slot_dict_values PySem.F.type_dict_values Yu (jM hu (zpv 5) jl (fun _ _=>rfl))) jb)) (jH _)))).pt (jh (jx qY)) jG)
   (jd (jz (YL PySem.F.plainAttrs_list PySem.F.slot_list_clear PySem.F.type_list_clear jd8 (zpv 7)))
   (jd (jv (i:=8) sc.nd rfl oQ (ji F_width hr (ja (zpv 3) (ja (zpv 4) jb))))
   (jd (jL (Kb (YK (YJ (kW zX (by rfl) B.isinstance_ q0 (ja (zpv 8) (ja (Ke (v:=.ty "int") (by rfl) B.int_ yI (by rfl)) jb))))) (Kb (YJ (kW zX (by rfl) B.isinstance_ q0 (ja (zpv 8) (ja (Ke (v:=.ty "bool") (by rfl) B.bool_ jfX (by rfl)) jb)))) (JZ (jy (jbx 200 hu2) (zpv 3) (zpv 6) (jH _))))).pt (jh (jx qY)) jG)
   (jd (jL (jy jgi (zpv 8) (kW (KY (P:=P) (w:=w)) (by rfl) B.len_ yH (ja (qX (KW (P:=P) (w:=w) (K:=K) rfl) (by rfl) B.set_ jhe (ja (jq ZR (qX (zW rfl) (by rfl) B.list_ Ka (ja (jM hu (zpv 5) jl (fun _ _=>rfl)) jb)) (qX (zW rfl) (by rfl) B.list_ Ka (ja (jM hu (zpv 5) jl (fun _ _=>rfl)) jb))) jb)) jb)) (jH _)) (jh (jx qY)) jG)
   (jh (jx (za (jbz 200 hu2) (ji F_spots hr (ja (zpv 3) (ja (zpv 4) jb))) (kW (zn (n:=200) rfl hus) (by rfl) B.sorted_ JM (ja (YL PySem.F.plainAttrs_dict PySem.F.slot_dict_values PySem.F.type_dict_values Yu (jM hu (zpv 5) jl (fun _ _=>rfl))) jb)) (jH _))))))))))))))))),?_⟩
 refine jI (σ':=[some (.ref a),none,none,none,none,none,none,none,none]) rfl ?_
 try dsimp only [yp]
 refine jhb ?_
 intro _ _ _ _ _ _ _ _ _ _ _ _ _
 refine ⟨_,rfl,a,ns,0,rfl,hS,by decide,by decide,fun c0=>?_⟩
 refine ⟨_,6,rfl,by decide,fun lw w0 H1 ⟨hw0,hW⟩ s1 hn1 e1=>?_⟩
 refine gQ ?_
 let Jw:L2.St→Hp→Prop:=fun σ G=>∃ ws,σ=[some (.ref a),some (.ref lw),none,none,none,none,none,none,none]∧Same H G∧Ws G lw ws
 refine ⟨Jw,?_,?_⟩
 ·refine ⟨_,rfl,a,ns,0,rfl,zb hS s1,by decide,by decide,fun c1=>?_⟩
  refine ⟨_,_,rfl,rfl,⟨by decide,by decide⟩,_,_,rfl,rfl,(by show (0:Int) < _;decide),rfl,_,rfl,zD (fun d=>?_) (fun d=>?_)⟩
  ·obtain ⟨x0,x1,x2,x3,x4,x5,rfl⟩:∃ x0 x1 x2 x3 x4 x5:Str,w0=[x0,x1,x2,x3,x4,x5]:=by
    match w0,hw0 with
    | [x0,x1,x2,x3,x4,x5],_=>exact ⟨_,_,_,_,_,_,rfl⟩
   have o0:=hW x0 (by simp)
   have o1':=hW x1 (by simp)
   have hdot:(".":Str).length=1:=rfl
   refine ⟨_,rfl,lw,_,_,_,rfl,rfl,SqL.of e1,jf (j:=0) rfl,_,_,rfl,rfl,zL (by have:=o0.2;omega),_,rfl,lw,_,_,_,rfl,rfl,SqL.of e1,jf (j:=1) rfl,_,_,rfl,rfl,zL (by
    have h1:=o0.2
    have h2:=o1'.2
    show ((x0++"."):Str).cps.size+x1.cps.size≤1000
    rw [Str.cps_append,Array.size_append]
    have h1:x0.cps.size≤10:=h1
    have h2:x1.cps.size≤10:=h2
    have h3:("." : Str).cps.size=1:=rfl
    omega),?_⟩
   refine ⟨_,rfl,lw,_,1,1,rfl,rfl,e1,rfl,?_⟩
   refine ⟨[x0,(x0++".")++x1,x2,x3,x4,x5],rfl,fun b o e=>jo (jt e hn1) (s1 _ _ e),jg,rfl,fun x hx=>?_⟩
   rcases List.mem_cons.mp hx with rfl | hx
   ·exact jal o0
   rcases List.mem_cons.mp hx with rfl | hx
   ·exact jhp o0 o1'
   ·exact jal (hW x (List.mem_cons_of_mem _ (List.mem_cons_of_mem _ hx)))
  ·exact ⟨w0,rfl,s1,e1,hw0,fun x hx=>jal (hW x hx)⟩
 rintro σ G ⟨ws,rfl,s2,hw⟩
 clear s1 e1 hn1 hw0 hW H1
 refine ⟨_,rfl,a,ns,0,rfl,zb hS s2,by decide,by decide,fun c2=>?_⟩
 refine ⟨_,_,rfl,rfl,.inr ⟨by decide,by decide⟩,_,_,rfl,rfl,⟨by decide,by decide,by decide⟩,_,_,rfl,rfl,.inl ⟨by decide,by decide⟩,_,_,rfl,rfl,(by show (0:Int) < _;decide),_,_,rfl,rfl,⟨by decide,by decide,by decide⟩,_,_,rfl,rfl,?_⟩
 refine gQ ?_
 have hn:=jg2 (c2 * 998244353)
 generalize c2 * 998244353 % (2 * 10 ^ Int.toNat 17) - 10 ^ Int.toNat 17=near at *
 refine ⟨_,rfl,_,rfl,_,rfl,a,_,rfl,zb hS s2,fun pc hpc=>⟨_,rfl,_,rfl,?_⟩⟩
 obtain ⟨ms,hms,hml⟩:=jes ns
 rw [hms]
 have s3:=jj hpc (.lst (ms.map V.int))
 have e3:upd G pc (.lst (ms.map V.int)) pc=some (.lst (ms.map V.int)):=jg
 generalize upd G pc (.lst (ms.map V.int))=G1 at *
 have hw1:=hw.mono s3
 refine ⟨pc,ms,near,lw,ws,rfl,SqL.of e3,hml,hw1,hn,fun l R rs G2 s4 hnl hGl hR hRl hRG=>?_⟩
 refine gQ ?_
 have s14:=s2.trans (s3.trans s4)
 have hw2:=hw1.mono s4
 clear s2 s3 s4 e3 hpc hw hw1 hms hml hnl
 refine ⟨_,rfl,a,ns,1,rfl,zb hS s14,by decide,by decide,fun c3=>?_⟩
 refine ⟨_,_,rfl,rfl,(by show (0:Int) < _;decide),_,rfl,_,rfl,_,rfl,_,rfl,lw,_,rfl,SqL.of hw2.at_,fun pf hpf=>?_⟩
 rw [jid hw2.len]
 have s5:=jj hpf (.lst ((ws.drop 3).map V.str))
 have e5:upd G2 pf (.lst ((ws.drop 3).map V.str)) pf=some (.lst ((ws.drop 3).map V.str)):=jg
 generalize upd G2 pf (.lst ((ws.drop 3).map V.str))=G3 at *
 refine ⟨_,near,lw,pf,ws,ws.drop 3,rfl,hw2.mono s5,hn,⟨e5,by rw [List.length_drop,hw2.len];decide,fun x hx=>hw2.ok x (List.mem_of_mem_drop hx)⟩,fun k v G4 s6 gk hv=>?_⟩
 refine gQ ?_
 have s24:=s5.trans s6
 have s04:=s14.trans s24
 have hGl4:=s24 _ _ hGl
 have hR4:=hR.mono s24
 clear hGl hR s5 s6 s24 s14 e5 hpf hw2
 refine ⟨_,rfl,_,rfl,l,R,rs,k,v,rfl,hGl4,hR4,hRl,hRG,gk,hv,fun BX G5 s7 hN hB=>?_⟩
 refine gQ ?_
 have s05:=s04.trans s7
 have hGl5:=s7 _ _ hGl4
 have hR5:=hR4.mono s7
 have hv5:=hv.mono s7
 clear hGl4 hR4 hv s04 s7 hN
 refine ⟨_,rfl,l,rs,rfl,.inl (SqL.of hGl5),fun l6 h6=>?_⟩
 have s6:=jj h6 (.lst rs)
 have e6:upd G5 l6 (.lst rs) l6=some (.lst rs):=jg
 have hGl6:=s6 _ _ hGl5
 have hR6:=hR5.mono s6
 have hv6:=hv5.mono s6
 have s06:=s05.trans s6
 have hB6:=hB.same s6
 generalize upd G5 l6 (.lst rs)=G6 at *
 clear hGl5 hR5 hv5 s05 s6 hB h6
 refine gQ ?_
 obtain ⟨so,sh⟩:=jfV hRl hRG gk
 have so2:SortT ((kf R k).l 2) 200:=ye so fun d hd=>List.mem_append_left _ hd
 refine ⟨_,rfl,_,rfl,l,R,k,v,rfl,⟨⟨rs,hGl6,hR6⟩,hRl,hO.tk (.same s06),hv6⟩,so2,fun lo es xs G7 s7 hno sp hxs hes=>?_⟩
 refine gQ ?_
 obtain ⟨ds,kvs,t1,t2,t3,t4,t5,t6,t7⟩:=hB6.t 0 (by decide)
 obtain ⟨ds',kvs',t1',t2',t3',t4',t5',t6',t7'⟩:=hB6.t 1 (by decide)
 refine ⟨_,rfl,_,_,_,_,rfl,TyOf.lst hxs,jg4 K,_,rfl,kh ?_⟩
 have hkl:(kvs.map (·.2)).length≤400:=by rw [List.length_map];exact t7
 obtain ⟨ps,p1,p2,p3,p4,p5⟩:=ja1 (t3.mono s7) so2 t5 hkl
 refine ⟨_,rfl,_,rfl,BX.o,_,rfl,yy (s7 _ _ hB6.o),.inr (.inr (.inl ⟨rfl,.inl ⟨_,s7 _ _ t1⟩⟩)),BX.t 0,kvs,rfl,rfl,s7 _ _ t1,fun vw hvw=>?_⟩
 have s8:=jj hvw (kZ vw (BX.t 0))
 refine ⟨vw,BX.t 0,kvs,ps,rfl,jg,s8 _ _ (s7 _ _ t1),p2,fun q hq=>(p3 q hq).mono s8,p4,Nat.le_trans p5 (by decide),fun l9 qs h9 hq1 hq2=>?_⟩
 have s9:=jj h9 (.lst ((qs.map (·.2)).map V.ref))
 have e9:upd (upd G7 vw (kZ vw (BX.t 0))) l9 (.lst ((qs.map (·.2)).map V.ref)) l9=some (.lst ((qs.map (·.2)).map V.ref)):=jg
 have s79:=s8.trans s9
 generalize upd (upd G7 vw (kZ vw (BX.t 0))) l9 (.lst ((qs.map (·.2)).map V.ref))=G9 at *
 have hqh:HeldL G9 (qs.map (·.1)) ((qs.map (·.2)).map V.ref):=qP fun q hq=>(p3 q (hq1.mem_iff.mp hq)).mono s79
 have hee:=ZH sp p1 t4 t5 hq1 hq2
 have hdp:D.depthL es≤200:=yk fun d hd=>so2.dep d (Kn sp d hd)
 refine ⟨lo,l9,xs,_,es,qs.map (·.1),rfl,rfl,s79 _ _ hxs,e9,hdp,hes.mono s79,hqh,_,rfl,jef (by rw [decide_eq_true hee];decide) ?_⟩
 have hx9:=s79 _ _ hxs
 have s69:=s7.trans s79
 clear hee hdp hqh hq1 hq2 p1 p2 p3 p4 p5 ps e9 h9 s8 s9 hvw qs hkl s7 s79 hes
 refine ⟨_,rfl,.inl ⟨rfl,_,SqL.of hx9⟩,lo,xs,rfl,rfl,hx9,?_⟩
 have s10:Same G6 (upd G9 lo (.lst [])):=fun b o e=>jo (jt e hno) (s69 b o e)
 generalize upd G9 lo (.lst [])=G10 at *
 clear hx9 s69 hno hxs xs sp es
 refine ⟨_,rfl,_,rfl,l,R,k,v,rfl,⟨⟨rs,s10 _ _ hGl6,hR6.mono s10⟩,hRl,hO.tk (.same (s06.trans s10)),hv6.mono s10⟩,so,sh,fun es ps qs G11 s11 sp hps hqs hqr=>?_⟩
 refine gQ ?_
 have s6b:=s10.trans s11
 clear s10 s11
 have hGl:=s6b _ _ hGl6
 have hR:=hR6.mono s6b
 have hv:=hv6.mono s6b
 have e6':=s6b _ _ e6
 have hB:=hB6.same s6b
 have t1b:=s6b _ _ t1
 have t1b':=s6b _ _ t1'
 have t3b:=t3.mono s6b
 have s0:=s06.trans s6b
 clear hGl6 hR6 hv6 e6 hB6 t1 t1' t3 s06 s6b
 have hdR:D.depthL (R.map Rw.toD)≤200:=yk fun d hd=>by
  obtain ⟨r,_,rfl⟩:=List.mem_map.mp hd
  exact jds r
 refine ⟨_,rfl,_,_,_,_,rfl,TyOf.int _,jg5 K,_,rfl,kh ?_⟩
 refine ⟨_,rfl,_,_,_,_,rfl,TyOf.int _,jg6 K,_,rfl,kh ?_⟩
 refine ⟨_,rfl,_,rfl,l,l6,rs,rs,R.map Rw.toD,R.map Rw.toD,rfl,rfl,hGl,e6',hdR,hR,hR,_,rfl,jef (by rw [decide_eq_true rfl];decide) ?_⟩
 have hww:=jcS sp hps hqs hqr t5 t5' t6 t6'
 refine ⟨_,rfl,_,rfl,BX.o,_,rfl,yy hB.o,BX.t 0,kvs,rfl,t1b,fun la hla=>?_⟩
 have sa:=jj hla (.lst ((kvs.map (·.1)).map kV))
 have ea:upd G11 la (.lst ((kvs.map (·.1)).map kV)) la=some (.lst ((ds.map fun d=>d.py.shown).map V.str)):=by rw [jg,Z2 t2]
 generalize upd G11 la (.lst ((kvs.map (·.1)).map kV))=Ga at *
 refine ⟨_,rfl,BX.o,_,rfl,jev (sa _ _ hB.o),BX.t 1,kvs',rfl,sa _ _ t1b',fun lb hlb=>?_⟩
 have sb:=jj hlb (.lst ((kvs'.map (·.1)).map kV))
 have eb:upd Ga lb (.lst ((kvs'.map (·.1)).map kV)) lb=some (.lst ((ds'.map fun d=>d.py.shown).map V.str)):=by rw [jg,Z2 t2']
 generalize upd Ga lb (.lst ((kvs'.map (·.1)).map kV))=Gb at *
 have l1:ds.length≤400:=by have:=congrArg List.length t2;rw [List.length_map,List.length_map] at this;omega
 have l2:ds'.length≤400:=by have:=congrArg List.length t2';rw [List.length_map,List.length_map] at this;omega
 refine ⟨la,lb,_,_,rfl,rfl,SqL.of (sb _ _ ea),SqL.of eb,zL (by rw [List.length_map,List.length_map,List.length_map,List.length_map];omega),fun lc hlc=>?_⟩
 rw [← List.map_append]
 have sc':=jj hlc (.lst (((ds.map fun d=>d.py.shown)++ds'.map fun d=>d.py.shown).map V.str))
 have ec:upd Gb lc (.lst (((ds.map fun d=>d.py.shown)++ds'.map fun d=>d.py.shown).map V.str)) lc=some (.lst (((ds.map fun d=>d.py.shown)++ds'.map fun d=>d.py.shown).map V.str)):=jg
 generalize upd Gb lc (.lst (((ds.map fun d=>d.py.shown)++ds'.map fun d=>d.py.shown).map V.str))=Gc at *
 have lT:((ds.map fun d=>d.py.shown)++ds'.map fun d=>d.py.shown).length≤1000:=by rw [List.length_append,List.length_map,List.length_map];omega
 generalize ((ds.map fun d=>d.py.shown)++ds'.map fun d=>d.py.shown)=T at *
 refine ⟨lc,T,rfl,SqL.of ec,lT,fun vs hvs=>?_⟩
 have sd:=jj hvs (jbm P w vs (dedupS T))
 refine ⟨vs,dedupS T,rfl,jg,Nat.le_trans (JJ T).2.1 lT,rfl,_,rfl,jef (by rw [hww];simp) ?_⟩
 have s0d:=(sa.trans sb).trans (sc'.trans sd)
 generalize upd Gc vs (jbm P w vs (dedupS T))=Gd at *
 clear sa sb sc' sd ea eb ec hla hlb hlc hvs
 refine ⟨_,rfl,_,rfl,l,R,k,v,rfl,⟨⟨rs,s0d _ _ hGl,hR.mono s0d⟩,hRl,hO.tk (.same (s0.trans s0d)),hv.mono s0d⟩,so2,fun lo2 es2 xs2 G12 s12 hno2 sp2 hxs2 hes2=>?_⟩
 have hkl:(kvs.map (·.2)).length≤400:=by rw [List.length_map];exact t7
 have s13:=s0d.trans s12
 obtain ⟨ps,p1,p2,p3,p4,p5⟩:=ja1 (t3b.mono s13) so2 t5 hkl
 refine ⟨_,rfl,BX.o,_,rfl,yy (s13 _ _ hB.o),.inr (.inr (.inl ⟨rfl,.inl ⟨_,s13 _ _ t1b⟩⟩)),BX.t 0,kvs,rfl,rfl,s13 _ _ t1b,fun vw hvw=>?_⟩
 have s8:=jj hvw (kZ vw (BX.t 0))
 refine ⟨vw,BX.t 0,kvs,ps,rfl,jg,s8 _ _ (s13 _ _ t1b),p2,fun q hq=>(p3 q hq).mono s8,p4,Nat.le_trans p5 (by decide),fun l9 qs h9 hq1 hq2=>?_⟩
 have s9:=jj h9 (.lst ((qs.map (·.2)).map V.ref))
 have e9:upd (upd G12 vw (kZ vw (BX.t 0))) l9 (.lst ((qs.map (·.2)).map V.ref)) l9=some (.lst ((qs.map (·.2)).map V.ref)):=jg
 have s79:=s8.trans s9
 generalize upd (upd G12 vw (kZ vw (BX.t 0))) l9 (.lst ((qs.map (·.2)).map V.ref))=G9 at *
 have hqh:HeldL G9 (qs.map (·.1)) ((qs.map (·.2)).map V.ref):=qP fun q hq=>(p3 q (hq1.mem_iff.mp hq)).mono s79
 have hee:=ZH sp2 p1 t4 t5 hq1 hq2
 have hdp:D.depthL es2≤200:=yk fun d hd=>so2.dep d (Kn sp2 d hd)
 refine ⟨lo2,l9,xs2,_,es2,qs.map (·.1),rfl,rfl,s79 _ _ hxs2,e9,hdp,hes2.mono s79,hqh,?_⟩
 rw [decide_eq_true hee]
 exact q _
end
abbrev jgt (o1 o2:Addr) (K:W.Frag):Sp:=jge K o1 o2
theorem el0 {P:List Value→Prop} (h:P []):∀ us:List Value,us.length=0→P us
 | [],_=>h
theorem el1 {P:List Value→Prop} (h:∀ a0,P [a0]):∀ us:List Value,us.length=1→P us
 | a :: v,e=>el0 (P:=fun v=>P (a :: v)) (h a) v (Nat.succ.inj e)
theorem el2 {P:List Value→Prop} (h:∀ a0 a1,P [a0,a1]):∀ us:List Value,us.length=2→P us
 | a :: v,e=>el1 (P:=fun v=>P (a :: v)) (h a) v (Nat.succ.inj e)
theorem el3 {P:List Value→Prop} (h:∀ a0 a1 a2,P [a0,a1,a2]):∀ us:List Value,us.length=3→P us
 | a :: v,e=>el2 (P:=fun v=>P (a :: v)) (h a) v (Nat.succ.inj e)
theorem el4 {P:List Value→Prop} (h:∀ a0 a1 a2 a3,P [a0,a1,a2,a3]):∀ us:List Value,us.length=4→P us
 | a :: v,e=>el3 (P:=fun v=>P (a :: v)) (h a) v (Nat.succ.inj e)
abbrev LkF (K:W.Frag) (f:Addr) (x n:Str) (st:Stmt) (oc:Value) (od:Option Addr) (kV dc pm:Value) (an:Option Addr) (cd ct:Value) (sl:Array (Option Value)):Prop:=K.lookup f=some ⟨oc,od,.func (W.fnOf x n (qT st) (qo st) (jp st) .none kV dc pm an cd ct),sl⟩
structure DefK (K:W.Frag) (f:Addr) (fd:FuncData) (x:Str) (st:Stmt):Prop where
 a:W.nsIn K mainGlobals x=some (some (.ref f))
 u:Fun K x x st f fd
theorem DefK.m {K:W.Frag} {f:Addr} {x:Str} {st:Stmt} {oc kV dc pm cd ct:Value} {od an:Option Addr} {sl:Array (Option Value)} (a:W.nsIn K mainGlobals x=some (some (.ref f))) (l:LkF K f x x st oc od kV dc pm an cd ct sl) (c:W.codeIn K cd x=true) (k:W.keepIn K (.ref f)=true):DefK K f (W.fnOf x x (qT st) (qo st) (jp st) .none kV dc pm an cd ct) x st:=⟨a,jaN l c k⟩
theorem mk2 {P:Program} {w:World} {K:W.Frag} {mg:Str→Option Value} {base h:Heap} (X:K.In h) (G:h.Ns mainGlobals mg) {k:Nat} {x:Str} {st:Stmt} {f:Addr} {fd:FuncData} {ps:List Str} {sp:Sp} (a:DefK K f fd x st) (ok:FnOk P w K mg base CX0 k f fd ps sp) (b:∀ (kV doc pm:Value) (an:Option Addr) (cdv ct:Value) (us:List Value),us.length=ps.length→bindArgs (W.fnOf x x (qT st) (qo st) (jp st) .none kV doc pm an cdv ct) ⟨us,[]⟩=pure (ps.zip us):=by exact fun _ _ _ _ _ _=>by first | exact el0 rfl | exact el1 fun _=>rfl | exact el2 fun _ _=>rfl | exact el3 fun _ _ _=>rfl | exact el4 fun _ _ _ _=>rfl ):Fn P w K mg base k x ps sp:=Fn.mk' a.u (a.u.binds b) (W.mg_of X G a.a) ok
set_option autoImplicit true in
theorem jhh {l:PySem.W.OpenLaw} {w:World} {K:W.Frag} {h:Heap} {mg:Str→Option Value} {fa:Addr} (X:K.In h) (G:h.Ns mainGlobals mg) (hfa:mg "law" = some (.ref fa))
  (a0:DefK K f0 d0 "more_than" zq)
  (a1:DefK K f1 d1 "at_most" yY)
  (a2:DefK K f2 d2 "entry_of" yg)
  (a3:DefK K f3 d3 "alike" Y3)
  (a4:DefK K f4 d4 "turned_tie" qM)
  (a5:DefK K f5 d5 "number_stands_for" kn)
  (a6:DefK K f6 d6 "spot_of" yS)
  (a7:DefK K f7 d7 "version_of" qq)
  (a8:DefK K f8 d8 "stands_for" qN)
  (a9:DefK K f9 d9 "turned" J1)
  (a10:DefK K f10 d10 "least_tie" zr)
  (a11:DefK K f11 d11 "body_of" yX)
  (a12:DefK K f12 d12 "body_tie" yh)
  (a13:DefK K f13 d13 "take_put" ze)
  (a14:DefK K f14 d14 "know" jbo)
  (a15:DefK K f15 d15 "deny" jbq)
  (a16:DefK K f16 d16 "take_row" zd)
  (a17:DefK K f17 d17 "each_once" qh)
  (a18:DefK K f18 d18 "gathered" yf)
  (a19:DefK K f19 d19 "spots" YZ)
  (a20:DefK K f20 d20 "width" Kv)
  (a21:DefK K f21 d21 "_law_tie" jeT)
  (a22:DefK K f22 d22 "_law_more" jbn)
  (a23:DefK K f23 d23 "_law_entry" Y1)
  (a24:DefK K f24 d24 "_law_kept" Yo)
  (a25:DefK K f25 d25 "_law_stand" Kx)
  (a26:DefK K f26 d26 "_law_spot" Y0)
  (a27:DefK K f27 d27 "_law_version" zO)
  (a28:DefK K f28 d28 "_law_source" yT)
  (a29:DefK K f29 d29 "_law_against" yZ)
  (a30:DefK K f30 d30 "_law_body" Kz)
  (a31:DefK K f31 d31 "_law_known" Ky)
  (a32:DefK K f32 d32 "_law_denied" yU)
  (a33:DefK K f33 d33 "_law_walk" Kw)
  (a34:DefK K f34 d34 "_law_cell_at" yW)
  (a35:DefK K f35 d35 "_law_words" zN)
  (a36:DefK K f36 d36 "_law_mix" jeU)
  (a37:DefK K f37 d37 "_law_place" J2)
  (a38:DefK K f38 d38 "_law_end" jbp)
  (a39:DefK K f39 d39 "_law_term" YY)
  (a40:DefK K f40 d40 "_law_drawn" Y2)
  (a41:DefK K f41 d41 "_law_claim" yV)
  (a42:DefK K f42 d42 "_law_straight" qB)
  (a43:W.nsIn K mainGlobals "law" = some (some (.ref f43)))
  (l43:LkF K f43 "law" "law" JV oc43 od43 kV43 dc43 pm43 an43 cd43 ct43 sl43) (c43:W.codeIn K cd43 "law" = true) (k43:W.keepIn K (.ref f43)=true)
  (aC0:W.nsIn K mainGlobals "Case" = some (some (.ref C0))) (a44:W.findIn K (.ref C0) "__init__" = some (some (.ref f44))) (i44:W.isFn K (.ref f44)=true)
  (l44:LkF K f44 "__init__" "Case.__init__" kQ oc44 od44 kV44 dc44 pm44 an44 cd44 ct44 sl44) (c44:W.codeIn K cd44 "Case.__init__" = true) (k44:W.keepIn K (.ref f44)=true)
  (pg0:W.plainGet K C0 Str.empty=true) (hd0:W.hasDictIn K C0=true) (po0:W.plainOver K C0=true) (sa0:W.findIn K (.ref C0) "__setattr__" = some (some (.builtin "object.__setattr__"))) (mk0:W.makesIn K C0=true) (kc0:W.keepIn K (.ref C0)=true)
  (n0_0:W.findIn K (.ref C0) "numbers" = some none)
  (n0_1:W.findIn K (.ref C0) "versions" = some none)
  (n0_2:W.findIn K (.ref C0) "named" = some none)
  (n0_3:W.findIn K (.ref C0) "lost" = some none)
  (n0_4:W.findIn K (.ref C0) "ties" = some none)
  (n0_5:W.findIn K (.ref C0) "spots" = some none)
  (n0_6:W.findIn K (.ref C0) "puts" = some none)
  (n0_7:W.findIn K (.ref C0) "eaches" = some none)
  (n0_8:W.findIn K (.ref C0) "rises" = some none)
  (go1:W.nsIn K mainGlobals "OWN_PLACE" = some (some (.ref o1))) (go2:W.nsIn K mainGlobals "OTHER_OWN_PLACE" = some (some (.ref o2)))
  (z0:W.nsIn K mainGlobals "len" = some none) (z1:W.nsIn K mainGlobals "max" = some none) (z2:W.nsIn K mainGlobals "min" = some none) (z3:W.nsIn K mainGlobals "all" = some none) (z4:W.nsIn K mainGlobals "isinstance" = some none) (z5:W.nsIn K mainGlobals "abs" = some none) (z6:W.nsIn K mainGlobals "sorted" = some none) (z7:W.nsIn K mainGlobals "int" = some none) (z8:W.nsIn K mainGlobals "str" = some none) (z9:W.nsIn K mainGlobals "bool" = some none) (z10:W.nsIn K mainGlobals "tuple" = some none) (z11:W.nsIn K mainGlobals "list" = some none) (z12:W.nsIn K mainGlobals "dict" = some none) (z13:W.nsIn K mainGlobals "range" = some none) (z14:W.nsIn K mainGlobals "set" = some none) (z15:W.nsIn K mainGlobals "enumerate" = some none) (z16:W.nsIn K mainGlobals "repr" = some none) :
  ∃ fd:FuncData,(∀ (s:Shared) (v:Value),BindsTo s fd ⟨[v],[]⟩ [("_law_script",v)])∧∀ base:Heap,K.In base→base.Ns mainGlobals mg→FnOk l.prog w K mg base CX0 18 fa fd ["_law_script"] (jgt o1 o2 K):=by
 have e:=hfa.symm.trans (W.mg_of X G a43)
 cases e
 have B:Free0 mg:=⟨W.mg_none_of X G z0,W.mg_none_of X G z1,W.mg_none_of X G z2,W.mg_none_of X G z3,W.mg_none_of X G z4,W.mg_none_of X G z5,W.mg_none_of X G z6,W.mg_none_of X G z7,W.mg_none_of X G z8,W.mg_none_of X G z9,W.mg_none_of X G z10,W.mg_none_of X G z11,W.mg_none_of X G z12,W.mg_none_of X G z13,W.mg_none_of X G z14⟩
 have Z_enumerate:mg "enumerate" = none:=W.mg_none_of X G z15
 have Z_repr:mg "repr" = none:=W.mg_none_of X G z16
 have G1:=W.mg_of X G go1
 have G2:=W.mg_of X G go2
 have U43:=jaN (st:=JV) l43 c43 k43
 have U44:=jaN (st:=kQ) l44 c44 k44
 have b44:=U44.binds (ps:=["self"]) fun _ _ _ _ _ _=>el1 (fun _=>rfl)
 have T_Case:ClsC K C0:=⟨⟨pg0,hd0,po0,sa0⟩,n0_0,n0_1,n0_2,n0_3,n0_4,n0_5,n0_6,n0_7,n0_8⟩
 refine ⟨W.fnOf "law" "law" (qT JV) (qo JV) (jp JV) .none kV43 dc43 pm43 an43 cd43 ct43,fun s v=>.of_eq rfl,fun base _ _=>?_⟩
 have MK:=@mk2 l.prog w K mg base h X G
 have F_more_than:=MK a0 (jfv a0.u)
 have F_at_most:=MK a1 (jg0 a1.u)
 have F_entry_of:=MK a2 (jgZ a2.u)
 have F_alike:=MK a3 (jfw a3.u F_at_most)
 have F_turned_tie:=MK a4 (jdV a4.u)
 have F_number_stands_for:=MK a5 (jgW T_Case a5.u)
 have F_spot_of:=MK a6 (jft a6.u F_number_stands_for F_more_than)
 have F_version_of:=MK a7 (jgU T_Case a7.u)
 have F_stands_for:=MK a8 (jdX T_Case a8.u F_number_stands_for F_spot_of F_version_of F_entry_of)
 have F_turned:=MK a9 (jcd a9.u)
 have F_least_tie:=MK a10 (jcg a10.u F_stands_for F_more_than F_at_most)
 have F_body_of:=MK a11 (jd4 a11.u F_version_of F_number_stands_for)
 have F_body_tie:=MK a12 (jd3 a12.u F_entry_of F_more_than F_at_most)
 have F_take_put:=MK a13 (jfr T_Case a13.u F_spot_of F_stands_for F_more_than F_version_of F_entry_of F_alike)
 have F_know:=MK a14 (jfx T_Case a14.u F_least_tie F_spot_of F_body_of F_version_of)
 have F_deny:=MK a15 (jfC T_Case G1 G2 a15.u F_turned F_least_tie F_spot_of F_body_of F_body_tie F_at_most F_turned_tie F_version_of F_more_than F_entry_of)
 have F_take_row:=MK a16 (jfq T_Case a16.u F_more_than F_stands_for F_take_put F_know)
 have F_each_once:=MK a17 (jfu a17.u B)
 have M_Case:MkFn l.prog w K mg base _ "Case" C0 _ _:=⟨f44,_,⟨mk0,a44,i44,kc0⟩,jfE (P:=l.prog) (w:=w) (base:=base) T_Case U44,b44,W.mg_of X G aC0⟩
 have F_gathered:=MK a18 (jfz T_Case a18.u B Z_enumerate M_Case F_take_row F_deny F_each_once)
 have F_spots:=MK a19 (jdY T_Case a19.u F_gathered)
 have F_width:=MK a20 (jdT T_Case a20.u B F_gathered F_each_once)
 have F_tie:=MK a21 (jfs a21.u)
 have F_more:=MK a22 (jd0 a22.u)
 have F_entry:=MK a23 (jfA a23.u)
 have F_kept:=MK a24 (jfy a24.u Z_repr)
 have F_stand:=MK a25 (jce a25.u)
 have F_spot:=MK a26 (jdZ a26.u F_stand F_more)
 have F_version:=MK a27 (jfp a27.u)
 have F_source:=MK a28 (jgV a28.u F_stand F_spot F_kept F_version F_entry)
 have F_against:=MK a29 (jaA a29.u F_version F_stand)
 have F_body:=MK a30 (jd5 a30.u B F_entry F_more F_tie)
 have F_known:=MK a31 (jd1 a31.u F_source F_kept F_tie F_more F_spot F_against F_version)
 have F_denied:=MK a32 (jch a32.u F_source F_kept F_tie F_more F_spot F_against F_body F_version F_entry)
 have F_walk:=MK a33 (jdU a33.u B Z_enumerate F_known F_denied F_source F_kept F_tie F_more F_spot F_version F_entry)
 have F_cell_at:=MK a34 (jfD a34.u B)
 have F_words:=MK a35 (jdS a35.u B)
 have F_mix:=MK a36 (jgX a36.u)
 have F_place:=MK a37 (jcf a37.u B)
 have F_end:=MK a38 (jfB a38.u F_place)
 have F_term:=MK a39 (jdW a39.u F_place)
 have F_drawn:=MK a40 (jd2 a40.u B F_term F_mix F_place)
 have F_claim:=MK a41 (jci a41.u B F_mix F_place F_term F_end)
 have F_straight:=MK a42 (ZT a42.u B Z_enumerate F_mix F_claim F_drawn)
 exact jgY U43 B F_cell_at F_words F_straight F_claim F_walk F_spots F_width
theorem DefK.drop {K:W.Frag} {os:List Addr} (hs:TupsF K os) {f:Addr} {fd:FuncData} {x:Str} {st:Stmt} (a:DefK K f fd x st):DefK (jT os K) f fd x st:=⟨(jS hs _ _).trans a.a,a.u.drop hs⟩
set_option autoImplicit true in
theorem all_mk2 {l:PySem.W.OpenLaw} {w:World} {K:W.Frag} {h:Heap} {mg:Str→Option Value} {fa:Addr} (X:K.In h) (G:h.Ns mainGlobals mg) (hfa:mg "law" = some (.ref fa))
  (a0:DefK K f0 d0 "more_than" zq)
  (a1:DefK K f1 d1 "at_most" yY)
  (a2:DefK K f2 d2 "entry_of" yg)
  (a3:DefK K f3 d3 "alike" Y3)
  (a4:DefK K f4 d4 "turned_tie" qM)
  (a5:DefK K f5 d5 "number_stands_for" kn)
  (a6:DefK K f6 d6 "spot_of" yS)
  (a7:DefK K f7 d7 "version_of" qq)
  (a8:DefK K f8 d8 "stands_for" qN)
  (a9:DefK K f9 d9 "turned" J1)
  (a10:DefK K f10 d10 "least_tie" zr)
  (a11:DefK K f11 d11 "body_of" yX)
  (a12:DefK K f12 d12 "body_tie" yh)
  (a13:DefK K f13 d13 "take_put" ze)
  (a14:DefK K f14 d14 "know" jbo)
  (a15:DefK K f15 d15 "deny" jbq)
  (a16:DefK K f16 d16 "take_row" zd)
  (a17:DefK K f17 d17 "each_once" qh)
  (a18:DefK K f18 d18 "gathered" yf)
  (a19:DefK K f19 d19 "spots" YZ)
  (a20:DefK K f20 d20 "width" Kv)
  (a21:DefK K f21 d21 "_law_tie" jeT)
  (a22:DefK K f22 d22 "_law_more" jbn)
  (a23:DefK K f23 d23 "_law_entry" Y1)
  (a24:DefK K f24 d24 "_law_kept" Yo)
  (a25:DefK K f25 d25 "_law_stand" Kx)
  (a26:DefK K f26 d26 "_law_spot" Y0)
  (a27:DefK K f27 d27 "_law_version" zO)
  (a28:DefK K f28 d28 "_law_source" yT)
  (a29:DefK K f29 d29 "_law_against" yZ)
  (a30:DefK K f30 d30 "_law_body" Kz)
  (a31:DefK K f31 d31 "_law_known" Ky)
  (a32:DefK K f32 d32 "_law_denied" yU)
  (a33:DefK K f33 d33 "_law_walk" Kw)
  (a34:DefK K f34 d34 "_law_cell_at" yW)
  (a35:DefK K f35 d35 "_law_words" zN)
  (a36:DefK K f36 d36 "_law_mix" jeU)
  (a37:DefK K f37 d37 "_law_place" J2)
  (a38:DefK K f38 d38 "_law_end" jbp)
  (a39:DefK K f39 d39 "_law_term" YY)
  (a40:DefK K f40 d40 "_law_drawn" Y2)
  (a41:DefK K f41 d41 "_law_claim" yV)
  (a42:DefK K f42 d42 "_law_straight" qB)
  (a43:W.nsIn K mainGlobals "law" = some (some (.ref f43)))
  (l43:LkF K f43 "law" "law" JV oc43 od43 kV43 dc43 pm43 an43 cd43 ct43 sl43) (c43:W.codeIn K cd43 "law" = true) (k43:W.keepIn K (.ref f43)=true)
  (aC0:W.nsIn K mainGlobals "Case" = some (some (.ref C0))) (a44:W.findIn K (.ref C0) "__init__" = some (some (.ref f44))) (i44:W.isFn K (.ref f44)=true)
  (l44:LkF K f44 "__init__" "Case.__init__" kQ oc44 od44 kV44 dc44 pm44 an44 cd44 ct44 sl44) (c44:W.codeIn K cd44 "Case.__init__" = true) (k44:W.keepIn K (.ref f44)=true)
  (pg0:W.plainGet K C0 Str.empty=true) (hd0:W.hasDictIn K C0=true) (po0:W.plainOver K C0=true) (sa0:W.findIn K (.ref C0) "__setattr__" = some (some (.builtin "object.__setattr__"))) (mk0:W.makesIn K C0=true) (kc0:W.keepIn K (.ref C0)=true)
  (n0_0:W.findIn K (.ref C0) "numbers" = some none)
  (n0_1:W.findIn K (.ref C0) "versions" = some none)
  (n0_2:W.findIn K (.ref C0) "named" = some none)
  (n0_3:W.findIn K (.ref C0) "lost" = some none)
  (n0_4:W.findIn K (.ref C0) "ties" = some none)
  (n0_5:W.findIn K (.ref C0) "spots" = some none)
  (n0_6:W.findIn K (.ref C0) "puts" = some none)
  (n0_7:W.findIn K (.ref C0) "eaches" = some none)
  (n0_8:W.findIn K (.ref C0) "rises" = some none)
  (go1:W.nsIn K mainGlobals "OWN_PLACE" = some (some (.ref o1))) (go2:W.nsIn K mainGlobals "OTHER_OWN_PLACE" = some (some (.ref o2)))
  (z0:W.nsIn K mainGlobals "len" = some none) (z1:W.nsIn K mainGlobals "max" = some none) (z2:W.nsIn K mainGlobals "min" = some none) (z3:W.nsIn K mainGlobals "all" = some none) (z4:W.nsIn K mainGlobals "isinstance" = some none) (z5:W.nsIn K mainGlobals "abs" = some none) (z6:W.nsIn K mainGlobals "sorted" = some none) (z7:W.nsIn K mainGlobals "int" = some none) (z8:W.nsIn K mainGlobals "str" = some none) (z9:W.nsIn K mainGlobals "bool" = some none) (z10:W.nsIn K mainGlobals "tuple" = some none) (z11:W.nsIn K mainGlobals "list" = some none) (z12:W.nsIn K mainGlobals "dict" = some none) (z13:W.nsIn K mainGlobals "range" = some none) (z14:W.nsIn K mainGlobals "set" = some none) (z15:W.nsIn K mainGlobals "enumerate" = some none) (z16:W.nsIn K mainGlobals "repr" = some none)
  (Lo1:K.lookup o1=some ⟨.type "tuple",odo1,.seq #[.ref i1,.int 0 to11] no1,slo1⟩) (Li1:K.lookup i1=some ⟨.type "tuple",odi1,.seq #[.str "own" ti10,.int 0 ti11] ni1,sli1⟩) (Lo2:K.lookup o2=some ⟨.type "tuple",odo2,.seq #[.ref i2,.int 0 to21] no2,slo2⟩) (Li2:K.lookup i2=some ⟨.type "tuple",odi2,.seq #[.str "own" ti20,.int 1 ti21] ni2,sli2⟩) :
  ∃ (os:List Addr) (fd:FuncData) (sp:Sp),TupsF K os∧(∀ (s:Shared) (u:Value),BindsTo s fd ⟨[u],[]⟩ [("_law_script",u)])∧(∀ (H:Hp) (a:Addr) (ns:List Int),ns.length≤63→Jr K os H→SqL (jT os K) H a (ns.map V.int)→sp [.ref a] H (fun v _=>v=.bl true) fun _ _ _=>False)∧∀ base:Heap,(jT os K).In base→base.Ns mainGlobals mg→FnOk l.prog w (jT os K) mg base CX0 18 fa fd ["_law_script"] sp:=by
 have hs:TupsF K [o1,i1,o2,i2]:=fun b hb=>by
  simp only [List.mem_cons,List.not_mem_nil,or_false] at hb
  rcases hb with rfl | rfl | rfl | rfl
  ·exact ⟨_,_,_,_,Lo1,Nat.le_of_ble_eq_true rfl,(.cons rfl (.cons ⟨_,rfl⟩ .nil))⟩
  ·exact ⟨_,_,_,_,Li1,Nat.le_of_ble_eq_true rfl,(.cons ⟨_,rfl⟩ (.cons ⟨_,rfl⟩ .nil))⟩
  ·exact ⟨_,_,_,_,Lo2,Nat.le_of_ble_eq_true rfl,(.cons rfl (.cons ⟨_,rfl⟩ .nil))⟩
  ·exact ⟨_,_,_,_,Li2,Nat.le_of_ble_eq_true rfl,(.cons ⟨_,rfl⟩ (.cons ⟨_,rfl⟩ .nil))⟩
 obtain ⟨fd,h1,h2⟩:=jhh (K:=jT [o1,i1,o2,i2] K) (jcH X) G hfa (DefK.drop hs a0) (DefK.drop hs a1) (DefK.drop hs a2) (DefK.drop hs a3) (DefK.drop hs a4) (DefK.drop hs a5) (DefK.drop hs a6) (DefK.drop hs a7) (DefK.drop hs a8) (DefK.drop hs a9) (DefK.drop hs a10) (DefK.drop hs a11) (DefK.drop hs a12) (DefK.drop hs a13) (DefK.drop hs a14) (DefK.drop hs a15) (DefK.drop hs a16) (DefK.drop hs a17) (DefK.drop hs a18) (DefK.drop hs a19) (DefK.drop hs a20) (DefK.drop hs a21) (DefK.drop hs a22) (DefK.drop hs a23) (DefK.drop hs a24) (DefK.drop hs a25) (DefK.drop hs a26) (DefK.drop hs a27) (DefK.drop hs a28) (DefK.drop hs a29) (DefK.drop hs a30) (DefK.drop hs a31) (DefK.drop hs a32) (DefK.drop hs a33) (DefK.drop hs a34) (DefK.drop hs a35) (DefK.drop hs a36) (DefK.drop hs a37) (DefK.drop hs a38) (DefK.drop hs a39) (DefK.drop hs a40) (DefK.drop hs a41) (DefK.drop hs a42) ((jS hs _ _).trans a43) (JI hs l43) ((zT hs _ _).trans c43) ((qR hs _).trans k43) ((jS hs _ _).trans aC0) ((j5 hs _ _).trans a44) ((jct hs _).trans i44) (JI hs l44) ((zT hs _ _).trans c44) ((qR hs _).trans k44) ((K4 hs _ _).trans pg0) ((KO hs _).trans hd0) ((KA hs _).trans po0) ((j5 hs _ _).trans sa0) ((Y5 hs _).trans mk0) ((qR hs _).trans kc0) ((j5 hs _ _).trans n0_0) ((j5 hs _ _).trans n0_1) ((j5 hs _ _).trans n0_2) ((j5 hs _ _).trans n0_3) ((j5 hs _ _).trans n0_4) ((j5 hs _ _).trans n0_5) ((j5 hs _ _).trans n0_6) ((j5 hs _ _).trans n0_7) ((j5 hs _ _).trans n0_8) ((jS hs _ _).trans go1) ((jS hs _ _).trans go2) ((jS hs _ _).trans z0) ((jS hs _ _).trans z1) ((jS hs _ _).trans z2) ((jS hs _ _).trans z3) ((jS hs _ _).trans z4) ((jS hs _ _).trans z5) ((jS hs _ _).trans z6) ((jS hs _ _).trans z7) ((jS hs _ _).trans z8) ((jS hs _ _).trans z9) ((jS hs _ _).trans z10) ((jS hs _ _).trans z11) ((jS hs _ _).trans z12) ((jS hs _ _).trans z13) ((jS hs _ _).trans z14) ((jS hs _ _).trans z15) ((jS hs _ _).trans z16)
 exact ⟨_,fd,_,hs,h1,fun H a ns hl hT hS=>⟨a,ns,rfl,hS,hl,⟨(jP (hT o1 (by simp) _ _ _ _ Lo1) (je (jP (hT i1 (by simp) _ _ _ _ Li1) (je jA (je jK jw))) (je jK jw))),(jP (hT o2 (by simp) _ _ _ _ Lo2) (je (jP (hT i2 (by simp) _ _ _ _ Li2) (je jA (je jK jw))) (je jK jw)))⟩,fun _=>rfl⟩,h2⟩
theorem walk {l:PySem.W.OpenLaw} {q:Program} {loose:List Str} {XP:(Str→Option Value)→Heap→Prop} {YP:World→Heap→Prop} {d:DefRec} {K:Params→W.Frag} (hn:l.most=some 63) (hdf:d.params.defaults=[])
  (hY:∀ (w:World) (h:Heap),YP w h→(K w.params).In h)
  (F:∀ (w:World) (mg:Str→Option Value) (fa:Addr) (h:Heap),(K w.params).In h→h.Ns mainGlobals mg→mg d.name=some (.ref fa)→
   ∃ (os:List Addr) (fd:FuncData) (sp:Sp),TupsF (K w.params) os∧(∀ (s:Shared) (u:Value),BindsTo s fd ⟨[u],[]⟩ [("_law_script",u)])∧(∀ (H:Hp) (a:Addr) (ns:List Int),ns.length≤63→Jr (K w.params) os H→SqL (jT os (K w.params)) H a (ns.map V.int)→sp [.ref a] H (fun v _=>v=.bl true) fun _ _ _=>False)∧∀ base:Heap,(jT os (K w.params)).In base→base.Ns mainGlobals mg→FnOk l.prog w (jT os (K w.params)) mg base CX0 18 fa fd ["_law_script"] sp) :
  PySem.W.WalkO q loose XP YP l.row.toRowW d [] (fun f vs=>PySem.call f vs):=
 L2.walk_ofT (n:=63) (k:=18) (x:="_law_script") hn (by decide) hdf ⟨rfl,by decide,by decide,rfl⟩ hY F
end LW
namespace PySem.W.Fast
def tw10150671130920506224:=()
def tw10151901348193989105:=()
def tw10197225107542195610:=()
def tw10280185346294249926:=()
def tw10408826159666474761:=()
def tw10495083798507260021:=()
def tw10657142146246385464:=()
def tw10714633595596758101:=()
def tw11245848035332356705:=()
def tw11623435028619140641:=()
def tw11669332377124362647:=()
def tw11673993502813895525:=()
def tw11785113402115511128:=()
def tw11842999482157229884:=()
def tw11854511338269398883:=()
def tw12064947546852244395:=()
def tw12073339657562726553:=()
def tw12270498662332844930:=()
def tw12333163036111727152:=()
def tw12534074432849183995:=()
def tw12577484963628063709:=()
def tw12620571636068275838:=()
def tw12798953360898320048:=()
def tw12955148627513421830:=()
def tw13037392147387141388:=()
def tw13495661989117460635:=()
def tw13518140824101637537:=()
def tw13531176329487457071:=()
def tw13653278915346048753:=()
def tw13909351037822905432:=()
def tw14295646856414419776:=()
def tw14427637253893240057:=()
def tw14449564899131118497:=()
def tw14459442228114640820:=()
def tw14473934656844992429:=()
def tw14840449413534359804:=()
def tw14879602350243018344:=()
def tw14930633912048814972:=()
def tw14958195751032753909:=()
def tw15219929711430220679:=()
def tw15228020132134152995:=()
def tw15236028690405291663:=()
def tw15306109843539173763:=()
def tw15310558577323635715:=()
def tw15517175949083483770:=()
def tw15544312675509781554:=()
def tw15642656658055188219:=()
def tw15784919913099999787:=()
def tw15805474010126570683:=()
def tw15837098898732465705:=()
def tw16185140871039578898:=()
def tw16540364367889008216:=()
def tw16582320824807611023:=()
def tw1670682937765272723:=()
def tw16954722993400747325:=()
def tw17087711717052103203:=()
def tw17336500047285758339:=()
def tw17672871976598014045:=()
def tw17717601225827239163:=()
def tw17750322283610719011:=()
def tw17809312977067849327:=()
def tw17831376053057276712:=()
def tw18029080533319270230:=()
def tw18123157730034808578:=()
def tw18125686784754266952:=()
def tw18211696170903715421:=()
def tw18273473918127580424:=()
def tw2084218802834466900:=()
def tw2099295686841008386:=()
def tw2139430387154086742:=()
def tw2203163345395727643:=()
def tw2349688648276655186:=()
def tw2595100690457154011:=()
def tw2596159819112979658:=()
def tw2930975273332951685:=()
def tw2979337016349268814:=()
def tw306039967196537341:=()
def tw3459659321122872013:=()
def tw3504032778163210608:=()
def tw3763579908901590024:=()
def tw3843251590983045935:=()
def tw3999107241697150949:=()
def tw4002624666858554497:=()
def tw4034151628248560826:=()
def tw4055341330005988566:=()
def tw4304095562195520773:=()
def tw454196849962672467:=()
def tw46620179159328016:=()
def tw494537976294760686:=()
def tw5058034627266608586:=()
def tw5143670873834687063:=()
def tw5282437790078037344:=()
def tw5907441294484154845:=()
def tw6020834067526553662:=()
def tw634589763275158998:=()
def tw6379712075903433829:=()
def tw6412437162454345938:=()
def tw6738368256920232860:=()
def tw6949100038502684854:=()
def tw7007955439245929931:=()
def tw7143382056873287571:=()
def tw7301628064201322026:=()
def tw7392597976353814731:=()
def tw7484464352344136555:=()
def tw7497977156143588990:=()
def tw7551684642884424779:=()
def tw7611477388673631191:=()
def tw7630975041920604523:=()
def tw8013313919153995202:=()
def tw819438143551295330:=()
def tw822935230305372163:=()
def tw825665988425541339:=()
def tw860427009796946654:=()
def tw8687736637188175017:=()
def tw8939571578735506753:=()
def tw8978244643139790197:=()
def tw9017647390211109277:=()
def tw941770381899866208:=()
def tw9545399605288413433:=()
def tw9547495454708030414:=()
def tw9636039203250430435:=()
def tw9780991952711017557:=()
end PySem.W.Fast
open PySem PySem.W PyProof.Rows
set_option maxRecDepth 100000 in
set_option maxHeartbeats 0 in
theorem PySem.Challenge.cw_outlineward_k43_spots_and_width_holds : PySem.Challenge.rw_outlineward_k43_spots_and_width.Holds := by
 w_on;o_law;k_head;(case hw=>w_witness2)
 k_fill
 refine LW.walk (l:=PySem.Challenge.rw_outlineward_k43_spots_and_width) rfl rfl (fun w h Y=>W.kIn_of Y) ?F
 case F=>
  intro w mg fa h KX G hmg
  refine' LW.all_mk2 KX G hmg ..
  all_goals try apply LW.DefK.m
  all_goals try ((try unfold LW.LkF);first | k_is | kit_is | rfl | kernel_rfl)
