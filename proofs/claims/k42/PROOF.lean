import PyProof.Rows.All
import Wide.All
import OpenK.AllK
import Wide.FinOn
import Lean
import PyProof.EqAt
import PyProof.EqKinds
import PyProof.TupleCall
import PyProof.NeKinds
import KE.KEqDict
import KE.KDictSum
import PyProof.Rows.StrMul
import PyProof.Rows.SortStr
import PyProof.Rows.SortWalk
import PyProof.Rows.SortShellK
import KE.KSortTup
import PyProof.IsiH_list
import KE.KDictOf
import KE.KItemsList
import PyProof.SetKind
import PyProof.Rows.SetFrom
import PyProof.IsRules
import PyProof.EnumStmt
import PyProof.EnumFor
import PyProof.EnumMake
import PyProof.Rows.StrJoin2
import KE.KDictList
import PyProof.StrLawsJoin
import PyProof.SeqI3
import PySem.Challenge.RW_outlineward_k42_barred_at_the_first
set_option Elab.async false
set_option linter.all false
set_option maxRecDepth 100000
set_option maxHeartbeats 4000000
namespace L2
open PySem PySem.Spec PyProof.Rows
abbrev Key:=Sum Int Str
def keyIs:Key→Value→Bool
 | .inl k,v=>Value.isInt k v
 | .inr x,v=>Value.isStrOf x v
def keyH (w:World):Key→Int
 | .inl k=>hashInt k
 | .inr x=>hashStr w x
theorem keyIs_shape:∀ {k:Key} {v:Value},keyIs k v=true→(∃ i t,k=Sum.inl i∧v=Value.int i t)∨(∃ x t,k=Sum.inr x∧v=Value.str x t)
 | .inl i,v,h=>by
  obtain ⟨t,e⟩:=Value.isInt_shape (k:=i) (v:=v) h
  exact .inl ⟨i,t,rfl,e⟩
 | .inr x,v,h=>by
  obtain ⟨t,e⟩:=Value.isStrOf_shape (x:=x) (v:=v) h
  exact .inr ⟨x,t,rfl,e⟩
theorem keyIs_int (i:Int) (t:Tok):keyIs (.inl i) (.int i t)=true:=by simp [keyIs,Value.isInt]
theorem keyIs_str (x:Str) (t:Tok):keyIs (.inr x) (.str x t)=true:=by simp [keyIs,Value.isStrOf]
theorem key_ll (a b:Int):decide ((Sum.inl a:Key)=Sum.inl b)=(a == b):=by
 by_cases e:a=b
 ·subst e;simp
 ·have h:¬ (Sum.inl a:Key)=Sum.inl b:=fun q=>e (Sum.inl.inj q)
  rw [decide_eq_false h]
  exact (beq_eq_false_iff_ne.mpr e).symm
theorem key_rr (a b:Str):decide ((Sum.inr a:Key)=Sum.inr b)=decide (a=b):=by
 by_cases e:a=b
 ·subst e;simp
 ·have h:¬ (Sum.inr a:Key)=Sum.inr b:=fun q=>e (Sum.inr.inj q)
  rw [decide_eq_false h,decide_eq_false e]
theorem key_lr (a:Int) (b:Str):decide ((Sum.inl a:Key)=Sum.inr b)=false:=decide_eq_false (fun q=>nomatch q)
theorem key_rl (a:Str) (b:Int):decide ((Sum.inr a:Key)=Sum.inl b)=false:=decide_eq_false (fun q=>nomatch q)
def mixKind (prog:Program) (w:World):PySem.KeyKind prog w Key where
 is:=keyIs
 hash:=keyH w
 inj:=fun v a b ha hb=>by
  rcases keyIs_shape ha with ⟨i,t,rfl,rfl⟩ | ⟨x,t,rfl,rfl⟩
  ·rcases keyIs_shape hb with ⟨j,u,rfl,e⟩ | ⟨y,u,rfl,e⟩
   ·injection e with e1 _;rw [e1]
   ·exact nomatch e
  ·rcases keyIs_shape hb with ⟨j,u,rfl,e⟩ | ⟨y,u,rfl,e⟩
   ·exact nomatch e
   ·injection e with e1 _;rw [e1]
 byValue:=fun k v h=>by
  rcases keyIs_shape h with ⟨i,t,rfl,rfl⟩ | ⟨x,t,rfl,rfl⟩ <;> rfl
 pyHash:=fun hv h=>by
  rcases keyIs_shape hv with ⟨i,t,rfl,rfl⟩ | ⟨x,t,rfl,rfl⟩
  ·exact wpAny_pyHash_int h
  ·exact wpAny_pyHash_str h
 eqBool:=fun hu hv h=>by
  rcases keyIs_shape hu with ⟨i,t,rfl,rfl⟩ | ⟨x,t,rfl,rfl⟩
  ·rcases keyIs_shape hv with ⟨j,u,rfl,rfl⟩ | ⟨y,u,rfl,rfl⟩
   ·rw [key_ll] at h;exact wpAny_eqBool_int h
   ·rw [key_lr] at h;exact SeqAt.EqAt.int_str i t y u _ _ _ _ h
  ·rcases keyIs_shape hv with ⟨j,u,rfl,rfl⟩ | ⟨y,u,rfl,rfl⟩
   ·rw [key_rl] at h;exact SeqAt.EqAt.str_int x t j u _ _ _ _ h
   ·rw [key_rr] at h;exact wpAny_eqBool_str h
 «strs»:=fun k x t v h=>by
  rcases keyIs_shape h with ⟨i,u,rfl,e⟩ | ⟨y,u,rfl,e⟩
  ·exact nomatch e
  ·injection e with e1 _
   subst e1
   cases v <;> rfl
theorem mixKind_int (prog:Program) (w:World) (i:Int) (t:Tok):(mixKind prog w).is (.inl i) (.int i t)=true:=keyIs_int i t
theorem mixKind_str (prog:Program) (w:World) (x:Str) (t:Tok):(mixKind prog w).is (.inr x) (.str x t)=true:=keyIs_str x t
open PySem PySem.Spec PyProof.Rows
inductive V where
 | non | bl (b:Bool) | int (i:Int) | str (x:Str) | byt (b:Array UInt8) | flt (b:UInt64) | ref (a:Addr) | ty (n:String)
 deriving DecidableEq
def RelV:V→Value→Prop
 | .non,u=>u=Value.none
 | .bl b,u=>u=Value.bool b
 | .int i,u=>∃ t,u=Value.int i t
 | .str x,u=>∃ t,u=Value.str x t
 | .byt b,u=>∃ t,u=Value.bytes b t
 | .flt b,u=>∃ t,u=Value.float b t
 | .ref a,u=>u=Value.ref a
 | .ty n,u=>u=Value.type n
abbrev Vals:List V→List Value→Prop:=Paired RelV
theorem Vals.length {xs:List V} {us:List Value} (r:Vals xs us):xs.length=us.length:=Paired.length r
theorem Vals.get:∀ {xs:List V} {us:List Value} {i:Nat} {x:V},Vals xs us→xs[i]?=some x→∃ u,us[i]?=some u∧RelV x u
 | _,_,_,_,.nil,e=>by simp at e
 | _,_,0,_,.cons r _,e=>by simp at e;subst e;exact ⟨_,rfl,r⟩
 | _,_,i+1,x,.cons _ t,e=>by
  obtain ⟨u,h1,h2⟩:=Vals.get (i:=i) (x:=x) t (by simpa using e)
  exact ⟨u,by simpa using h1,h2⟩
theorem Vals.set {x:V} {u:Value} (r:RelV x u):∀ {xs:List V} {us:List Value} (i:Nat),Vals xs us→Vals (xs.set i x) (us.set i u)
 | _,_,_,.nil=>.nil
 | _,_,0,.cons _ t=>.cons r t
 | _,_,i+1,.cons q t=>.cons q (Vals.set r i t)
theorem Vals.append:∀ {xs ys:List V} {us ws:List Value},Vals xs us→Vals ys ws→Vals (xs++ys) (us++ws)
 | _,_,_,_,.nil,s=>s
 | _,_,_,_,.cons r t,s=>.cons r (Vals.append t s)
theorem Vals.take:∀ {xs:List V} {us:List Value} (n:Nat),Vals xs us→Vals (xs.take n) (us.take n)
 | _,_,0,_=>.nil
 | _,_,_+1,.nil=>.nil
 | _,_,n+1,.cons r t=>.cons r (Vals.take n t)
theorem Vals.drop:∀ {xs:List V} {us:List Value} (n:Nat),Vals xs us→Vals (xs.drop n) (us.drop n)
 | _,_,0,r=>r
 | _,_,_+1,.nil=>.nil
 | _,_,n+1,.cons _ t=>Vals.drop n t
def RelO:Option V→Option Value→Prop
 | some v,some u=>RelV v u
 | none,none=>True
 | _,_=>False
def KV {κ:Type}:List (κ×V)→List (κ×Value)→Prop:=Paired fun (p:κ×V) (q:κ×Value)=>p.1=q.1∧RelV p.2 q.2
def kV:Key→V
 | .inl i=>.int i
 | .inr x=>.str x
inductive HO where
 | lst (xs:List V)
 | tup (xs:List V)
 | dK (kvs:List (Key×V)) | dT (kvs:List (List Key×V))
 | set (S:Int→Bool) (n:Nat)
 | ins (C dx:Addr) (fs:List (Str×V))
 | own (x:Addr)
 | xd (fs:List (Str×V))
 | met (f x:Addr)
 | rng (lo hi:Int)
 | frz (o:Obj) (u:HO)
 | tbl (ps:Array Value)
 | ext (φ:Heap→Prop)
abbrev Hp:=Addr→Option HO
def upd (H:Hp) (a:Addr) (o:HO):Hp:=fun b=>if b=a then some o else H b
theorem upd_same {H:Hp} {a:Addr} {o:HO}:upd H a o a=some o:=by unfold upd;rw [if_pos rfl]
theorem upd_ne {H:Hp} {a b:Addr} {o:HO} (h:b≠a):upd H a o b=H b:=by unfold upd;rw [if_neg h]
theorem ne_of {H:Hp} {a b:Addr} {o u:HO} (h:H a=some o) (h':H b=some u) (d:o≠u):a≠b:=by
 intro e;subst e;rw [h] at h';exact d (Option.some.inj h')
theorem ne_of_none {H:Hp} {a b:Addr} {o:HO} (h:H a=some o) (h':H b=none):a≠b:=by
 intro e;subst e;rw [h] at h';cases h'
section
variable (P:Program) (w:World)
def ObjOk (H:Hp) (h:Heap) (a:Addr):HO→Prop
 | .lst xs=>xs.length≤sizeLine∧∃ (its:List Value) (n:Nat),Vals xs its∧h.get? a=some { cls:=.type "list",data:=.seq its.toArray n }
 | .tup xs=>xs.length≤sizeLine∧∃ its:List Value,Vals xs its∧IsTup h a its.toArray
 | .dK kvs=>kvs.length≤sizeLine∧(a == sysModules)=false∧∃ vs,KV kvs vs∧h.DictOf (mixKind P w) a vs
 | .dT kvs=>kvs.length≤sizeLine∧(a == sysModules)=false∧∃ xs:List (List Key×Addr×Value),
   Paired (fun (p:List Key×V) (q:List Key×Addr×Value)=>p.1=q.1∧H q.2.1=some (.tup (p.1.map kV))∧RelV p.2 q.2.2) kvs xs∧
   ∃ o es ep,h.get? a=some o∧o.ExactDict∧o.data=.dict es ep∧es.toList=xs.map (entryOfKey (tupleKind (mixKind P w)))∧(xs.map (·.1)).Nodup
 | .set S n=>h.SetOf (intKind P w) a S n
 | .ins C dx fs=>H dx=some (.own a)∧fs.length≤1000∧dx≠a∧h.get? a=some (PySem.W.instObj C dx)∧
   ∃ mA,h.Ns1 dx mA∧(∀ f,RelO (fs.lookup f) (mA f))∧PySem.Within mA (fs.map (·.1))
 | .own _=>∃ o,h.get? a=some o
 | .xd fs=>∃ mA,h.Ns1 a mA∧∀ f,RelO (fs.lookup f) (mA f)
 | .rng lo hi=>∃ t u v,h.get? a=some { cls:=.type "range",data:=.fields #[.int lo t,.int hi u,.int 1 v] }
 | .frz o u=>h.get? a=some o∧ObjOk H h a u
 | .tbl ps=>h.get? a=some { cls:=.none,data:=.fields ps }
 | .met f x=>h.get? a=some (PySem.W.methodObj (.ref f) (.ref x))
 | .ext φ=>φ h∧(∃ o,h.get? a=some o)∧∀ h1 h2:Heap,φ h1→(∀ o,h1.get? a=some o→h2.get? a=some o)→φ h2
def HOk (H:Hp) (h:Heap):Prop:=∀ a o,H a=some o→ObjOk P w H h a o
end
section
variable {P:Program} {w:World} {H H':Hp} {h h':Heap} {a:Addr} {o:HO}
theorem ObjOk.lt (x:ObjOk P w H h a o):a < h.objs.size:=by
 cases o with
 | lst xs=>obtain ⟨_,_,_,_,e⟩:=x;exact Heap.lt_size e
 | tup xs=>obtain ⟨_,_,_,p⟩:=x;exact p.lt
 | dK kvs=>obtain ⟨_,_,_,_,o,_,_,e,_⟩:=x;exact Heap.lt_size e
 | dT kvs=>obtain ⟨_,_,_,_,o,_,_,e,_⟩:=x;exact Heap.lt_size e
 | set S n=>obtain ⟨o,_,_,_,e,_⟩:=x;exact Heap.lt_size e
 | ins C dx fs=>obtain ⟨_,_,_,e,_⟩:=x;exact Heap.lt_size e
 | own y=>obtain ⟨_,e⟩:=x;exact Heap.lt_size e
 | xd fs=>obtain ⟨_,⟨_,_,_,e,_⟩,_⟩:=x;exact Heap.lt_size e
 | rng lo hi=>obtain ⟨_,_,_,e⟩:=x;exact Heap.lt_size e
 | frz ob u=>obtain ⟨e,_⟩:=x;exact Heap.lt_size e
 | tbl ps=>exact Heap.lt_size (show h.get? a=some _ from x)
 | met f y=>exact Heap.lt_size (show h.get? a=some _ from x)
 | ext φ=>obtain ⟨_,⟨_,e⟩,_⟩:=x;exact Heap.lt_size e
theorem Paired.mapP {α β:Type} {F G:α→β→Prop}:∀ {l₁:List α} {l₂:List β},Paired F l₁ l₂→(∀ a b,F a b→G a b)→Paired G l₁ l₂
 | _,_,.nil,_=>.nil
 | _,_,.cons r t,f=>.cons (f _ _ r) (Paired.mapP t f)
theorem ObjOk.stay (x:ObjOk P w H h a o) (k:∀ b u,(b=a∨H b=some (.own a))→h.get? b=some u→h'.get? b=some u)
  (ho:∀ b,H b=some (.own a)→H' b=some (.own a)) (ht:∀ b xs,H b=some (.tup xs)→H' b=some (.tup xs)):ObjOk P w H' h' a o:=by
 induction o with
 | lst xs=>obtain ⟨z,its,n,r,e⟩:=x;exact ⟨z,its,n,r,k _ _ (.inl rfl) e⟩
 | tup xs=>obtain ⟨z,its,r,ob,e,c⟩:=x;exact ⟨z,its,r,ob,k _ _ (.inl rfl) e,c⟩
 | dK kvs=>obtain ⟨z,y,vs,r,ob,es,ep,e,c⟩:=x;exact ⟨z,y,vs,r,ob,es,ep,k _ _ (.inl rfl) e,c⟩
 | dT kvs=>
  obtain ⟨z,y,xs,r,ob,es,ep,e,c⟩:=x
  exact ⟨z,y,xs,Paired.mapP r fun p q z=>⟨z.1,ht _ _ z.2.1,z.2.2⟩,ob,es,ep,k _ _ (.inl rfl) e,c⟩
 | set S n=>obtain ⟨ob,es,ep,t,e,c⟩:=x;exact ⟨ob,es,ep,t,k _ _ (.inl rfl) e,c⟩
 | ins C dx fs=>
  obtain ⟨d,z,ne,e,mA,⟨od,es,ep,e2,c⟩,r⟩:=x
  exact ⟨ho _ d,z,ne,k _ _ (.inl rfl) e,mA,⟨od,es,ep,k _ _ (.inr d) e2,c⟩,r⟩
 | own y=>obtain ⟨ob,e⟩:=x;exact ⟨ob,k _ _ (.inl rfl) e⟩
 | xd fs=>obtain ⟨mA,⟨od,es,ep,e,c⟩,r⟩:=x;exact ⟨mA,⟨od,es,ep,k _ _ (.inl rfl) e,c⟩,r⟩
 | rng lo hi=>obtain ⟨t,u,v,e⟩:=x;exact ⟨t,u,v,k _ _ (.inl rfl) e⟩
 | frz ob u ih=>obtain ⟨e,q⟩:=x;exact ⟨k _ _ (.inl rfl) e,ih q⟩
 | tbl ps=>
  have e:h.get? a=some { cls:=.none,data:=.fields ps }:=x
  show h'.get? a=some { cls:=.none,data:=.fields ps }
  exact k a _ (.inl rfl) e
 | met f y=>
  have e:h.get? a=some (PySem.W.methodObj (.ref f) (.ref y)):=x
  show h'.get? a=some (PySem.W.methodObj (.ref f) (.ref y))
  exact k a _ (.inl rfl) e
 | ext φ=>obtain ⟨p,⟨o,e⟩,st⟩:=x;exact ⟨st _ _ p fun o q=>k _ _ (.inl rfl) q,⟨o,k _ _ (.inl rfl) e⟩,st⟩
theorem HOk.lt (x:HOk P w H h) (e:H a=some o):a < h.objs.size:=(x a o e).lt
theorem HOk.fresh (x:HOk P w H h) (e:h.objs.size≤a):H a=none:=by
 cases q:H a with
 | none=>rfl
 | some u=>exact absurd (Nat.lt_of_lt_of_le (x.lt q) e) (Nat.lt_irrefl _)
theorem HOk.kept (x:HOk P w H h) (k:∀ b u,h.get? b=some u→h'.get? b=some u):HOk P w H h':=fun a o e=>
 (x a o e).stay (fun b u _ q=>k b u q) (fun _ q=>q) fun _ _ q=>q
theorem HOk.laid (x:HOk P w H h) (k:∀ b u,h.get? b=some u→h'.get? b=some u) (hp:h.objs.size≤a) (new:ObjOk P w (upd H a o) h' a o):HOk P w (upd H a o) h':=fun b u e=>by
 have hn:=x.fresh hp
 by_cases hb:b=a
 ·subst hb;rw [upd_same] at e;cases e;exact new
 ·rw [upd_ne hb] at e
  exact (x b u e).stay (fun c v _ q=>k c v q) (fun c q=>by rw [upd_ne (ne_of_none q hn)];exact q) fun c xs q=>by rw [upd_ne (ne_of_none q hn)];exact q
end
def Rd (H:Hp) (a:Addr) (u:HO):Prop:=H a=some u∨∃ o,H a=some (.frz o u)
theorem Rd.ok {P:Program} {w:World} {H:Hp} {h:Heap} {a:Addr} {u:HO} (r:Rd H a u) (x:HOk P w H h):ObjOk P w H h a u:=by
 rcases r with r | ⟨o,r⟩
 ·exact x a u r
 ·obtain ⟨_,q⟩:=x a _ r
  exact q
def Mut:Option HO→Prop
 | some (.lst _)=>True
 | some (.dK _)=>True
 | some (.dT _)=>True
 | some (.set _ _)=>True
 | some (.ins _ _ _)=>True
 | some (.ext _)=>True
 | _=>False
section
variable {P:Program} {w:World} {H:Hp} {h h':Heap} {x e:Addr} {o':HO}
theorem HOk.write (ok:HOk P w H h) (mu:Mut (H x)) (he:e=x∨H e=some (.own x)) (k:∀ b u,b≠e→h.get? b=some u→h'.get? b=some u) (heo:∃ u,h'.get? e=some u)
  (new:ObjOk P w (upd H x o') h' x o'):HOk P w (upd H x o') h':=fun b u q=>by
 have nown:∀ c y,H c=some (.own y)→c≠x:=fun c y r z=>by subst z;rw [r] at mu;exact mu
 have ntup:∀ c xs,H c=some (.tup xs)→c≠x:=fun c xs r z=>by subst z;rw [r] at mu;exact mu
 by_cases hb:b=x
 ·subst hb;rw [upd_same] at q;cases q;exact new
 ·rw [upd_ne hb] at q
  by_cases hbe:b=e
  ·have q':H b=some (.own x):=by
    rcases he with z | z
    ·exact absurd (hbe.trans z) hb
    ·rw [hbe];exact z
   rw [q] at q';cases q'
   obtain ⟨v,hv⟩:=heo
   exact ⟨v,by rw [hbe];exact hv⟩
  ·refine (ok b u q).stay (fun c v hc r=>k c v ?_ r) (fun c r=>by rw [upd_ne (nown c b r)];exact r) fun c xs r=>by rw [upd_ne (ntup c xs r)];exact r
   rcases hc with rfl | hc
   ·exact hbe
   ·rintro rfl
    rcases he with z | z
    ·exact nown c b hc z
    ·rw [hc] at z;cases z;exact hb rfl
end
structure Un (fs ex:List Addr) (H H':Hp) (h h':Heap):Prop where
 keep:∀ b o,h.get? b=some o→H b=none→b ∉ fs→b ∉ ex→h'.get? b=some o
 slot:∀ b o,h.get? b=some o→H b=none→b∈fs→b ∉ ex→∃ sl,h'.get? b=some { o with slots:=sl }
 free:∀ b o,h.get? b=some o→H b=none→b ∉ ex→H' b=none
 there:∀ b o,h.get? b=some o→b ∉ ex→∃ o',h'.get? b=some o'
 tups:∀ b xs,H b=some (.tup xs)→H' b=some (.tup xs)
 frzs:∀ b o u,H b=some (.frz o u)→H' b=some (.frz o u)
 tbls:∀ b ps,H b=some (.tbl ps)→∃ more,H' b=some (.tbl (ps++more))
section
variable {fs fs' ex ex':List Addr} {H H1 H2:Hp} {h h1 h2 h':Heap} {a x e:Addr} {o:HO}
theorem Un.any (u:Un fs ex H H1 h h1) {b:Addr} {ob:Obj} (q:h.get? b=some ob) (n:H b=none) (hx:b ∉ ex):∃ sl,h1.get? b=some { ob with slots:=sl }:=by
 by_cases hb:b∈fs
 ·exact u.slot b ob q n hb hx
 ·exact ⟨ob.slots,u.keep b ob q n hb hx⟩
theorem Un.kept (k:∀ b u,h.get? b=some u→h'.get? b=some u):Un fs ex H H h h':=
 ⟨fun b ob q _ _ _=>k b ob q,fun b ob q _ _ _=>⟨ob.slots,k b ob q⟩,fun _ _ _ n _=>n,fun b ob q _=>⟨ob,k b ob q⟩,fun _ _ q=>q,fun _ _ _ q=>q,fun _ ps q=>⟨#[],by rw [q];simp⟩⟩
theorem Un.refl:Un fs ex H H h h:=Un.kept fun _ _ q=>q
theorem Un.laid (k:∀ b u,h.get? b=some u→h'.get? b=some u) (hp:h.objs.size≤a) (hn:H a=none):Un fs ex H (upd H a o) h h' where
 keep:=fun b u q _ _ _=>k b u q
 slot:=fun b u q _ _ _=>⟨u.slots,k b u q⟩
 free:=fun b u q n _=>by rw [upd_ne (Nat.ne_of_lt (Nat.lt_of_lt_of_le (Heap.lt_size q) hp))];exact n
 there:=fun b u q _=>⟨u,k b u q⟩
 tups:=fun b xs q=>by rw [upd_ne (ne_of_none q hn)];exact q
 frzs:=fun b u xs q=>by rw [upd_ne (ne_of_none q hn)];exact q
 tbls:=fun b ps q=>⟨#[],by rw [upd_ne (ne_of_none q hn),q];simp⟩
theorem Un.write (mu:Mut (H x)) (he:e=x∨H e=some (.own x)) (k:∀ b u,b≠e→h.get? b=some u→h'.get? b=some u) (heo:∃ u,h'.get? e=some u):Un fs ex H (upd H x o) h h':=by
 have hx:∀ b,H b=none→b≠x:=fun b n z=>by subst z;rw [n] at mu;exact mu
 have hb:∀ b,H b=none→b≠e:=fun b n z=>by
  subst z
  rcases he with r | r
  ·exact hx b n r
  ·rw [n] at r;cases r
 have hm:∀ b u,H b=some u→¬ Mut (some u)→b≠x:=fun b u q nm z=>by subst z;rw [q] at mu;exact nm mu
 refine ⟨fun b u q n _ _=>k b u (hb b n) q,fun b u q n _ _=>⟨u.slots,k b u (hb b n) q⟩,fun b u q n _=>by rw [upd_ne (hx b n)];exact n,fun b u q _=>?_,
  fun b xs q=>by rw [upd_ne (hm b _ q fun z=>z)];exact q,fun b u xs q=>by rw [upd_ne (hm b _ q fun z=>z)];exact q,fun b ps q=>⟨#[],by rw [upd_ne (hm b _ q fun z=>z),q];simp⟩⟩
 by_cases hbe:b=e
 ·subst hbe;exact heo
 ·exact ⟨u,k b u hbe q⟩
end
def trk (h:Heap) (H:Hp):List Addr:=(List.range h.objs.size).filter fun a=>(H a).isSome
def hidT (h:Heap) (H:Hp):Heap:=PySem.W.hideAll h (trk h H)
theorem hidT_size (h:Heap) (H:Hp):(hidT h H).objs.size=h.objs.size:=PySem.W.hideAll_size _ _
theorem hidT_get {h:Heap} {H:Hp} {b:Addr} {o:Obj} (e:h.get? b=some o) (n:H b=none):(hidT h H).get? b=some o:=
 PySem.W.hideAll_get _ e fun hm=>by
  have q:(H b).isSome=true:=(List.mem_filter.mp hm).2
  rw [n] at q;simp at q
theorem of_hidT {h:Heap} {H:Hp} {b:Addr} {o:Obj} (e:(hidT h H).get? b=some o):h.get? b=some o∧H b=none:=by
 have e':h.get? b=some o:=PySem.W.of_hideAll (trk h H) e
 refine ⟨e',?_⟩
 cases q:H b with
 | none=>rfl
 | some x=>
  have hm:b∈trk h H:=List.mem_filter.mpr ⟨List.mem_range.mpr (Heap.lt_size e'),by simp [q]⟩
  have z:(hidT h H).get? b=none:=PySem.W.hideAll_none (trk h H) hm
  rw [z] at e;cases e
def allNews (g h:Heap) (L:Addr):List (Addr×Obj):=(List.range h.objs.size).filterMap fun a=>if a=L∨(g.get? a).isSome=true then none else (h.get? a).map fun o=>(a,o)
def rest (g h:Heap) (L d:Addr):List (Addr×Obj):=(allNews g h L).filter fun p=>decide (p.1≠d)
open PySem PySem.Spec PyProof.Rows
structure Mod (K:PySem.W.Frag) (mg:Str→Option Value) (base:Heap):Prop where
 kin:K.In base
 glob:base.Ns mainGlobals mg
 blt:∃ mb,base.Ns builtinsNs mb∧∀ x:Str,x≠"__name__"→mb x=bootBuiltins x
 nolimit:base.NoLimit
structure Cx where
 prog:Program
 w:World
 K:PySem.W.Frag
 mg:Str→Option Value
 base:Heap
 A:Around
 N:List Str
 s₀:Shared
 H₀:Hp
 env:Env
 outer:List Env
 stack:List Env
 ex:List Addr
 fn:Str→Bool
 calm:Bool
 pn:List (Addr×Obj)
 xe:Value→Shared→Prop
def frs (l:List Env):List Addr:=l.filterMap (·.frame)
abbrev Cx.fs (X:Cx):List Addr:=frs X.outer
def Vis (sc:Scope) (x:Str):Prop:=sc.names.lookup x=some .local∨sc.names.lookup x=some .cell∨sc.names.lookup x=some .free
def Loc (sc:Scope) (x:Str):Prop:=sc.names.lookup x=some .local∨sc.names.lookup x=some .cell
def Look (env:Env) (h:Heap) (m:Str→Option Value) (x:Str) (u:Value):Prop:=
 (env.kindOf x=some .local∧m x=some u)∨((env.kindOf x=some .cell∨env.kindOf x=some .free)∧∃ c,env.cells.lookup x=some c∧h.IsCell c (some u))
structure Cx.Ok (X:Cx):Prop where
 mod:Mod X.K X.mg X.base
 kind:X.env.scope.kind=.function
 glob:X.env.globals=mainGlobals
 blt:X.env.builtins=builtinsNs
 above:X.s₀.heap.objs.size≤X.env.locals
 inj:∀ x y c,X.env.cells.lookup x=some c→X.env.cells.lookup y=some c→x=y
 has:∀ x,(X.env.kindOf x=some .cell∨X.env.kindOf x=some .free)→∃ c,X.env.cells.lookup x=some c
 cab:∀ x c,X.fn x=true→X.env.cells.lookup x=some c→X.s₀.heap.objs.size≤c
 hd:X.calm=true→X.A.handled=none
 frames:X.A.frames=some X.stack
 stk:X.stack=X.outer∨(X.stack=X.env :: X.outer∧X.env.frame=some X.env.locals)
 exf:∀ b∈X.ex,b≠X.env.locals∧∀ x c,X.env.cells.lookup x=some c→c≠b
 bs:∀ b o,X.base.get? b=some o→X.s₀.heap.get? b=some o∧X.H₀ b=none
 bsz:X.base.objs.size≤X.s₀.heap.objs.size
 noex:∀ b o,X.base.get? b=some o→b ∉ X.ex
 exfs:∀ b∈X.ex,b ∉ X.fs
 funs:X.s₀.heap.FunFrames X.base X.outer
 frf:∀ b∈X.fs,X.H₀ b=none
structure Inv (X:Cx) (pins:List (Addr×Obj)) (σ:List (Option V)) (H:Hp) (s:Shared):Prop where
 ok:X.Ok
 os:s.os=X.s₀.os
 bare:AllBare s.gens
 base:Un X.fs X.ex X.H₀ H X.s₀.heap s.heap
 loc:∃ m,s.heap.Ns X.env.locals m∧∀ (i:Nat) (x:Str) (v:V),X.N[i]?=some x→σ[i]?=some (some v)→Vis X.env.scope x→∃ u,RelV v u∧Look X.env s.heap m x u
 cell:∀ x c,X.env.cells.lookup x=some c→∃ v,s.heap.IsCell c v
 free:H X.env.locals=none
 freeC:∀ x c,X.env.cells.lookup x=some c→H c=none
 pin:∀ p∈X.pn++pins,s.heap.get? p.1=some p.2∧H p.1=none∧p.1≠X.env.locals∧p.1 ∉ X.fs∧∀ v,p.2.data≠.cell v
 hok:HOk X.prog X.w H s.heap
 len:σ.length=X.N.length
section
variable {X:Cx} {pins:List (Addr×Obj)} {σ:List (Option V)} {H H':Hp} {s:Shared} {h':Heap}
theorem Cx.Ok.nofr (ok:X.Ok) {b:Addr} {o:Obj} (e:X.base.get? b=some o):b ∉ X.fs:=fun hb=>by
 have:=(ok.funs.mem hb).1
 rw [e] at this;cases this
theorem Inv.bs (I:Inv X pins σ H s):∀ b o,X.base.get? b=some o→s.heap.get? b=some o∧H b=none:=fun b o e=>
 ⟨I.base.keep b o (I.ok.bs b o e).1 (I.ok.bs b o e).2 (I.ok.nofr e) (I.ok.noex b o e),I.base.free b o (I.ok.bs b o e).1 (I.ok.bs b o e).2 (I.ok.noex b o e)⟩
theorem Inv.bk (I:Inv X pins σ H s):∀ b o,X.base.get? b=some o→s.heap.get? b=some o:=fun b o e=>(I.bs b o e).1
theorem Inv.mod (I:Inv X pins σ H s):Mod X.K X.mg X.base:=I.ok.mod
theorem Inv.kIn (I:Inv X pins σ H s):X.K.In s.heap:=I.ok.mod.kin.keeps I.bk
theorem Inv.nolimit (I:Inv X pins σ H s):s.heap.NoLimit:=I.ok.mod.nolimit.keeps I.bk
theorem Inv.fr (I:Inv X pins σ H s):∃ m,Fr X.base X.env.locals s.heap m:=
 let ⟨m,hn,_⟩:=I.loc
 ⟨m,hn,I.bk,Nat.le_trans I.ok.bsz I.ok.above⟩
theorem Inv.lt (I:Inv X pins σ H s):X.env.locals < s.heap.objs.size:=let ⟨_,hn,_⟩:=I.loc;hn.lt
theorem Inv.sz (I:Inv X pins σ H s):X.s₀.heap.objs.size≤s.heap.objs.size:=Nat.le_trans I.ok.above (Nat.le_of_lt I.lt)
theorem Inv.nofs (I:Inv X pins σ H s) {a:Addr} (h:s.heap.objs.size≤a):a ∉ X.fs:=fun hb=>by
 obtain ⟨_,o,ho,_⟩:=I.ok.funs.mem hb
 exact absurd (Nat.lt_of_lt_of_le (Heap.lt_size ho) (Nat.le_trans I.sz h)) (Nat.lt_irrefl _)
theorem Inv.cne (I:Inv X pins σ H s):∀ x c,X.env.cells.lookup x=some c→c≠X.env.locals:=fun x c e z=>by
 obtain ⟨v,o,ho,hd⟩:=I.cell x c e
 obtain ⟨m,⟨o',es,ep,ho',hd',_⟩,_⟩:=I.loc
 rw [z,ho'] at ho;cases ho;rw [hd'] at hd;cases hd
theorem Inv.funs (I:Inv X pins σ H s):s.heap.FunFrames X.base X.outer:=by
 have all:∀ (l:List Env),(∀ b∈frs l,b∈X.fs)→X.s₀.heap.FunFrames X.base l→s.heap.FunFrames X.base l:=by
  intro l
  induction l with
  | nil=>intro _ _;trivial
  | cons env r ih=>
   intro hs hl
   obtain ⟨hk,⟨L,o,hf,hn,ho,hd⟩,hr⟩:=hl
   have hL:L∈X.fs:=hs L (by unfold frs;rw [List.filterMap_cons,hf];exact List.mem_cons_self)
   obtain ⟨sl,e⟩:=I.base.slot L o ho (I.ok.frf L hL) hL fun z=>I.ok.exfs L z hL
   exact ⟨hk,⟨L,_,hf,hn,e,hd⟩,ih (fun b hb=>hs b (by unfold frs;rw [List.filterMap_cons,hf];exact List.mem_cons_of_mem _ hb)) hr⟩
 exact all X.outer (fun _ hb=>hb) I.ok.funs
theorem Inv.stack (I:Inv X pins σ H s):s.heap.FunFrames X.base X.stack:=by
 rcases I.ok.stk with e | ⟨e,hf⟩
 ·rw [e];exact I.funs
 ·rw [e]
  obtain ⟨m,hn,_⟩:=I.loc
  refine .cons (by rw [I.ok.kind];decide) hf hn ?_ I.funs
  exact Heap.get?_none_of_le (Nat.le_trans I.ok.bsz I.ok.above)
theorem Inv.stkSub (I:Inv X pins σ H s):∀ b∈frs X.stack,b∈X.env.locals :: X.fs:=fun b hb=>by
 rcases I.ok.stk with e | ⟨e,hf⟩
 ·rw [e] at hb;exact List.mem_cons_of_mem _ hb
 ·rw [e] at hb
  unfold frs at hb
  rw [List.filterMap_cons,hf] at hb
  exact hb
theorem Inv.stkFree (I:Inv X pins σ H s):∀ b∈frs X.stack,H b=none:=fun b hb=>by
 rcases List.mem_cons.mp (I.stkSub b hb) with e | hb
 ·rw [e];exact I.free
 ·obtain ⟨_,o,ho,_⟩:=I.ok.funs.mem hb
  exact I.base.free b o ho (I.ok.frf b hb) fun z=>I.ok.exfs b z hb
theorem Inv.step {g':Array GenState} {t':Nat} {d':Drawn} {ch:List Addr} (I:Inv X pins σ H s)
  (hch:∀ b∈ch,(b∈X.ex∨X.s₀.heap.objs.size≤b)∧b≠X.env.locals∧(∀ x c,X.env.cells.lookup x=some c→c≠b)∧∀ p∈X.pn++pins,p.1≠b)
  (keep:∀ b o,b≠X.env.locals→b ∉ X.fs→b ∉ ch→s.heap.get? b=some o→H b=none→h'.get? b=some o)
  (slot:∀ b o,b≠X.env.locals→b∈X.fs→b ∉ ch→s.heap.get? b=some o→H b=none→∃ sl,h'.get? b=some { o with slots:=sl }) (free:∀ b o,b ∉ ch→s.heap.get? b=some o→H b=none→H' b=none)
  (there:∀ b o,b ∉ ch→s.heap.get? b=some o→∃ o',h'.get? b=some o')
  (tups:∀ b xs,H b=some (.tup xs)→H' b=some (.tup xs)) (frzs:∀ b o u,H b=some (.frz o u)→H' b=some (.frz o u)) (tbls:∀ b ps,H b=some (.tbl ps)→∃ more,H' b=some (.tbl (ps++more)))
  (ns:∀ m,s.heap.Ns X.env.locals m→h'.Ns X.env.locals m) (hok:HOk X.prog X.w H' h') (hg:AllBare g') :
  Inv X pins σ H' { s with heap:=h',gens:=g',drawn:=d',toks:=t' }:=by
 have neL:∀ b o,X.s₀.heap.get? b=some o→b≠X.env.locals:=fun b o e=>Nat.ne_of_lt (Nat.lt_of_lt_of_le (Heap.lt_size e) I.ok.above)
 have neC:∀ b o,X.s₀.heap.get? b=some o→b ∉ X.ex→b ∉ ch:=fun b o e hx hb=>by
  rcases (hch b hb).1 with z | z
  ·exact hx z
  ·exact absurd (Nat.lt_of_lt_of_le (Heap.lt_size e) z) (Nat.lt_irrefl _)
 have cellK:∀ x c,X.env.cells.lookup x=some c→∀ v,s.heap.IsCell c v→h'.IsCell c v:=fun x c e v ⟨o,ho,hd⟩=>by
  have nch:c ∉ ch:=fun z=>(hch c z).2.2.1 x c e rfl
  by_cases hc:c∈X.fs
  ·obtain ⟨sl,q⟩:=slot c o (I.cne x c e) hc nch ho (I.freeC x c e)
   exact ⟨_,q,hd⟩
  ·exact ⟨o,keep c o (I.cne x c e) hc nch ho (I.freeC x c e),hd⟩
 refine ⟨I.ok,I.os,hg,⟨fun b o e n hb hx=>?_,fun b o e n hb hx=>?_,fun b o e n hx=>?_,fun b o e hx=>?_,fun b xs e=>tups b xs (I.base.tups b xs e),fun b o xs e=>frzs b o xs (I.base.frzs b o xs e),fun b ps e=>?_⟩,?_,fun x c e=>?_,?_,fun x c e=>?_,fun p hp=>?_,hok,I.len⟩
 ·exact keep b o (neL b o e) hb (neC b o e hx) (I.base.keep b o e n hb hx) (I.base.free b o e n hx)
 ·obtain ⟨sl,e1⟩:=I.base.slot b o e n hb hx
  obtain ⟨sl',e2⟩:=slot b _ (neL b o e) hb (neC b o e hx) e1 (I.base.free b o e n hx)
  exact ⟨sl',e2⟩
 ·obtain ⟨o',e1⟩:=I.base.there b o e hx
  exact free b o' (neC b o e hx) e1 (I.base.free b o e n hx)
 ·obtain ⟨o',e1⟩:=I.base.there b o e hx
  exact there b o' (neC b o e hx) e1
 ·obtain ⟨m1,e1⟩:=I.base.tbls b ps e
  obtain ⟨m2,e2⟩:=tbls b _ e1
  exact ⟨m1++m2,by rw [e2,Array.append_assoc]⟩
 ·obtain ⟨m,hn,hl⟩:=I.loc
  refine ⟨m,ns m hn,fun i x v e1 e2 e3=>?_⟩
  obtain ⟨u,r,l⟩:=hl i x v e1 e2 e3
  refine ⟨u,r,?_⟩
  rcases l with l | ⟨k,c,e,z⟩
  ·exact .inl l
  ·exact .inr ⟨k,c,e,cellK x c e _ z⟩
 ·obtain ⟨v,z⟩:=I.cell x c e
  exact ⟨v,cellK x c e v z⟩
 ·obtain ⟨m,⟨o,_,_,ho,_⟩,_⟩:=I.loc
  exact free _ o (fun z=>(hch _ z).2.1 rfl) ho I.free
 ·obtain ⟨v,o,ho,hd⟩:=I.cell x c e
  exact free c o (fun z=>(hch c z).2.2.1 x c e rfl) ho (I.freeC x c e)
 ·obtain ⟨e,n,ne,nf,d⟩:=I.pin p hp
  have nch:p.1 ∉ ch:=fun z=>(hch p.1 z).2.2.2 p hp rfl
  exact ⟨keep p.1 p.2 ne nf nch e n,free p.1 p.2 nch e n,ne,nf,d⟩
theorem Inv.un {t':Nat} (I:Inv X pins σ H s) (u:Un X.fs [] H H' s.heap h') (hok:HOk X.prog X.w H' h'):Inv X pins σ H' { s with heap:=h',toks:=t' }:=by
 obtain ⟨m,⟨o,es,ep,ho,r⟩,_⟩:=id I.loc
 obtain ⟨sl,hL⟩:=u.any ho I.free (by simp)
 exact I.step (g':=s.gens) (d':=s.drawn) (ch:=[]) (fun _ z=>nomatch z) (fun b o _ hb _ e n=>u.keep b o e n hb (by simp)) (fun b o _ hb _ e n=>u.slot b o e n hb (by simp)) (fun b o _ e n=>u.free b o e n (by simp)) (fun b o _ e=>u.there b o e (by simp)) u.tups u.frzs u.tbls (fun m' hm=>by
  obtain ⟨o',es',ep',ho',r'⟩:=hm
  rw [ho] at ho';cases ho'
  exact ⟨_,es',ep',hL,r'⟩) hok I.bare
theorem Inv.call {g':Array GenState} {t':Nat} {d':Drawn} {ch:List Addr} (I:Inv X pins σ H s) (u:Un (frs X.stack) ch H H' s.heap h') (hok:HOk X.prog X.w H' h') (hg:AllBare g')
  (hch:∀ b∈ch,(b∈X.ex∨X.s₀.heap.objs.size≤b)∧b≠X.env.locals∧(∀ x c,X.env.cells.lookup x=some c→c≠b)∧∀ p∈X.pn++pins,p.1≠b) :
  Inv X pins σ H' { s with heap:=h',gens:=g',drawn:=d',toks:=t' }:=by
 obtain ⟨m,⟨o,es,ep,ho,r⟩,_⟩:=id I.loc
 obtain ⟨sl,hL⟩:=u.any ho I.free fun z=>(hch _ z).2.1 rfl
 exact I.step (ch:=ch) hch (fun b o hL hb hc e n=>u.keep b o e n (fun z=>(List.mem_cons.mp (I.stkSub b z)).elim hL hb) hc) (fun b o _ _ hc e n=>u.any e n hc) (fun b o hc e n=>u.free b o e n hc) (fun b o hc e=>u.there b o e hc) u.tups u.frzs u.tbls (fun m' hm=>by
  obtain ⟨o',es',ep',ho',r'⟩:=hm
  rw [ho] at ho';cases ho'
  exact ⟨_,es',ep',hL,r'⟩) hok hg
theorem Inv.turned {t':Nat} {it:Addr} (I:Inv X pins σ H s) (k:∀ b o,b≠it→s.heap.get? b=some o→h'.get? b=some o) (hn:H it=none) (hL:it≠X.env.locals)
  (h1:it∈X.ex∨X.s₀.heap.objs.size≤it) (h2:∀ x c,X.env.cells.lookup x=some c→c≠it) (h3:∀ p∈X.pn++pins,p.1≠it):Inv X pins σ H { s with heap:=h',toks:=t' }:=by
 have nit:∀ b u,H b=some u→b≠it:=fun b u e z=>by rw [z,hn] at e;cases e
 refine I.step (g':=s.gens) (d':=s.drawn) (ch:=[it]) (fun b hb=>?_) (fun b o _ _ hc e _=>k b o (fun z=>hc (by simp [z])) e) (fun b o _ _ hc e _=>⟨o.slots,k b o (fun z=>hc (by simp [z])) e⟩) (fun _ _ _ _ n=>n)
  (fun b o hc e=>⟨o,k b o (fun z=>hc (by simp [z])) e⟩) (fun _ _ e=>e) (fun _ _ _ e=>e) (fun b ps e=>⟨#[],by rw [e];simp⟩) (fun m hm=>?_) (fun b u e=>?_) I.bare
 ·have e:b=it:=by simpa using hb
  subst e
  exact ⟨h1,hL,h2,h3⟩
 ·obtain ⟨o,es,ep,ho,r⟩:=hm
  exact ⟨o,es,ep,k _ o (Ne.symm hL) ho,r⟩
 ·refine (I.hok b u e).stay (fun c v hc q=>k c v ?_ q) (fun _ q=>q) fun _ _ q=>q
  rcases hc with z | z
  ·rw [z];exact nit b u e
  ·exact nit c _ z
theorem Inv.tok (I:Inv X pins σ H s) (t:Nat):Inv X pins σ H { s with toks:=t }:=I.un (h':=s.heap) (t':=t) Un.refl I.hok
theorem Inv.kept {t':Nat} (I:Inv X pins σ H s) (k:∀ b u,s.heap.get? b=some u→h'.get? b=some u):Inv X pins σ H { s with heap:=h',toks:=t' }:=I.un (Un.kept k) (I.hok.kept k)
theorem Inv.laid {a:Addr} {o:HO} {t':Nat} (I:Inv X pins σ H s) (k:∀ b u,s.heap.get? b=some u→h'.get? b=some u) (hp:s.heap.objs.size≤a) (new:ObjOk X.prog X.w (upd H a o) h' a o) :
  Inv X pins σ (upd H a o) { s with heap:=h',toks:=t' }:=I.un (Un.laid k hp (I.hok.fresh hp)) (I.hok.laid k hp new)
theorem Inv.write {x e:Addr} {o:HO} {t':Nat} (I:Inv X pins σ H s) (mu:Mut (H x)) (he:e=x∨H e=some (.own x)) (k:∀ b u,b≠e→s.heap.get? b=some u→h'.get? b=some u) (heo:∃ u,h'.get? e=some u)
  (new:ObjOk X.prog X.w (upd H x o) h' x o):Inv X pins σ (upd H x o) { s with heap:=h',toks:=t' }:=I.un (Un.write mu he k heo) (I.hok.write mu he k heo new)
theorem Inv.pins_of {pins':List (Addr×Obj)} (I:Inv X pins σ H s) (h:∀ p∈pins',s.heap.get? p.1=some p.2∧H p.1=none∧p.1≠X.env.locals∧p.1 ∉ X.fs∧∀ v,p.2.data≠.cell v):Inv X pins' σ H s:=
 ⟨I.ok,I.os,I.bare,I.base,I.loc,I.cell,I.free,I.freeC,fun p hp=>(List.mem_append.mp hp).elim (fun z=>I.pin p (List.mem_append_left _ z)) (h p),I.hok,I.len⟩
theorem nodup_ix {N:List Str} (hN:N.Nodup) {i j:Nat} {x:Str} (a:N[i]?=some x) (b:N[j]?=some x):i=j:=by
 obtain ⟨h1,e1⟩:=List.getElem?_eq_some_iff.mp a
 obtain ⟨h2,e2⟩:=List.getElem?_eq_some_iff.mp b
 exact (List.getElem_inj hN).mp (e1.trans e2.symm)
theorem store_ok2 {M:Model} {A:Around} {E:Value→Shared→Prop} {i:Nat} {x:Str} {v:V} {u:Value} {Q:Unit→Shared→Prop} (I:Inv X pins σ H s) (hN:X.N.Nodup) (hi:X.N[i]?=some x) (hx:Loc X.env.scope x) (r:RelV v u)
  (h:∀ s',Inv X pins (σ.set i (some v)) H s'→(∃ a,Heap.SameBut a s.heap s'.heap∧(a=X.env.locals∨X.env.cells.lookup x=some a))→Q () s') (hf:X.fn x=true∨X.env.scope.names.lookup x=some .local:=by first | exact .inl rfl | exact .inr rfl | assumption):wpAny M A (storeName X.env x u) Q E s:=by
 obtain ⟨m,hn,hl⟩:=id I.loc
 have hcls:(X.env.scope.kind == .class || (X.env.scope.kind == .module && X.env.locals != X.env.globals))=false:=by rw [I.ok.kind];rfl
 have hiσ:i < σ.length:=by rw [I.len];exact (List.getElem?_eq_some_iff.mp hi).1
 have cne:=I.cne
 have tracked:∀ {a:Addr} {h':Heap},(∃ o,s.heap.get? a=some o∧H a=none)→Heap.SameBut a s.heap h'→HOk X.prog X.w H h':=fun {a h'} ha hs b ob e=>by
  obtain ⟨_,_,hfree⟩:=ha
  refine (I.hok b ob e).stay (fun c w' hc q=>(hs.2 c ?_).trans q) (fun _ q=>q) fun _ _ q=>q
  rintro rfl
  rcases hc with rfl | hc
  ·rw [hfree] at e;cases e
  ·rw [hfree] at hc;cases hc
 rcases hx with hk | hk
 ·refine wpAny_storeName_local hk hn (fun h' hn' hs=>?_) hcls
  obtain ⟨oL,_,_,hoL,_⟩:=id hn
  refine h _ ⟨I.ok,I.os,I.bare,⟨fun b o e n hb hx=>?_,fun b o e n hb hx=>?_,I.base.free,fun b o e hx=>?_,I.base.tups,I.base.frzs,I.base.tbls⟩,⟨_,hn',fun j y v' e1 e2 e3=>?_⟩,fun y c e=>?_,I.free,I.freeC,fun p hp=>?_,tracked ⟨oL,hoL,I.free⟩ hs,by simpa using I.len⟩ ⟨_,hs,.inl rfl⟩
  ·exact (hs.2 b (Nat.ne_of_lt (Nat.lt_of_lt_of_le (Heap.lt_size e) I.ok.above))).trans (I.base.keep b o e n hb hx)
  ·obtain ⟨sl,e1⟩:=I.base.slot b o e n hb hx
   exact ⟨sl,(hs.2 b (Nat.ne_of_lt (Nat.lt_of_lt_of_le (Heap.lt_size e) I.ok.above))).trans e1⟩
  ·obtain ⟨o',e1⟩:=I.base.there b o e hx
   exact ⟨o',(hs.2 b (Nat.ne_of_lt (Nat.lt_of_lt_of_le (Heap.lt_size e) I.ok.above))).trans e1⟩
  ·by_cases hj:j=i
   ·subst hj
    rw [hi] at e1;cases e1
    rw [List.getElem?_set_self hiσ] at e2
    cases e2
    exact ⟨u,r,.inl ⟨hk,by simp⟩⟩
   ·rw [List.getElem?_set_ne (Ne.symm hj)] at e2
    obtain ⟨u',r',q⟩:=hl j y v' e1 e2 e3
    refine ⟨u',r',?_⟩
    rcases q with ⟨k,e⟩ | ⟨k,c,e,z⟩
    ·refine .inl ⟨k,?_⟩
     have:y≠x:=fun e=>hj (nodup_ix hN e1 (e ▸ hi))
     simp [this,e]
    ·exact .inr ⟨k,c,e,z.sameBut hs (cne y c e)⟩
  ·obtain ⟨w',z⟩:=I.cell y c e
   exact ⟨w',z.sameBut hs (cne y c e)⟩
  ·obtain ⟨e,n,ne,nf,d⟩:=I.pin p hp
   exact ⟨(hs.2 p.1 ne).trans e,n,ne,nf,d⟩
 ·have hfn:X.fn x=true:=by
   rcases hf with z | z
   ·exact z
   ·rw [z] at hk;cases hk
  obtain ⟨c,hc⟩:=I.ok.has x (.inl hk)
  obtain ⟨w',z⟩:=I.cell x c hc
  refine wpAny_storeName_cell I.ok.kind hk hc z (fun h' hc' hs=>?_)
  obtain ⟨oc,hoc,hocd⟩:=id z
  refine h { s with heap:=h' } ⟨I.ok,I.os,I.bare,⟨fun b o e n hb hx=>?_,fun b o e n hb hx=>?_,I.base.free,fun b o e hx=>?_,I.base.tups,I.base.frzs,I.base.tbls⟩,⟨m,hn.sameBut hs (Ne.symm (cne x c hc)),fun j y v' e1 e2 e3=>?_⟩,fun y c' e=>?_,I.free,I.freeC,fun p hp=>?_,tracked ⟨oc,hoc,I.freeC x c hc⟩ hs,by simpa using I.len⟩ ⟨c,hs,.inr hc⟩
  ·exact (hs.2 b (Nat.ne_of_lt (Nat.lt_of_lt_of_le (Heap.lt_size e) (I.ok.cab x c hfn hc)))).trans (I.base.keep b o e n hb hx)
  ·obtain ⟨sl,e1⟩:=I.base.slot b o e n hb hx
   exact ⟨sl,(hs.2 b (Nat.ne_of_lt (Nat.lt_of_lt_of_le (Heap.lt_size e) (I.ok.cab x c hfn hc)))).trans e1⟩
  ·obtain ⟨o',e1⟩:=I.base.there b o e hx
   exact ⟨o',(hs.2 b (Nat.ne_of_lt (Nat.lt_of_lt_of_le (Heap.lt_size e) (I.ok.cab x c hfn hc)))).trans e1⟩
  ·by_cases hj:j=i
   ·subst hj
    rw [hi] at e1;cases e1
    rw [List.getElem?_set_self hiσ] at e2
    cases e2
    exact ⟨u,r,.inr ⟨.inl hk,c,hc,hc'⟩⟩
   ·rw [List.getElem?_set_ne (Ne.symm hj)] at e2
    obtain ⟨u',r',q⟩:=hl j y v' e1 e2 e3
    refine ⟨u',r',?_⟩
    rcases q with q | ⟨k,c',e,z'⟩
    ·exact .inl q
    ·refine .inr ⟨k,c',e,z'.sameBut hs ?_⟩
     rintro rfl
     exact hj (nodup_ix hN e1 (I.ok.inj _ _ _ e hc ▸ hi))
  ·by_cases hcc:c'=c
   ·subst hcc;exact ⟨_,hc'⟩
   ·obtain ⟨w2,z2⟩:=I.cell y c' e
    exact ⟨w2,z2.sameBut hs hcc⟩
  ·obtain ⟨e,n,ne,nf,d⟩:=I.pin p hp
   refine ⟨(hs.2 p.1 ?_).trans e,n,ne,nf,d⟩
   intro q
   rw [q,hoc] at e
   have q':oc=p.2:=Option.some.inj e
   exact d w' (by rw [← q'];exact hocd)
theorem store_ok {M:Model} {A:Around} {E:Value→Shared→Prop} {i:Nat} {x:Str} {v:V} {u:Value} {Q:Unit→Shared→Prop} (I:Inv X pins σ H s) (hN:X.N.Nodup) (hi:X.N[i]?=some x) (hx:Loc X.env.scope x) (r:RelV v u)
  (h:∀ s',Inv X pins (σ.set i (some v)) H s'→Q () s') (hf:X.fn x=true∨X.env.scope.names.lookup x=some .local:=by first | exact .inl rfl | exact .inr rfl | assumption):wpAny M A (storeName X.env x u) Q E s:=
 store_ok2 I hN hi hx r (fun s' I' _=>h s' I') hf
theorem Inv.call' {s':Shared} {ch:List Addr} (I:Inv X pins σ H s) (ho:s'.os=s.os) (u:Un (frs X.stack) ch H H' s.heap s'.heap) (hok:HOk X.prog X.w H' s'.heap) (hg:AllBare s'.gens)
  (hch:∀ b∈ch,(b∈X.ex∨X.s₀.heap.objs.size≤b)∧b≠X.env.locals∧(∀ x c,X.env.cells.lookup x=some c→c≠b)∧∀ p∈X.pn++pins,p.1≠b):Inv X pins σ H' s':=by
 obtain ⟨h',g',d',t',o'⟩:=s'
 have e:o'=s.os:=ho
 subst e
 exact I.call (g':=g') (t':=t') (d':=d') u hok hg hch
end
abbrev XK:=Value→Option Addr→Hp→Prop
abbrev St:=List (Option V)
abbrev VK:=V→Hp→Prop
abbrev TE:=St→Hp→VK→Prop
abbrev TT:=St→Hp→(Bool→Hp→Prop)→Prop
abbrev TA:=St→Hp→(List V→Hp→Prop)→Prop
structure Ends where
 nx:St→Hp→Prop
 rt:VK
 bk:St→Hp→Prop:=fun _ _=>False
 ct:St→Hp→Prop:=fun _ _=>False
abbrev TS:=Ends→St→Hp→Prop
def EP (X:Cx) (pins:List (Addr×Obj)) (σ:St) (Q:VK) (u:Value) (s':Shared):Prop:=∃ v H',Inv X pins σ H' s'∧RelV v u∧Q v H'
def TP (X:Cx) (pins:List (Addr×Obj)) (σ:St) (Q:Bool→Hp→Prop) (b:Bool) (s':Shared):Prop:=∃ H',Inv X pins σ H' s'∧Q b H'
def AP (X:Cx) (pins:List (Addr×Obj)) (σ:St) (Q:List V→Hp→Prop) (us:List Value) (s':Shared):Prop:=∃ vs H',Inv X pins σ H' s'∧Vals vs us∧Q vs H'
def SP (X:Cx) (pins:List (Addr×Obj)) (D:Ends) (f:Flow) (s':Shared):Prop:=
 match f with
 | .next=>∃ σ' H',Inv X pins σ' H' s'∧D.nx σ' H'
 | .brk=>∃ σ' H',Inv X pins σ' H' s'∧D.bk σ' H'
 | .cont=>∃ σ' H',Inv X pins σ' H' s'∧D.ct σ' H'
 | .ret u=>∃ v σ' H',Inv X pins σ' H' s'∧RelV v u∧D.rt v H'
def PE (X:Cx) (e:Expr) (t:TE):Prop:=
 ∀ (pins:List (Addr×Obj)) (s:Shared) (σ:St) (H:Hp) (Q:VK),Inv X pins σ H s→t σ H Q→wpAny (model X.prog X.w) X.A (eval e X.env) (EP X pins σ Q) X.xe s
def PT (X:Cx) (e:Expr) (t:TT):Prop:=
 ∀ (pins:List (Addr×Obj)) (s:Shared) (σ:St) (H:Hp) (Q:Bool→Hp→Prop),Inv X pins σ H s→t σ H Q→wpAny (model X.prog X.w) X.A (isTrue e X.env (eval e X.env)) (TP X pins σ Q) X.xe s
def PW (X:Cx) (e:Expr) (t:TT):Prop:=
 ∀ (whole:Sem Value) (pins:List (Addr×Obj)) (s:Shared) (σ:St) (H:Hp) (Q:Bool→Hp→Prop),Inv X pins σ H s→t σ H Q→wpAny (model X.prog X.w) X.A (isTrue e X.env whole) (TP X pins σ Q) X.xe s
theorem PW.pt {X:Cx} {e:Expr} {t:TT} (h:PW X e t):PT X e t:=h _
def PA (X:Cx) (es:List Expr) (t:TA):Prop:=
 ∀ (pos:Pos) (pins:List (Addr×Obj)) (s:Shared) (σ:St) (H:Hp) (Q:List V→Hp→Prop),Inv X pins σ H s→t σ H Q→wpAny (model X.prog X.w) X.A (spliced (backTo pos (starEach es X.env))) (AP X pins σ Q) X.xe s
def PS (X:Cx) (st:Stmt) (t:TS):Prop:=
 ∀ (pins:List (Addr×Obj)) (s:Shared) (σ:St) (H:Hp) (D:Ends),Inv X pins σ H s→t D σ H→wpAny (model X.prog X.w) X.A (exec st X.env) (SP X pins D) X.xe s
def PSs (X:Cx) (st:List Stmt) (t:TS):Prop:=
 ∀ (pins:List (Addr×Obj)) (s:Shared) (σ:St) (H:Hp) (D:Ends),Inv X pins σ H s→t D σ H→wpAny (model X.prog X.w) X.A (execs st X.env) (SP X pins D) X.xe s
theorem thn {α:Type} {t:Sem α} {Q Q':α→Shared→Prop} {M:Model} {A:Around} {E:Value→Shared→Prop} {s:Shared} (h:wpAny M A t Q E s) (hQ:∀ a s,Q a s→Q' a s):wpAny M A t Q' E s:=wpAny_mono h hQ fun _ _ x=>x
open PySem PySem.Spec PyProof.Rows
section
variable {X:Cx}
theorem bin {a b:Expr} {ta tb:TE} (ha:PE X a ta) (hb:PE X b tb) {pins:List (Addr×Obj)} {s:Shared} {σ:St} {H:Hp} {R:V→V→Hp→Prop} (I:Inv X pins σ H s) (h:ta σ H fun x H1=>tb σ H1 fun y H2=>R x y H2)
  {α:Type} {Q:α→Shared→Prop} {f:Value→Value→Sem α}
  (hf:∀ v u s2 x y H2,Inv X pins σ H2 s2→RelV x v→RelV y u→R x y H2→wpAny (model X.prog X.w) X.A (f v u) Q X.xe s2) :
  wpAny (model X.prog X.w) X.A (eval a X.env) (fun v s₁=>wpAny (model X.prog X.w) X.A (eval b X.env) (fun u s₂=>wpAny (model X.prog X.w) X.A (f v u) Q X.xe s₂) X.xe s₁) X.xe s:=by
 refine thn (ha pins s σ H _ I h) fun v s1 ⟨x,H1,I1,r1,q1⟩=>?_
 refine thn (hb pins s1 σ H1 _ I1 q1) fun u s2 ⟨y,H2,I2,r2,q2⟩=>?_
 exact hf v u s2 x y H2 I2 r1 r2 q2
def tVar (i:Nat):TE:=fun σ H Q=>∃ v,σ[i]?=some (some v)∧Q v H
def tC (v:V):TE:=fun _ H Q=>Q v H
theorem pe_var {i:Nat} {x:Str} {pos:Pos} (hN:X.N[i]?=some x) (hv:Vis X.env.scope x) (hd:(x == ("__debug__" : Str))=false:=by decide) (hcd:(x == ("__classdict__" : Str))=false:=by decide):PE X (.Name x pos) (tVar i):=by
 intro pins s σ H Q I h
 obtain ⟨v,e,h⟩:=h
 obtain ⟨m,hn,hl⟩:=I.loc
 obtain ⟨u,r,l⟩:=hl i x v hN e hv
 have fin:EP X pins σ Q u s:=⟨v,H,I,r,h⟩
 rcases l with ⟨hk,hm⟩ | ⟨hk,c,hc,hcell⟩
 ·exact wpAny_Name (wpAny_loadName_local I.ok.kind hk hn hm fin) hd
 ·rcases hk with hk | hk
  ·exact wpAny_Name (wpAny_loadName_cell I.ok.kind hk hc hcell fin) hd
  ·exact wpAny_Name (wpAny_loadName_free I.ok.kind hk hc hcell fin hcd) hd
theorem pe_int {i j pos}:PE X (.Constant (.int i) j pos) (tC (.int i)):=fun _ _ _ H _ I h=>wpAny_Constant_int ⟨.int i,H,I.tok _,⟨_,rfl⟩,h⟩
theorem pe_bl {b j pos}:PE X (.Constant (.bool b) j pos) (tC (.bl b)):=fun _ _ _ H _ I h=>Constant_bool ⟨.bl b,H,I,rfl,h⟩
theorem pe_non {j pos}:PE X (.Constant .none j pos) (tC .non):=fun _ _ _ H _ I h=>Constant_none ⟨.non,H,I,rfl,h⟩
theorem pe_str {x j pos}:PE X (.Constant (.str x) j pos) (tC (.str x)):=fun _ _ _ H _ I h=>Calls.Constant_str ⟨.str x,H,I.tok _,⟨_,rfl⟩,h⟩
def Gl (X:Cx) (x:Str):Prop:=X.env.kindOf x=some .globalImplicit
theorem ld_glob {E:Value→Shared→Prop} {pins:List (Addr×Obj)} {s:Shared} {σ:St} {H:Hp} {x:Str} {u:Value} {pos:Pos} {Q:Value→Shared→Prop} (I:Inv X pins σ H s) (hg:Gl X x) (hm:X.mg x=some u) (h:Q u s)
  (hd:(x == ("__debug__" : Str))=false:=by decide):wpAny (model X.prog X.w) X.A (eval (.Name x pos) X.env) Q E s:=
 Calls.Name_function_global I.ok.kind hg (Calls.loadGlobal_global (by rw [I.ok.glob];exact I.mod.glob.keeps I.bk) hm h) hd
theorem ld_blt {E:Value→Shared→Prop} {pins:List (Addr×Obj)} {s:Shared} {σ:St} {H:Hp} {x:Str} {u:Value} {pos:Pos} {Q:Value→Shared→Prop} (I:Inv X pins σ H s) (hg:Gl X x) (hm:X.mg x=none) (hv:bootBuiltins x=some u) (h:Q u s)
  (hn:x≠"__name__":=by decide) (hd:(x == ("__debug__" : Str))=false:=by decide):wpAny (model X.prog X.w) X.A (eval (.Name x pos) X.env) Q E s:=by
 obtain ⟨mb,h1,h2⟩:=I.mod.blt
 exact Calls.Name_function_global I.ok.kind hg (Calls.loadGlobal_builtin (by rw [I.ok.glob];exact I.mod.glob.keeps I.bk) hm (by rw [I.ok.blt];exact h1.keeps I.bk) ((h2 x hn).trans hv) h) hd
theorem pe_glob {x:Str} {v:V} {u:Value} {pos:Pos} (hg:Gl X x) (hm:X.mg x=some u) (r:RelV v u) (hd:(x == ("__debug__" : Str))=false:=by decide):PE X (.Name x pos) (tC v):=
 fun _ _ _ H _ I h=>ld_glob I hg hm ⟨v,H,I,r,h⟩ hd
theorem pe_bltn {x:Str} {v:V} {u:Value} {pos:Pos} (hg:Gl X x) (hm:X.mg x=none) (hv:bootBuiltins x=some u) (r:RelV v u) (hn:x≠"__name__":=by decide) (hd:(x == ("__debug__" : Str))=false:=by decide):PE X (.Name x pos) (tC v):=
 fun _ _ _ H _ I h=>ld_blt I hg hm hv ⟨v,H,I,r,h⟩ hn hd
variable {a b:Expr} {ta tb:TE} {pos:Pos}
def PC (X:Cx) (op:CmpOp) (a b:Expr) (t:TE):Prop:=
 ∀ (pins:List (Addr×Obj)) (s:Shared) (σ:St) (H:Hp) (Q:VK),Inv X pins σ H s→t σ H Q→
  wpAny (model X.prog X.w) X.A (eval a X.env) (fun v s₁=>wpAny (model X.prog X.w) X.A (eval b X.env) (fun u s₂=>wpAny (model X.prog X.w) X.A (compareOp op v u) (EP X pins σ Q) X.xe s₂) X.xe s₁) X.xe s
theorem nobehind (b:Expr) {op:CmpOp} (h:op≠.In) (h2:op≠.NotIn):behindInMarks op b=false:=by
 have e1:(op == CmpOp.In)=false:=by cases op <;> first | rfl | exact absurd rfl h
 have e2:(op == CmpOp.NotIn)=false:=by cases op <;> first | rfl | exact absurd rfl h2
 cases b <;> simp [behindInMarks,e1,e2]
def tB (t:TE):TT:=fun σ H Q=>t σ H fun x H1=>∃ c,x=.bl c∧Q c H1
theorem pt_cmp {op:CmpOp} {t:TE} (h:PC X op a b t) (h1:behindInMarks op b=false:=by first | exact nobehind _ (by decide) (by decide) | rfl):PT X (.Compare a [op] [b] pos) (tB t):=by
 intro pins s σ H Q I hw
 refine wpAny_isTrue_Compare1 (thn (h pins s σ H _ I hw) fun v s1 h1=>thn h1 fun u s2 h2=>thn h2 fun c s3 ⟨x,H1,I1,r1,q1⟩=>?_) h1
 obtain ⟨d,rfl,q⟩:=q1
 cases r1
 exact wpAny_truthy_bool ⟨H1,I1,q⟩
theorem pt_val {e:Expr} {t:TE} (h:PE X e t) (he:∀ whole,isTrue e X.env whole=(do let v ← whole;standAt e.pos;holding [v] (truthy v)):=by intro _;rfl):PT X e (tB t):=by
 intro pins s σ H Q I hw
 refine isTrue_plain (thn (h pins s σ H _ I hw) fun v s1 ⟨x,H1,I1,r1,q1⟩=>?_) (he _)
 obtain ⟨d,rfl,q⟩:=q1
 cases r1
 exact wpAny_truthy_bool ⟨H1,I1,q⟩
variable {tA tB':TT} {rest:List Expr}
def tAnd (t u:TT):TT:=fun σ H Q=>t σ H fun c H1=>if c=true then u σ H1 Q else Q false H1
def tOr (t u:TT):TT:=fun σ H Q=>t σ H fun c H1=>if c=true then Q true H1 else u σ H1 Q
def tNot (t:TT):TT:=fun σ H Q=>t σ H fun c H1=>Q (!c) H1
theorem pw_and1 (ha:PT X a tA):PW X (.BoolOp .And [a] pos) tA:=by
 intro wh pins s σ H Q I h
 refine isTrue_and (thn (ha pins s σ H Q I h) fun c s1 e=>?_)
 cases c with
 | true=>exact isTrue_and_nil e
 | false=>exact e
theorem pw_or1 (ha:PT X a tA):PW X (.BoolOp .Or [a] pos) tA:=by
 intro wh pins s σ H Q I h
 refine isTrue_or (thn (ha pins s σ H Q I h) fun c s1 e=>?_)
 cases c with
 | false=>exact isTrue_or_nil e
 | true=>exact e
theorem pw_and (ha:PT X a tA) (hb:PW X (.BoolOp .And (b :: rest) pos) tB'):PW X (.BoolOp .And (a :: b :: rest) pos) (tAnd tA tB'):=by
 intro wh pins s σ H Q I h
 refine isTrue_and (thn (ha pins s σ H _ I h) fun c s1 ⟨H1,I1,q1⟩=>?_)
 cases c with
 | true=>exact hb wh pins s1 σ H1 Q I1 q1
 | false=>exact ⟨H1,I1,q1⟩
theorem pw_or (ha:PT X a tA) (hb:PW X (.BoolOp .Or (b :: rest) pos) tB'):PW X (.BoolOp .Or (a :: b :: rest) pos) (tOr tA tB'):=by
 intro wh pins s σ H Q I h
 refine isTrue_or (thn (ha pins s σ H _ I h) fun c s1 ⟨H1,I1,q1⟩=>?_)
 cases c with
 | true=>exact ⟨H1,I1,q1⟩
 | false=>exact hb wh pins s1 σ H1 Q I1 q1
theorem pt_not (ha:PT X a tA):PT X (.UnaryOp .Not a pos) (tNot tA):=by
 intro pins s σ H Q I h
 exact isTrue_not (ha pins s σ H (fun c H1=>Q (!c) H1) I h)
def tAndV (ta tb:TE):TE:=fun σ H Q=>ta σ H fun x H1=>∃ c,x=.bl c∧if c=true then tb σ H1 Q else Q (.bl false) H1
def tOrV (ta tb:TE):TE:=fun σ H Q=>ta σ H fun x H1=>∃ c,x=.bl c∧if c=true then Q (.bl true) H1 else tb σ H1 Q
def tNotV (ta:TE):TE:=fun σ H Q=>ta σ H fun x H1=>∃ c,x=.bl c∧Q (.bl (!c)) H1
theorem pe_one {op} {t:TE} (h:PE X a t):PE X (.BoolOp op [a] pos) t:=fun pins s σ H Q I hw=>BoolOp_one (h pins s σ H Q I hw)
theorem pe_and (ha:PE X a ta) (hb:PE X (.BoolOp .And (b :: rest) pos) tb):PE X (.BoolOp .And (a :: b :: rest) pos) (tAndV ta tb):=by
 intro pins s σ H Q I h
 refine BoolOp_and (thn (ha pins s σ H _ I h) fun v s1 ⟨x,H1,I1,r1,q1⟩=>?_)
 obtain ⟨c,rfl,q1⟩:=q1
 cases r1
 refine wpAny_truthy_bool ?_
 cases c with
 | true=>exact hb pins s1 σ H1 Q I1 q1
 | false=>exact ⟨.bl false,H1,I1,rfl,q1⟩
theorem pe_or (ha:PE X a ta) (hb:PE X (.BoolOp .Or (b :: rest) pos) tb):PE X (.BoolOp .Or (a :: b :: rest) pos) (tOrV ta tb):=by
 intro pins s σ H Q I h
 refine BoolOp_or (thn (ha pins s σ H _ I h) fun v s1 ⟨x,H1,I1,r1,q1⟩=>?_)
 obtain ⟨c,rfl,q1⟩:=q1
 cases r1
 refine wpAny_truthy_bool ?_
 cases c with
 | false=>exact hb pins s1 σ H1 Q I1 q1
 | true=>exact ⟨.bl true,H1,I1,rfl,q1⟩
theorem pe_not (ha:PE X a ta):PE X (.UnaryOp .Not a pos) (tNotV ta):=by
 intro pins s σ H Q I h
 refine UnaryOp_ (thn (ha pins s σ H _ I h) fun v s1 ⟨x,H1,I1,r1,q1⟩=>?_)
 obtain ⟨c,rfl,q1⟩:=q1
 cases r1
 exact not_of (wpAny_truthy_bool ⟨.bl (!c),H1,I1,rfl,q1⟩)
def tIf (t:TT) (ta tb:TE):TE:=fun σ H Q=>t σ H fun c H1=>if c=true then ta σ H1 Q else tb σ H1 Q
theorem pe_ifExp {c:Expr} (hc:PT X c tA) (ha:PE X a ta) (hb:PE X b tb):PE X (.IfExp c a b pos) (tIf tA ta tb):=by
 intro pins s σ H Q I h
 refine wpAny_IfExp (thn (hc pins s σ H _ I h) fun d s1 ⟨H1,I1,q1⟩=>?_)
 cases d with
 | true=>exact ha pins s1 σ H1 Q I1 q1
 | false=>exact hb pins s1 σ H1 Q I1 q1
end
open PySem PySem.Spec PyProof.Rows
def SqL (K:PySem.W.Frag) (H:Hp) (a:Addr) (xs:List V):Prop:=
 Rd H a (.lst xs)∨
  ∃ (o:Obj) (its:Array Value) (n:Nat),K.lookup a=some o∧o.cls=.type "list"∧o.dict=none∧o.data=.seq its n∧its.size≤sizeLine∧Vals xs its.toList
def SqT (K:PySem.W.Frag) (H:Hp) (a:Addr) (xs:List V):Prop:=
 Rd H a (.tup xs)∨
  ∃ (o:Obj) (its:Array Value) (n:Nat),K.lookup a=some o∧o.cls=.type "tuple"∧o.data=.seq its n∧its.size≤sizeLine∧Vals xs its.toList
def absV:Value→Option V
 | .none=>some .non
 | .bool b=>some (.bl b)
 | .int i _=>some (.int i)
 | .str x _=>some (.str x)
 | .bytes b _=>some (.byt b)
 | .float b _=>some (.flt b)
 | .ref a=>some (.ref a)
 | .type n=>some (.ty n)
 | _=>none
theorem RelV.abs {x:V} {u:Value} (r:RelV x u):absV u=some x:=by
 cases x with
 | non=>cases r;rfl
 | bl _=>cases r;rfl
 | int _=>obtain ⟨t,rfl⟩:=r;rfl
 | str _=>obtain ⟨t,rfl⟩:=r;rfl
 | byt _=>obtain ⟨t,rfl⟩:=r;rfl
 | flt _=>obtain ⟨t,rfl⟩:=r;rfl
 | ref _=>cases r;rfl
 | ty _=>cases r;rfl
theorem RelV.inj {x y:V} {u:Value} (r:RelV x u) (q:RelV y u):x=y:=Option.some.inj (r.abs.symm.trans q.abs)
theorem Vals.inj:∀ {xs ys:List V} {us:List Value},Vals xs us→Vals ys us→xs=ys
 | _,_,_,.nil,.nil=>rfl
 | _,_,_,.cons r t,.cons r' t'=>by rw [r.inj r',Vals.inj t t']
section
variable {X:Cx} {pins:List (Addr×Obj)} {σ:St} {H:Hp} {s:Shared} {a:Addr} {xs ys:List V}
theorem SqL.of {K:PySem.W.Frag} (h:H a=some (.lst xs)):SqL K H a xs:=.inl (.inl h)
theorem SqT.of {K:PySem.W.Frag} (h:H a=some (.tup xs)):SqT K H a xs:=.inl (.inl h)
theorem Inv.list (I:Inv X pins σ H s) (h:SqL X.K H a xs):∃ its:List Value,Vals xs its∧PlainL s.heap a its.toArray∧xs.length≤sizeLine:=by
 rcases h with h | ⟨o,its,n,hk,hc,hd,hs,hz,r⟩
 ·obtain ⟨z,its,n,r,e⟩:=h.ok I.hok
  exact ⟨its,r,⟨_,n,e,rfl,rfl,rfl⟩,z⟩
 ·refine ⟨its.toList,r,⟨o,n,I.kIn a o hk,hc,hd,by simpa using hs⟩,?_⟩
  have e:=r.length
  simp only [Array.length_toList] at e
  omega
theorem Inv.tuple (I:Inv X pins σ H s) (h:SqT X.K H a xs):∃ its:List Value,Vals xs its∧IsTup s.heap a its.toArray∧xs.length≤sizeLine:=by
 rcases h with h | ⟨o,its,n,hk,hc,hs,hz,r⟩
 ·obtain ⟨z,its,r,p⟩:=h.ok I.hok
  exact ⟨its,r,p,z⟩
 ·refine ⟨its.toList,r,⟨o,I.kIn a o hk,hc,n,by simpa using hs⟩,?_⟩
  have e:=r.length
  simp only [Array.length_toList] at e
  omega
theorem Inv.list_inj (I:Inv X pins σ H s) (h:SqL X.K H a xs) (h':SqL X.K H a ys):xs=ys:=by
 obtain ⟨its,r,⟨o,n,e,_,_,d⟩,_⟩:=I.list h
 obtain ⟨its',r',⟨o',n',e',_,_,d'⟩,_⟩:=I.list h'
 rw [e] at e';cases e'
 rw [d] at d'
 injection d' with d1 _
 have:its=its':=by simpa using congrArg Array.toList d1
 subst this
 exact r.inj r'
theorem Inv.tuple_inj (I:Inv X pins σ H s) (h:SqT X.K H a xs) (h':SqT X.K H a ys):xs=ys:=by
 obtain ⟨its,r,⟨o,e,_,n,d⟩,_⟩:=I.tuple h
 obtain ⟨its',r',⟨o',e',_,n',d'⟩,_⟩:=I.tuple h'
 rw [e] at e';cases e'
 rw [d] at d'
 injection d' with d1 _
 have:its=its':=by simpa using congrArg Array.toList d1
 subst this
 exact r.inj r'
end
abbrev Cx.wish (X:Cx) (E:Value→Shared→Prop):Cx:={ X with xe:=E }
abbrev Cx.nox (X:Cx):Cx:=X.wish fun _ _=>False
theorem Cx.Ok.wish {X:Cx} (ok:X.Ok) (E:Value→Shared→Prop):(X.wish E).Ok:=
 ⟨ok.mod,ok.kind,ok.glob,ok.blt,ok.above,ok.inj,ok.has,ok.cab,ok.hd,ok.frames,ok.stk,ok.exf,ok.bs,ok.bsz,ok.noex,ok.exfs,ok.funs,ok.frf⟩
theorem Cx.Ok.unwish {X:Cx} {E:Value→Shared→Prop} (ok:(X.wish E).Ok):X.Ok:=
 ⟨ok.mod,ok.kind,ok.glob,ok.blt,ok.above,ok.inj,ok.has,ok.cab,ok.hd,ok.frames,ok.stk,ok.exf,ok.bs,ok.bsz,ok.noex,ok.exfs,ok.funs,ok.frf⟩
section
variable {X:Cx} {pins:List (Addr×Obj)} {σ:St} {H:Hp} {s:Shared} {E:Value→Shared→Prop}
theorem Inv.wish (I:Inv X pins σ H s) (E:Value→Shared→Prop):Inv (X.wish E) pins σ H s:=⟨I.ok.wish E,I.os,I.bare,I.base,I.loc,I.cell,I.free,I.freeC,I.pin,I.hok,I.len⟩
theorem Inv.unwish (I:Inv (X.wish E) pins σ H s):Inv X pins σ H s:=⟨I.ok.unwish,I.os,I.bare,I.base,I.loc,I.cell,I.free,I.freeC,I.pin,I.hok,I.len⟩
theorem SP.unwish {D:Ends} {f:Flow} {s':Shared} (h:SP (X.wish E) pins D f s'):SP X pins D f s':=by
 cases f with
 | next=>obtain ⟨σ',H',I,q⟩:=h;exact ⟨σ',H',I.unwish,q⟩
 | brk=>obtain ⟨σ',H',I,q⟩:=h;exact ⟨σ',H',I.unwish,q⟩
 | cont=>obtain ⟨σ',H',I,q⟩:=h;exact ⟨σ',H',I.unwish,q⟩
 | ret u=>obtain ⟨v,σ',H',I,r,q⟩:=h;exact ⟨v,σ',H',I.unwish,r,q⟩
theorem PSs.nox {st:List Stmt} {t:TS} (h:PSs X.nox st t):PSs X st t:=fun pins s σ H D I hw=>
 wpAny_mono (h pins s σ H D (I.wish _) hw) (fun _ _ q=>q.unwish) fun _ _ z=>False.elim z
end
section
variable {X:Cx} {st:Stmt} {rest:List Stmt} {t u:TS} {e:Expr} {te:TE} {pos:Pos}
def tNext:TS:=fun D σ H=>D.nx σ H
def tSeq (t u:TS):TS:=fun D σ H=>t { D with nx:=u D } σ H
theorem pss_nil:PSs X [] tNext:=fun _ _ σ H _ I h=>wpAny_execs_nil ⟨σ,H,I,h⟩
theorem pss_cons (h1:PS X st t) (h2:PSs X rest u):PSs X (st :: rest) (tSeq t u):=by
 intro pins s σ H D I h
 refine wpAny_execs_cons (thn (h1 pins s σ H { D with nx:=u D } I h) fun f s1 q=>?_)
 cases f with
 | next=>
  obtain ⟨σ',H',I',q⟩:=q
  exact h2 pins s1 σ' H' D I' q
 | ret v=>exact q
 | brk=>exact q
 | cont=>exact q
theorem pss_one (h1:PS X st t):PSs X [st] t:=by
 intro pins s σ H D I h
 refine wpAny_execs_cons (thn (h1 pins s σ H D I h) fun f s1 q=>?_)
 cases f with
 | next=>exact wpAny_execs_nil q
 | ret v=>exact q
 | brk=>exact q
 | cont=>exact q
theorem Inv.quiet {pins:List (Addr×Obj)} {σ:St} {H:Hp} {s:Shared} (I:Inv X pins σ H s):interactive X.env=false:=by simp [interactive,I.ok.kind]
def tDrop (te:TE):TS:=fun D σ H=>te σ H fun _ H1=>D.nx σ H1
theorem ps_expr (he:PE X e te) (hs:swapsWith e none pos.line X.env=pure false:=by rfl):PS X (.Expr e pos) (tDrop te):=by
 intro pins s σ H D I h
 exact wpAny_Expr_any (thn (he pins s σ H _ I h) fun v s1 ⟨x,H1,I1,r1,q1⟩=>⟨σ,H1,I1,q1⟩) I.quiet hs
def tRet (te:TE):TS:=fun D σ H=>te σ H D.rt
theorem ps_ret (he:PE X e te):PS X (.Return (some e) pos) (tRet te):=by
 intro pins s σ H D I h
 exact wpAny_Return_some (thn (he pins s σ H _ I h) fun v s1 ⟨x,H1,I1,r1,q1⟩=>⟨x,σ,H1,I1,r1,q1⟩)
def tIfS (c:TT) (t u:TS):TS:=fun D σ H=>c σ H fun b H1=>if b=true then t D σ H1 else u D σ H1
theorem ps_if {c:Expr} {a b:List Stmt} {tc:TT} (hc:PT X c tc) (ha:PSs X a t) (hb:PSs X b u):PS X (.If c a b pos) (tIfS tc t u):=by
 intro pins s σ H D I h
 refine wpAny_If (thn (hc pins s σ H _ I h) fun d s1 ⟨H1,I1,q1⟩=>?_)
 cases d with
 | true=>exact ha pins s1 σ H1 D I1 q1
 | false=>exact hb pins s1 σ H1 D I1 q1
end
abbrev TG:=V→St→Hp→(St→Hp→Prop)→Prop
abbrev TGs:=List V→St→Hp→(St→Hp→Prop)→Prop
def PG (X:Cx) (target:Expr) (t:TG):Prop:=
 ∀ (pins:List (Addr×Obj)) (s:Shared) (σ:St) (H:Hp) (v:V) (u:Value) (Q:St→Hp→Prop),Inv X pins σ H s→RelV v u→t v σ H Q→
  wpAny (model X.prog X.w) X.A (assign target X.env u) (fun _ s'=>∃ σ' H',Inv X pins σ' H' s'∧Q σ' H') X.xe s
def PGs (X:Cx) (ts:List Expr) (t:TGs):Prop:=
 ∀ (pins:List (Addr×Obj)) (s:Shared) (σ:St) (H:Hp) (vs:List V) (us:List Value) (Q:St→Hp→Prop),Inv X pins σ H s→Vals vs us→t vs σ H Q→
  wpAny (model X.prog X.w) X.A (assignInOrder ((assignEach ts X.env).map (·.2)) us) (fun _ s'=>∃ σ' H',Inv X pins σ' H' s'∧Q σ' H') X.xe s
abbrev TIp:=V→V→Hp→VK→Prop
def PIp (X:Cx) (op:Operator) (t:TIp):Prop:=
 ∀ (pins:List (Addr×Obj)) (s:Shared) (σ:St) (H:Hp) (x y:V) (v u:Value) (Q:VK),Inv X pins σ H s→RelV x v→RelV y u→t x y H Q→
  wpAny (model X.prog X.w) X.A (inplaceOp op v u) (EP X pins σ Q) X.xe s
section
variable {X:Cx} {pos:Pos}
def gName (i:Nat):TG:=fun v σ H Q=>Q (σ.set i (some v)) H
theorem pg_name {i:Nat} {x:Str} (hN:X.N.Nodup) (hi:X.N[i]?=some x) (hx:Loc X.env.scope x) (hf:X.fn x=true∨X.env.scope.names.lookup x=some .local:=by first | exact .inl rfl | exact .inr rfl | assumption):PG X (.Name x pos) (gName i):=by
 intro pins s σ H v u Q I r h
 exact wpAny_assign_Name (store_ok I hN hi hx r (fun s' I'=>⟨_,H,I',h⟩) hf)
def gNil:TGs:=fun vs σ H Q=>vs=[]∧Q σ H
def gCons (t:TG) (u:TGs):TGs:=fun vs σ H Q=>∃ v r,vs=v :: r∧t v σ H fun σ' H'=>u r σ' H' Q
theorem pgs_nil:PGs X [] gNil:=by
 intro pins s σ H vs us Q I r h
 obtain ⟨e,h⟩:=h
 subst e
 cases r
 exact assignInOrder_nil ⟨σ,H,I,h⟩
theorem pgs_cons {e:Expr} {es:List Expr} {t:TG} {u:TGs} (h1:PG X e t) (h2:PGs X es u)
  (hs:(assignEach (e :: es) X.env).map (·.2)=assign e X.env :: (assignEach es X.env).map (·.2):=by rfl):PGs X (e :: es) (gCons t u):=by
 intro pins s σ H vs us Q I r h
 obtain ⟨v,vr,e1,h⟩:=h
 subst e1
 cases r with
 | cons r rr=>
  rw [hs]
  refine assignInOrder_cons (thn (h1 pins s σ H _ _ _ I r h) fun _ s1 ⟨σ1,H1,I1,q1⟩=>?_)
  exact h2 pins s1 σ1 H1 _ _ Q I1 rr q1
def gTup (K:PySem.W.Frag) (n:Nat) (t:TGs):TG:=fun v σ H Q=>∃ a xs,v=.ref a∧SqT K H a xs∧xs.length=n∧t xs σ H Q
theorem pg_tup {es:List Expr} {k:Nat} {t:TGs} {n:Nat} (hc:X.calm=true) (h:PGs X es t)
  (hn:(assignEach es X.env).length=n:=by rfl) (hst:(assignEach es X.env).findIdx? (·.1)=none:=by rfl):PG X (.Tuple es k pos) (gTup X.K n t):=by
 intro pins s σ H v u Q I r hw
 obtain ⟨a,xs,e1,hq,hl,hw⟩:=hw
 subst e1
 cases r
 obtain ⟨its,rv,ht,hz⟩:=I.tuple hq
 refine assign_Tuple_tuple (I.ok.hd hc) ht (by simp [hn,← hl,rv.length]) hst fun h' hx=>?_
 have I1:Inv X pins σ H { s with heap:=h' }:=I.kept (t':=s.toks) fun b o e=>hx b o (Nat.ne_of_lt (Heap.lt_size e)) e
 exact h pins _ σ H xs _ Q I1 (by simpa using rv) hw
def tAsg (te:TE) (g:TG):TS:=fun D σ H=>te σ H fun x H1=>g x σ H1 D.nx
theorem ps_asg {tg e:Expr} {te:TE} {g:TG} (he:PE X e te) (hg:PG X tg g) (hs:swapsWithSole [tg] e pos.line X.env=pure false:=by rfl) (hw:swappedStores [tg] e X.env=pure none:=by rfl)
  (h1:(assignEach [tg] X.env).map (·.2)=[assign tg X.env]:=by rfl):PS X (.Assign [tg] e pos) (tAsg te g):=by
 intro pins s σ H D I h
 refine wpAny_Assign_stores (thn (he pins s σ H _ I h) fun v s1 ⟨x,H1,I1,r1,q1⟩=>?_) hs hw
 rw [h1]
 exact thn (hg pins s1 σ H1 x v _ I1 r1 q1) fun _ s2 q=>q
theorem ps_set {i:Nat} {x:Str} {e:Expr} {te:TE} {pos':Pos} (hN:X.N.Nodup) (hi:X.N[i]?=some x) (hx:Loc X.env.scope x) (he:PE X e te) (hs:swapsWith e (some (.Name x pos')) pos.line X.env=pure false:=by rfl) (hf:X.fn x=true∨X.env.scope.names.lookup x=some .local:=by first | exact .inl rfl | exact .inr rfl | assumption) :
  PS X (.Assign [.Name x pos'] e pos) (tAsg te (gName i)):=by
 intro pins s σ H D I h
 refine wpAny_Assign_Name (thn (he pins s σ H _ I h) fun v s1 ⟨y,H1,I1,r1,q1⟩=>?_) hs
 exact store_ok I1 hN hi hx r1 (fun s2 I2=>⟨_,H1,I2,q1⟩) hf
def tAug (i:Nat) (te:TE) (ti:TIp):TS:=fun D σ H=>∃ x,σ[i]?=some (some x)∧te σ H fun y H1=>ti x y H1 fun z H2=>D.nx (σ.set i (some z)) H2
theorem ps_aug {i:Nat} {x:Str} {e:Expr} {te:TE} {op:Operator} {ti:TIp} {pos':Pos} (hN:X.N.Nodup) (hi:X.N[i]?=some x) (hx:Loc X.env.scope x) (he:PE X e te) (ho:PIp X op ti) (hf:X.fn x=true∨X.env.scope.names.lookup x=some .local:=by first | exact .inl rfl | exact .inr rfl | assumption) :
  PS X (.AugAssign (.Name x pos') op e pos) (tAug i te ti):=by
 intro pins s σ H D I h
 obtain ⟨v,e1,h⟩:=h
 obtain ⟨m,hn,hl⟩:=I.loc
 have vis:Vis X.env.scope x:=by rcases hx with k | k;exact .inl k;exact .inr (.inl k)
 obtain ⟨u,r,l⟩:=hl i x v hi e1 vis
 refine wpAny_AugAssign_Name ?_
 have go:wpAny (model X.prog X.w) X.A (eval e X.env) (fun w s₂=>wpAny (model X.prog X.w) X.A (inplaceOp op u w) (fun r s₃=>wpAny (model X.prog X.w) X.A (storeName X.env x r) (fun _=>SP X pins D .next) X.xe s₃) X.xe s₂) X.xe s:=by
  refine thn (he pins s σ H _ I h) fun w s1 ⟨y,H1,I1,r1,q1⟩=>?_
  refine thn (ho pins s1 σ H1 v y u w _ I1 r r1 q1) fun z s2 ⟨zv,H2,I2,r2,q2⟩=>?_
  exact store_ok I2 hN hi hx r2 (fun s3 I3=>⟨_,H2,I3,q2⟩) hf
 rcases l with ⟨hk,hm⟩ | ⟨hk,c,hc,hcell⟩
 ·exact wpAny_loadName_local I.ok.kind hk hn hm go
 ·rcases hk with hk | hk
  ·exact wpAny_loadName_cell I.ok.kind hk hc hcell go
  ·rcases hx with k | k
   ·have:X.env.scope.names.lookup x=some .free:=hk
    rw [k] at this;cases this
   ·have:X.env.scope.names.lookup x=some .free:=hk
    rw [k] at this;cases this
def ipI (f:Int→Int→Int):TIp:=fun x y H Q=>∃ i j,x=.int i∧y=.int j∧Q (.int (f i j)) H
theorem ip_add:PIp X .Add (ipI fun i j=>i+j):=by
 intro pins s σ H x y v u Q I r1 r2 h
 obtain ⟨i,j,e1,e2,q⟩:=h
 subst e1;subst e2
 obtain ⟨t,rfl⟩:=r1
 obtain ⟨t',rfl⟩:=r2
 exact iadd_int ⟨.int _,H,I.tok _,⟨_,rfl⟩,q⟩
end
section
variable {X:Cx} {pos:Pos}
def tWhile (c:TT) (tb:TS):TS:=fun D σ H=>∃ W:Nat→St→Hp→Prop,(∃ m,W m σ H)∧∀ m σ H,W m σ H→
 c σ H fun b H1=>if b=true then ∃ N:St→Hp→Prop,(∀ σ' H',N σ' H'→∃ m',m' < m∧W m' σ' H')∧tb { D with nx:=N,ct:=N,bk:=D.nx } σ H1 else D.nx σ H1
theorem ps_while {c:Expr} {body:List Stmt} {tc:TT} {tb:TS} (hp:PassesOwn (model X.prog X.w) X.A X.env X.xe) (hc:PT X c tc) (hb:PSs X body tb):PS X (.While c body [] pos) (tWhile tc tb):=by
 intro pins s σ H D I h
 obtain ⟨W,⟨m0,w0⟩,turn⟩:=h
 refine wpAny_While (codeAny_whileLoop (fun n s'=>∃ σ' H',Inv X pins σ' H' s'∧W n σ' H') ?_ m0 ⟨σ,H,I,w0⟩)
 rintro n s1 ⟨σ1,H1,I1,w1⟩
 refine wpAny_passesOwn hp (thn (hc pins s1 σ1 H1 _ I1 (turn n σ1 H1 w1)) fun b s2 ⟨H2,I2,q2⟩=>?_)
 cases b with
 | true=>
  obtain ⟨N,hN,q2⟩:=q2
  rw [if_pos rfl]
  refine wpAny_passesOwn hp (thn (hb pins s2 σ1 H2 _ I2 q2) fun f s3 q3=>?_)
  cases f with
  | next=>
   obtain ⟨σ3,H3,I3,n3⟩:=q3
   obtain ⟨m',hm,w3⟩:=hN σ3 H3 n3
   exact ⟨m',hm,σ3,H3,I3,w3⟩
  | cont=>
   obtain ⟨σ3,H3,I3,n3⟩:=q3
   obtain ⟨m',hm,w3⟩:=hN σ3 H3 n3
   exact ⟨m',hm,σ3,H3,I3,w3⟩
  | brk=>exact q3
  | ret v=>exact q3
 | false=>
  rw [if_neg Bool.false_ne_true]
  exact wpAny_execs_nil ⟨σ1,H2,I2,q2⟩
end
structure It where
 go:Nat→Hp→Prop
 yld:Nat→Hp→V→Hp→Prop
 stop:Nat→Hp→Prop
def FpOk (X:Cx) (pins:List (Addr×Obj)) (H:Hp) (b:Addr):Prop:=
 H b=none∧b≠X.env.locals∧b ∉ X.fs∧(b∈X.ex∨X.s₀.heap.objs.size≤b)∧(∀ x c,X.env.cells.lookup x=some c→c≠b)∧∀ p∈X.pn++pins,p.1≠b
theorem Inv.fpOk {X:Cx} {pins:List (Addr×Obj)} {σ:St} {H H':Hp} {s:Shared} {b:Addr} (I:Inv X pins σ H s) (hb:s.heap.objs.size≤b) (hn:H' b=none):FpOk X pins H' b:=by
 refine ⟨hn,Nat.ne_of_gt (Nat.lt_of_lt_of_le I.lt hb),I.nofs hb,.inr (Nat.le_trans I.sz hb),fun x c e z=>?_,fun p hp z=>?_⟩
 ·obtain ⟨v,q⟩:=I.cell x c e
  exact absurd (Nat.lt_of_lt_of_le q.lt (by rw [z];exact hb)) (Nat.lt_irrefl _)
 ·exact absurd (Nat.lt_of_lt_of_le (Heap.lt_size (I.pin p hp).1) (by rw [z];exact hb)) (Nat.lt_irrefl _)
structure Turn (P:Program) (w:World) (K:PySem.W.Frag) (tg:Expr) (J:It) (fp:List Addr) (it:Addr) (tn:Nat→Heap→Prop):Prop where
 mem:it∈fp
 obj:∀ i h,tn i h→∀ b∈fp,∃ o,h.get? b=some o∧∀ v,o.data≠.cell v
 keep:∀ i h h',tn i h→(∀ b∈fp,∀ o,h.get? b=some o→h'.get? b=some o)→tn i h'
 item:∀ (X:Cx),X.prog=P→X.w=w→X.K=K→X.calm=true→∀ (i:Nat) (pins:List (Addr×Obj)) (s:Shared) (σ:St) (H:Hp) (E:Value→Shared→Prop),Inv X pins σ H s→(∀ b∈fp,FpOk X pins H b)→tn i s.heap→J.go i H→
  wpAny (model P w) X.A (pyNext (.ref it)) (fun r s1=>∃ u,r=some u∧
   wpAny (model P w) X.A (letOwnedTupleGo tg (.ref it) u) (fun _ s2=>∃ x H',Inv X pins σ H' s2∧RelV x u∧J.yld i H x H'∧tn (i+1) s2.heap∧∀ b∈fp,H' b=none) E s1) E s
 done:∀ (X:Cx),X.prog=P→X.w=w→X.K=K→X.calm=true→∀ (i:Nat) (pins:List (Addr×Obj)) (s:Shared) (σ:St) (H:Hp) (E:Value→Shared→Prop),Inv X pins σ H s→(∀ b∈fp,FpOk X pins H b)→tn i s.heap→J.stop i H→
  wpAny (model P w) X.A (pyNext (.ref it)) (fun r s1=>r=none∧Inv X pins σ H s1) E s
 self:∀ (A:Around) (i:Nat) (s:Shared) (Q:Value→Shared→Prop) (E:Value→Shared→Prop),tn i s.heap→Q (.ref it) s→wpAny (model P w) A (pyIter (.ref it)) Q E s
abbrev TI:=St→Hp→(It→Hp→Prop)→Prop
def PIE (X:Cx) (pins:List (Addr×Obj)) (σ:St) (tg:Expr) (R:It→Hp→Prop) (itv:Value) (s2:Shared):Prop:=
 ∃ (it:Addr) (fp:List Addr) (tn:Nat→Heap→Prop) (J:It) (H':Hp),itv=.ref it∧Inv X pins σ H' s2∧Turn X.prog X.w X.K tg J fp it tn∧tn 0 s2.heap∧(∀ b∈fp,FpOk X pins H' b)∧R J H'
def PI (X:Cx) (tg iter:Expr) (wi:TI):Prop:=
 ∀ (pins:List (Addr×Obj)) (s:Shared) (σ:St) (H:Hp) (R:It→Hp→Prop),Inv X pins σ H s→wi σ H R→
  wpAny (model X.prog X.w) X.A (eval iter X.env) (fun v s1=>wpAny (model X.prog X.w) X.A (pyIter v) (PIE X pins σ tg R) X.xe s1) X.xe s
theorem go_of {M:Model} {A:Around} {E:Value→Shared→Prop} {s:Shared} {tg:Expr} {it:Addr} {u:Value} {o:Obj} {n:String} {vs:Array Value} {Q:Unit→Shared→Prop} (ho:s.heap.get? it=some o) (hc:o.cls=.type n) (hd:o.data=.fields vs)
  (hn:["enumerate","zip","dict_itemiterator","dict_reverseitemiterator","odict_iterator","itertools.zip_longest","itertools.pairwise"].contains n=false) (hQ:Q () s):wpAny M A (letOwnedTupleGo tg (.ref it) u) Q E s:=by
 unfold letOwnedTupleGo
 cases tg <;> first
  | exact wpAny_pure hQ
  | (cases u <;> first
    | exact wpAny_pure hQ
    | (refine wpAny_bind (wpAny_load ho ?_)
       rw [hc,hd]
       show wpAny M A (if (["enumerate","zip","dict_itemiterator","dict_reverseitemiterator","odict_iterator","itertools.zip_longest","itertools.pairwise"].contains n && vs[0]? == some (rawInt _))=true then _ else _) Q E s
       rw [if_neg (by intro h;rw [hn,Bool.false_and] at h;cases h)]
       exact wpAny_pure hQ))
def Itl (K:PySem.W.Frag) (a:Addr):It:=
 ⟨fun i H=>∃ xs x,SqL K H a xs∧xs[i]?=some x,fun i H x H'=>H'=H∧∀ xs,SqL K H a xs→xs[i]?=some x,fun i H=>∃ xs,SqL K H a xs∧xs.length≤i⟩
def Itt (K:PySem.W.Frag) (a:Addr):It:=
 ⟨fun i H=>∃ xs x,SqT K H a xs∧xs[i]?=some x,fun i H x H'=>H'=H∧∀ xs,SqT K H a xs→xs[i]?=some x,fun i H=>∃ xs,SqT K H a xs∧xs.length≤i⟩
def Itr (lo:Int) (n:Nat):It:=⟨fun i _=>i < n,fun i H x H'=>H'=H∧x=.int (lo+i),fun i _=>n≤i⟩
theorem turn_list {P:Program} {w:World} {K:PySem.W.Frag} {tg:Expr} (a it:Addr):Turn P w K tg (Itl K a) [it] it (fun i h=>h.IsListIter it a i) where
 mem:=by simp
 obj:=fun i h st b hb=>by
  have e:b=it:=by simpa using hb
  subst e
  obtain ⟨o,e,c,d⟩:=st
  exact ⟨o,e,fun v z=>by rw [d] at z;cases z⟩
 keep:=fun i h h' st k=>st.at fun o e=>k it (by simp) o e
 item:=by
  intro X hP hw hK hc i pins s σ H E I hf st hg
  subst hP hw hK
  obtain ⟨xs,x,hq,hx⟩:=hg
  obtain ⟨its,rv,p,hz⟩:=I.list hq
  obtain ⟨u,hu,ru⟩:=rv.get hx
  obtain ⟨f0,f1,f2,f3,f4,f5⟩:=hf it (by simp)
  refine wpAny_pyNext_list_item st p.isList (x:=u) (by simpa using hu) fun h' st' sb=>?_
  have I1:Inv X pins σ H { s with heap:=h' }:=I.turned (t':=s.toks) (fun b o hb e=>(sb.2 b hb).trans e) f0 f1 f3 f4 f5
  obtain ⟨o,e,c,d⟩:=id st'
  exact ⟨u,rfl,go_of (s:={ s with heap:=h' }) e c d (by decide) ⟨x,H,I1,ru,⟨rfl,fun ys hy=>by rw [I.list_inj hy hq];exact hx⟩,st',fun b hb=>(hf b hb).1⟩⟩
 done:=by
  intro X hP hw hK hc i pins s σ H E I hf st hg
  subst hP hw hK
  obtain ⟨xs,hq,hx⟩:=hg
  obtain ⟨its,rv,p,hz⟩:=I.list hq
  obtain ⟨f0,f1,f2,f3,f4,f5⟩:=hf it (by simp)
  have hl:=rv.length
  exact wpAny_pyNext_list_end (I.ok.hd hc) st p.isList (by simp;omega) fun h' eb=>⟨rfl,I.turned (t':=s.toks) (fun b o hb e=>eb b o hb e) f0 f1 f3 f4 f5⟩
 self:=fun _ _ _ _ _ st h=>wpAny_pyIter_listiter st h
theorem turn_tuple {P:Program} {w:World} {K:PySem.W.Frag} {tg:Expr} (a it:Addr):Turn P w K tg (Itt K a) [it] it (fun i h=>h.IsTupleIter it a i) where
 mem:=by simp
 obj:=fun i h st b hb=>by
  have e:b=it:=by simpa using hb
  subst e
  obtain ⟨o,e,c,d⟩:=st
  exact ⟨o,e,fun v z=>by rw [d] at z;cases z⟩
 keep:=fun i h h' st k=>st.at fun o e=>k it (by simp) o e
 item:=by
  intro X hP hw hK hc i pins s σ H E I hf st hg
  subst hP hw hK
  obtain ⟨xs,x,hq,hx⟩:=hg
  obtain ⟨its,rv,p,hz⟩:=I.tuple hq
  obtain ⟨u,hu,ru⟩:=rv.get hx
  obtain ⟨f0,f1,f2,f3,f4,f5⟩:=hf it (by simp)
  refine wpAny_pyNext_tuple_item st (show s.heap.IsTuple a its.toArray from p) (x:=u) (by simpa using hu) fun h' st' sb=>?_
  have I1:Inv X pins σ H { s with heap:=h' }:=I.turned (t':=s.toks) (fun b o hb e=>(sb.2 b hb).trans e) f0 f1 f3 f4 f5
  obtain ⟨o,e,c,d⟩:=id st'
  exact ⟨u,rfl,go_of (s:={ s with heap:=h' }) e c d (by decide) ⟨x,H,I1,ru,⟨rfl,fun ys hy=>by rw [I.tuple_inj hy hq];exact hx⟩,st',fun b hb=>(hf b hb).1⟩⟩
 done:=by
  intro X hP hw hK hc i pins s σ H E I hf st hg
  subst hP hw hK
  obtain ⟨xs,hq,hx⟩:=hg
  obtain ⟨its,rv,p,hz⟩:=I.tuple hq
  obtain ⟨f0,f1,f2,f3,f4,f5⟩:=hf it (by simp)
  have hl:=rv.length
  exact wpAny_pyNext_tuple_end (I.ok.hd hc) st (show s.heap.IsTuple a its.toArray from p) (by simp;omega) fun h' eb=>⟨rfl,I.turned (t':=s.toks) (fun b o hb e=>eb b o hb e) f0 f1 f3 f4 f5⟩
 self:=fun _ _ _ _ _ st h=>wpAny_pyIter_tupleiter st h
theorem turn_range {P:Program} {w:World} {K:PySem.W.Frag} {tg:Expr} (it:Addr) (lo:Int) (n:Nat):Turn P w K tg (Itr lo n) [it] it (fun i h=>IsRangeIter h it (lo+(i:Nat) * 1) ((n:Int) - (i:Nat)) 1) where
 mem:=by simp
 obj:=fun i h st b hb=>by
  have e:b=it:=by simpa using hb
  subst e
  exact ⟨_,st,fun v z=>by
   have z':Data.fields _=Data.cell v:=z
   cases z'⟩
 keep:=fun i h h' st k=>k it (by simp) _ st
 item:=by
  intro X hP hw hK hc i pins s σ H E I hf st hg
  subst hP hw hK
  obtain ⟨f0,f1,f2,f3,f4,f5⟩:=hf it (by simp)
  have W:=Walks.range (prog:=X.prog) (w:=X.w) (I.ok.hd hc) it lo 1 n
  refine W.item i s _ _ hg st fun v h' tk hv st' kk=>?_
  obtain ⟨t,rfl⟩:=hv
  have I1:Inv X pins σ H { s with heap:=h',toks:=tk }:=I.turned (fun b o hb e=>kk b o (by simpa using hb) e) f0 f1 f3 f4 f5
  refine ⟨_,rfl,go_of (s:={ s with heap:=h',toks:=tk }) (n:="range_iterator") st' rfl rfl (by decide) ⟨.int (lo+i),H,I1,⟨t,?_⟩,⟨rfl,rfl⟩,st',fun b hb=>(hf b hb).1⟩⟩
  rw [Int.mul_one]
 done:=by
  intro X hP hw hK hc i pins s σ H E I hf st hg
  subst hP hw hK
  obtain ⟨f0,f1,f2,f3,f4,f5⟩:=hf it (by simp)
  exact wpAny_pyNext_range_end (I.ok.hd hc) st (by have:n≤i:=hg;omega) fun h' eb=>⟨rfl,I.turned (t':=s.toks) (fun b o hb e=>eb b o hb e) f0 f1 f3 f4 f5⟩
 self:=fun _ _ _ _ _ st h=>wpAny_pyIter_rangeiter st h
open PySem PySem.Spec PyProof.Rows
section
variable {X:Cx} {tg:Expr}
def iList (K:PySem.W.Frag) (tl:TE):TI:=fun σ H R=>tl σ H fun x H1=>∃ a,x=.ref a∧(∃ xs,SqL K H1 a xs)∧R (Itl K a) H1
def iTup (K:PySem.W.Frag) (tl:TE):TI:=fun σ H R=>tl σ H fun x H1=>∃ a,x=.ref a∧(∃ xs,SqT K H1 a xs)∧R (Itt K a) H1
theorem pi_list {l:Expr} {tl:TE} (hl:PE X l tl):PI X tg l (iList X.K tl):=by
 intro pins s σ H R I h
 refine thn (hl pins s σ H _ I h) fun v s1 ⟨x,H1,I1,r1,q1⟩=>?_
 obtain ⟨a,e,⟨xs,hq⟩,q⟩:=q1
 subst e
 cases r1
 obtain ⟨its,rv,p,hz⟩:=I1.list hq
 refine wpAny_pyIter_list p.isList ?_
 refine ⟨s1.heap.objs.size,[s1.heap.objs.size],_,_,H1,rfl,I1.kept (t':=s1.toks) fun b o e=>Heap.get?_push_of_some _ e,turn_list a _,⟨_,Heap.get?_push_size _ rfl,rfl,rfl⟩,fun b hb=>?_,q⟩
 have e:b=s1.heap.objs.size:=by simpa using hb
 subst e
 exact I1.fpOk (Nat.le_refl _) (I1.hok.fresh (Nat.le_refl _))
theorem pi_tup {l:Expr} {tl:TE} (hl:PE X l tl):PI X tg l (iTup X.K tl):=by
 intro pins s σ H R I h
 refine thn (hl pins s σ H _ I h) fun v s1 ⟨x,H1,I1,r1,q1⟩=>?_
 obtain ⟨a,e,⟨xs,hq⟩,q⟩:=q1
 subst e
 cases r1
 obtain ⟨its,rv,p,hz⟩:=I1.tuple hq
 refine wpAny_pyIter_tuple (show s1.heap.IsTuple a its.toArray from p) ?_
 refine ⟨s1.heap.objs.size,[s1.heap.objs.size],_,_,H1,rfl,I1.kept (t':=s1.toks) fun b o e=>Heap.get?_push_of_some _ e,turn_tuple a _,⟨_,Heap.get?_push_size _ rfl,rfl,rfl⟩,fun b hb=>?_,q⟩
 have e:b=s1.heap.objs.size:=by simpa using hb
 subst e
 exact I1.fpOk (Nat.le_refl _) (I1.hok.fresh (Nat.le_refl _))
theorem range_it {pins:List (Addr×Obj)} {σ:St} {H:Hp} {s:Shared} {R:It→Hp→Prop} {E:Value→Shared→Prop} {lo hi:Int} {t u v:Tok} {tk:Nat} (I:Inv X pins σ H s) (h1:-(2 ^ 62)≤lo) (h2:lo < 2 ^ 62) (h3:-(2 ^ 62)≤hi) (h4:hi < 2 ^ 62)
  (q:R (Itr lo (hi - lo).toNat) H):wpAny (model X.prog X.w) X.A (pyIter (.ref s.heap.objs.size)) (PIE X pins σ tg R) E { s with heap:=s.heap.push { cls:=.type "range",data:=.fields #[.int lo t,.int hi u,.int 1 v] },toks:=tk }:=by
 refine wpAny_pyIter_range (IsRange.new ..) (small_one h1 h2 h3 h4) ?_
 have I1:Inv X pins σ H { s with heap:=s.heap.push { cls:=.type "range",data:=.fields #[.int lo t,.int hi u,.int 1 v] },toks:=tk }:=I.kept fun b o e=>Heap.get?_push_of_some _ e
 refine ⟨(s.heap.push { cls:=.type "range",data:=.fields #[.int lo t,.int hi u,.int 1 v] }).objs.size,[(s.heap.push { cls:=.type "range",data:=.fields #[.int lo t,.int hi u,.int 1 v] }).objs.size],_,_,H,rfl,
  I1.kept (t':=tk) fun b o e=>Heap.get?_push_of_some _ e,turn_range _ lo (hi - lo).toNat,?_,fun b hb=>?_,q⟩
 ·have e1:lo+((0:Nat):Int) * 1=lo:=by simp
  have e2:(((hi - lo).toNat:Nat):Int) - ((0:Nat):Int)=Builtin.Range.rangeSize lo hi 1:=by rw [rangeSize_one];split <;> omega
  show IsRangeIter _ _ (lo+((0:Nat):Int) * 1) ((((hi - lo).toNat:Nat):Int) - ((0:Nat):Int)) 1
  rw [e1,e2]
  exact Heap.get?_push_size _ rfl
 ·have e:b=(s.heap.push { cls:=.type "range",data:=.fields #[.int lo t,.int hi u,.int 1 v] }).objs.size:=by simpa using hb
  subst e
  exact I1.fpOk (Nat.le_refl _) (I1.hok.fresh (Nat.le_refl _))
def iRng1 (ta:TA):TI:=fun σ H R=>ta σ H fun vs H1=>∃ j:Int,vs=[.int j]∧-(2 ^ 62)≤j∧j < 2 ^ 62∧R (Itr 0 j.toNat) H1
theorem pi_range1 {a:Expr} {ta:TA} {p pos:Pos} (hg:Gl X "range") (hm:X.mg "range" = none) (ha:PA X [a] ta) (hs:starEach [a] X.env=[(false,eval a X.env)]:=by rfl):PI X tg (.Call (.Name "range" p) [a] [] pos) (iRng1 ta):=by
 intro pins s σ H R I h
 refine Call_ (ld_blt I hg hm boot_range (PyProof.Rows.callWith_type1 (thn (ha pos pins s σ H _ I h) fun us s1 ⟨vs,H1,I1,r1,q1⟩=>?_) hs rfl))
 obtain ⟨j,e,q1,q2,q⟩:=q1
 subst e
 cases r1 with
 | cons r rr=>
  cases rr
  obtain ⟨t,rfl⟩:=r
  exact call_range_1 (range_it I1 (by omega) (by omega) q1 q2 (by simpa using q))
def tFor (wi:TI) (g:TG) (tb:TS):TS:=fun D σ H=>wi σ H fun J H1=>∃ W:Nat→Nat→St→Hp→Prop,(∃ m,W 0 m σ H1)∧∀ i m σ H,W i m σ H→
 (J.stop i H∧D.nx σ H)∨(J.go i H∧∃ N:St→Hp→Prop,(∀ σ' H',N σ' H'→∃ m',m' < m∧W (i+1) m' σ' H')∧∀ x H',J.yld i H x H'→g x σ H' fun σ2 H2=>tb { D with nx:=N,ct:=N,bk:=D.nx } σ2 H2)
def pinsAt (fp:List Addr) (h:Heap):List (Addr×Obj):=fp.filterMap fun b=>(h.get? b).map fun o=>(b,o)
theorem mem_pinsAt {fp:List Addr} {h:Heap} {b:Addr} {o:Obj} (hb:b∈fp) (e:h.get? b=some o):(b,o)∈pinsAt fp h:=List.mem_filterMap.mpr ⟨b,hb,by rw [e];rfl⟩
theorem of_pinsAt {fp:List Addr} {h:Heap} {p:Addr×Obj} (hp:p∈pinsAt fp h):p.1∈fp∧h.get? p.1=some p.2:=by
 obtain ⟨b,hb,e⟩:=List.mem_filterMap.mp hp
 cases q:h.get? b with
 | none=>rw [q] at e;cases e
 | some o=>
  rw [q] at e
  have e':(b,o)=p:=Option.some.inj e
  subst e'
  exact ⟨hb,q⟩
theorem Inv.pinned {pins:List (Addr×Obj)} {σ:St} {H:Hp} {s:Shared} {fp:List Addr} (I:Inv X pins σ H s) (hf:∀ b∈fp,FpOk X pins H b) (ho:∀ b∈fp,∃ o,s.heap.get? b=some o∧∀ v,o.data≠.cell v):Inv X (pins++pinsAt fp s.heap) σ H s:=
 I.pins_of fun p hp=>(List.mem_append.mp hp).elim (fun z=>I.pin p (List.mem_append_right _ z)) fun z=>by
  obtain ⟨hb,e⟩:=of_pinsAt z
  obtain ⟨f0,f1,f2,_⟩:=hf p.1 hb
  obtain ⟨o,e',d⟩:=ho p.1 hb
  rw [e] at e';cases e'
  exact ⟨e,f0,f1,f2,d⟩
theorem Inv.unpinned {pins pl:List (Addr×Obj)} {σ:St} {H:Hp} {s:Shared} (I:Inv X (pins++pl) σ H s):Inv X pins σ H s:=I.pins_of fun p hp=>I.pin p (List.mem_append_right _ (List.mem_append_left _ hp))
theorem ps_for {iter:Expr} {body:List Stmt} {wi:TI} {g:TG} {tb:TS} {pos:Pos} (hp:PassesOwn (model X.prog X.w) X.A X.env X.xe) (hc:X.calm=true) (hi:PI X tg iter wi) (hg:PG X tg g) (hb:PSs X body tb)
  (hs:∀ x,foldedSetIterable iter X.env x=pure x:=by intro _;rfl):PS X (.For tg iter body [] pos) (tFor wi g tb):=by
 intro pins s σ H D I h
 refine wpAny_For (thn (hi pins s σ H _ I h) fun v s1 h1=>thn h1 fun itv s2 h2=>?_) hs
 obtain ⟨it,fp,tn,J,H2,e,I2,T,st2,f2,W,⟨m0,w0⟩,turn⟩:=h2
 subst e
 have stat:∀ {H':Hp},(∀ b∈fp,H' b=none)→∀ b∈fp,FpOk X pins H' b:=fun hn b hb=>⟨hn b hb,(f2 b hb).2⟩
 refine codeAny_forLoop_any (fun n s'=>∃ i σ' H',Inv X pins σ' H' s'∧tn i s'.heap∧(∀ b∈fp,H' b=none)∧W i n σ' H') ?_ m0 ⟨0,σ,H2,I2,st2,fun b hb=>(f2 b hb).1,w0⟩
 rintro n s3 ⟨i,σ3,H3,I3,st3,fr3,w3⟩
 rcases turn i n σ3 H3 w3 with ⟨stop,qn⟩ | ⟨go,N,hN,step⟩
 ·refine wpAny_passesOwn hp (thn (T.done X rfl rfl rfl hc i pins s3 σ3 H3 X.xe I3 (stat fr3) st3 stop) fun r s4 ⟨hr,I4⟩=>?_)
  subst hr
  exact wpAny_execs_nil ⟨σ3,H3,I4,qn⟩
 ·refine wpAny_passesOwn hp (thn (T.item X rfl rfl rfl hc i pins s3 σ3 H3 X.xe I3 (stat fr3) st3 go) fun r s4 ⟨u,hr,h4⟩=>?_)
  subst hr
  refine wpAny_passesOwn hp (thn h4 fun _ s5 ⟨x,H5,I5,r5,y5,st5,fr5⟩=>?_)
  have I5':=I5.pinned (stat fr5) (T.obj _ _ st5)
  refine wpAny_passesOwn hp (thn (hg _ s5 σ3 H5 x u _ I5' r5 (step x H5 y5)) fun _ s6 ⟨σ6,H6,I6,q6⟩=>?_)
  refine wpAny_passesOwn hp (thn (hb _ s6 σ6 H6 _ I6 q6) fun f s7 q7=>?_)
  have again:∀ {σ7:St} {H7:Hp},Inv X (pins++pinsAt fp s5.heap) σ7 H7 s7→N σ7 H7→∃ m,m < n∧∃ i σ' H',Inv X pins σ' H' s7∧tn i s7.heap∧(∀ b∈fp,H' b=none)∧W i m σ' H':=fun {σ7 H7} I7 n7=>by
   obtain ⟨m',hm,w7⟩:=hN σ7 H7 n7
   refine ⟨m',hm,i+1,σ7,H7,I7.unpinned,T.keep _ _ _ st5 fun b hb o e=>(I7.pin (b,o) (List.mem_append_right _ (List.mem_append_right _ (mem_pinsAt hb e)))).1,fun b hb=>?_,w7⟩
   obtain ⟨o,e,d⟩:=T.obj _ _ st5 b hb
   exact (I7.pin (b,o) (List.mem_append_right _ (List.mem_append_right _ (mem_pinsAt hb e)))).2.1
  cases f with
  | next=>obtain ⟨σ7,H7,I7,n7⟩:=q7;exact again I7 n7
  | cont=>obtain ⟨σ7,H7,I7,n7⟩:=q7;exact again I7 n7
  | brk=>obtain ⟨σ7,H7,I7,q7⟩:=q7;exact ⟨σ7,H7,I7.unpinned,q7⟩
  | ret v=>obtain ⟨x7,σ7,H7,I7,r7,q7⟩:=q7;exact ⟨x7,σ7,H7,I7.unpinned,r7,q7⟩
end
theorem for_list {K:PySem.W.Frag} {a:Addr} {xs:List V} {g:TG} {tb:TS} {D:Ends} {σ:St} {H:Hp} (Pv:Nat→St→Hp→Prop) (h0:Pv 0 σ H) (hl:∀ i σ H,i≤xs.length→Pv i σ H→SqL K H a xs)
  (hs:∀ i x σ H,xs[i]?=some x→Pv i σ H→g x σ H fun σ2 H2=>tb { D with nx:=Pv (i+1),ct:=Pv (i+1),bk:=D.nx } σ2 H2) (hd:∀ σ H,Pv xs.length σ H→D.nx σ H) :
  ∃ W:Nat→Nat→St→Hp→Prop,(∃ m,W 0 m σ H)∧∀ i m σ H,W i m σ H→
   ((Itl K a).stop i H∧D.nx σ H)∨((Itl K a).go i H∧∃ N:St→Hp→Prop,(∀ σ' H',N σ' H'→∃ m',m' < m∧W (i+1) m' σ' H')∧∀ x H',(Itl K a).yld i H x H'→g x σ H' fun σ2 H2=>tb { D with nx:=N,ct:=N,bk:=D.nx } σ2 H2):=by
 refine ⟨fun i m σ H=>m=xs.length - i∧i≤xs.length∧Pv i σ H,⟨xs.length,by simp,Nat.zero_le _,h0⟩,?_⟩
 rintro i m σ H ⟨rfl,hi,p⟩
 have q:=hl i σ H hi p
 by_cases hlt:i < xs.length
 ·refine .inr ⟨⟨xs,xs[i],q,by simp [hlt]⟩,Pv (i+1),fun σ' H' p'=>⟨xs.length - (i+1),by omega,rfl,hlt,p'⟩,fun x H' y=>?_⟩
  obtain ⟨e,y⟩:=y
  subst e
  exact hs i x σ _ (y xs q) p
 ·have e:i=xs.length:=by omega
  subst e
  exact .inl ⟨⟨xs,q,Nat.le_refl _⟩,hd σ H p⟩
theorem for_tup {K:PySem.W.Frag} {a:Addr} {xs:List V} {g:TG} {tb:TS} {D:Ends} {σ:St} {H:Hp} (Pv:Nat→St→Hp→Prop) (h0:Pv 0 σ H) (hl:∀ i σ H,i≤xs.length→Pv i σ H→SqT K H a xs)
  (hs:∀ i x σ H,xs[i]?=some x→Pv i σ H→g x σ H fun σ2 H2=>tb { D with nx:=Pv (i+1),ct:=Pv (i+1),bk:=D.nx } σ2 H2) (hd:∀ σ H,Pv xs.length σ H→D.nx σ H) :
  ∃ W:Nat→Nat→St→Hp→Prop,(∃ m,W 0 m σ H)∧∀ i m σ H,W i m σ H→
   ((Itt K a).stop i H∧D.nx σ H)∨((Itt K a).go i H∧∃ N:St→Hp→Prop,(∀ σ' H',N σ' H'→∃ m',m' < m∧W (i+1) m' σ' H')∧∀ x H',(Itt K a).yld i H x H'→g x σ H' fun σ2 H2=>tb { D with nx:=N,ct:=N,bk:=D.nx } σ2 H2):=by
 refine ⟨fun i m σ H=>m=xs.length - i∧i≤xs.length∧Pv i σ H,⟨xs.length,by simp,Nat.zero_le _,h0⟩,?_⟩
 rintro i m σ H ⟨rfl,hi,p⟩
 have q:=hl i σ H hi p
 by_cases hlt:i < xs.length
 ·refine .inr ⟨⟨xs,xs[i],q,by simp [hlt]⟩,Pv (i+1),fun σ' H' p'=>⟨xs.length - (i+1),by omega,rfl,hlt,p'⟩,fun x H' y=>?_⟩
  obtain ⟨e,y⟩:=y
  subst e
  exact hs i x σ _ (y xs q) p
 ·have e:i=xs.length:=by omega
  subst e
  exact .inl ⟨⟨xs,q,Nat.le_refl _⟩,hd σ H p⟩
theorem for_range {lo:Int} {n:Nat} {g:TG} {tb:TS} {D:Ends} {σ:St} {H:Hp} (Pv:Nat→St→Hp→Prop) (h0:Pv 0 σ H)
  (hs:∀ i σ H,i < n→Pv i σ H→g (.int (lo+i)) σ H fun σ2 H2=>tb { D with nx:=Pv (i+1),ct:=Pv (i+1),bk:=D.nx } σ2 H2) (hd:∀ σ H,Pv n σ H→D.nx σ H) :
  ∃ W:Nat→Nat→St→Hp→Prop,(∃ m,W 0 m σ H)∧∀ i m σ H,W i m σ H→
   ((Itr lo n).stop i H∧D.nx σ H)∨((Itr lo n).go i H∧∃ N:St→Hp→Prop,(∀ σ' H',N σ' H'→∃ m',m' < m∧W (i+1) m' σ' H')∧∀ x H',(Itr lo n).yld i H x H'→g x σ H' fun σ2 H2=>tb { D with nx:=N,ct:=N,bk:=D.nx } σ2 H2):=by
 refine ⟨fun i m σ H=>m=n - i∧i≤n∧Pv i σ H,⟨n,by simp,Nat.zero_le _,h0⟩,?_⟩
 rintro i m σ H ⟨rfl,hi,p⟩
 by_cases hlt:i < n
 ·refine .inr ⟨hlt,Pv (i+1),fun σ' H' p'=>⟨n - (i+1),by omega,rfl,hlt,p'⟩,fun x H' y=>?_⟩
  obtain ⟨e,y⟩:=y
  subst e y
  exact hs i σ _ hlt p
 ·have e:i=n:=by omega
  subst e
  exact .inl ⟨Nat.le_refl _,hd σ H p⟩
theorem while_by {c:TT} {tb:TS} {D:Ends} {σ:St} {H:Hp} (Pv:St→Hp→Prop) (μ:St→Hp→Nat) (h0:Pv σ H)
  (hs:∀ σ H,Pv σ H→c σ H fun b H1=>if b=true then tb { D with nx:=fun σ' H'=>Pv σ' H'∧μ σ' H' < μ σ H,ct:=fun σ' H'=>Pv σ' H'∧μ σ' H' < μ σ H,bk:=D.nx } σ H1 else D.nx σ H1)
  (mono:∀ σ H Q Q',(∀ b H1,Q b H1→Q' b H1)→c σ H Q→c σ H Q'):tWhile c tb D σ H:=by
 refine ⟨fun m σ H=>m=μ σ H∧Pv σ H,⟨_,rfl,h0⟩,?_⟩
 rintro m σ H ⟨rfl,p⟩
 refine mono σ H _ _ (fun b H1 q=>?_) (hs σ H p)
 cases b with
 | true=>exact ⟨_,fun σ' H' ⟨p',l⟩=>⟨_,l,rfl,p'⟩,q⟩
 | false=>exact q
open PySem PySem.Spec PyProof.Rows
abbrev R2:=V→V→Hp→VK→Prop
def OpR (X:Cx) (f:Value→Value→Sem Value) (r:R2):Prop:=
 ∀ (pins:List (Addr×Obj)) (s:Shared) (σ:St) (H:Hp) (x y:V) (v u:Value) (Q:VK),Inv X pins σ H s→RelV x v→RelV y u→r x y H Q→
  wpAny (model X.prog X.w) X.A (f v u) (EP X pins σ Q) X.xe s
def CallR (X:Cx) (f:Value) (r:List V→Hp→VK→Prop):Prop:=
 ∀ (pins:List (Addr×Obj)) (s:Shared) (σ:St) (H:Hp) (xs:List V) (us:List Value) (Q:VK),Inv X pins σ H s→Vals xs us→r xs H Q→
  wpAny (model X.prog X.w) X.A (call f us) (EP X pins σ Q) X.xe s
def tOp (r:R2) (ta tb:TE):TE:=fun σ H Q=>ta σ H fun x H1=>tb σ H1 fun y H2=>r x y H2 Q
def rI (C:Int→Int→Prop) (g:Int→Int→V):R2:=fun x y H Q=>∃ i j,x=.int i∧y=.int j∧C i j∧Q (g i j) H
def rI0 (g:Int→Int→V):R2:=fun x y H Q=>∃ i j,x=.int i∧y=.int j∧Q (g i j) H
section
variable {X:Cx} {a b c:Expr} {ta tb tc:TE} {pos:Pos}
theorem binT (ha:PE X a ta) (hb:PE X b tb) {pins:List (Addr×Obj)} {s:Shared} {σ:St} {H:Hp} {R:V→V→Hp→Prop} (I:Inv X pins σ H s)
  (h:ta σ H fun x H1=>tb σ H1 fun y H2=>R x y H2) {Q:Value→Shared→Prop} {f:Value→Value→Sem Value}
  (hf:∀ v u s2 x y H2,Inv X pins σ H2 s2→RelV x v→RelV y u→R x y H2→wpAny (model X.prog X.w) X.A (f v u) Q X.xe s2) :
  wpAny (model X.prog X.w) X.A (eval a X.env) (fun v s₁=>wpAny (model X.prog X.w) X.A (eval b X.env) (fun u s₂=>wpAny (model X.prog X.w) X.A (f v u) Q X.xe s₂) X.xe s₁) X.xe s:=by
 refine thn (ha pins s σ H _ I h) fun v s1 ⟨x,H1,I1,r1,q1⟩=>?_
 refine thn (hb pins s1 σ H1 _ I1 q1) fun u s2 ⟨y,H2,I2,r2,q2⟩=>?_
 exact hf v u s2 x y H2 I2 r1 r2 q2
theorem pe_op {op:Operator} {r:R2} (ho:OpR X (binaryOp op) r) (ha:PE X a ta) (hb:PE X b tb):PE X (.BinOp a op b pos) (tOp r ta tb):=by
 intro pins s σ H Q I h
 exact wpAny_BinOp (binT ha hb I h fun v u s2 x y H2 I2 rx ry q=>ho pins s2 σ H2 x y v u Q I2 rx ry q)
theorem opI {f:Value→Value→Sem Value} {C:Int→Int→Prop} {g:Int→Int→Int}
  (rule:∀ (i j:Int) (t u:Tok) (s:Shared) (Q:Value→Shared→Prop) (E:Value→Shared→Prop),C i j→Q (.int (g i j) s.toks) { s with toks:=s.toks+1 }→wpAny (model X.prog X.w) X.A (f (.int i t) (.int j u)) Q E s) :
  OpR X f (rI C fun i j=>.int (g i j)):=by
 intro pins s σ H x y v u Q I rx ry h
 obtain ⟨i,j,rfl,rfl,hc,q⟩:=h
 obtain ⟨t,rfl⟩:=rx
 obtain ⟨t',rfl⟩:=ry
 exact rule i j t t' s _ _ hc ⟨.int (g i j),H,I.tok _,⟨_,rfl⟩,q⟩
theorem opI0 {f:Value→Value→Sem Value} {g:Int→Int→Int}
  (rule:∀ (i j:Int) (t u:Tok) (s:Shared) (Q:Value→Shared→Prop) (E:Value→Shared→Prop),Q (.int (g i j) s.toks) { s with toks:=s.toks+1 }→wpAny (model X.prog X.w) X.A (f (.int i t) (.int j u)) Q E s) :
  OpR X f (rI0 fun i j=>.int (g i j)):=by
 intro pins s σ H x y v u Q I rx ry h
 obtain ⟨i,j,rfl,rfl,q⟩:=h
 obtain ⟨t,rfl⟩:=rx
 obtain ⟨t',rfl⟩:=ry
 exact rule i j t t' s _ _ ⟨.int (g i j),H,I.tok _,⟨_,rfl⟩,q⟩
theorem opB0 {f:Value→Value→Sem Value} {g:Int→Int→Bool}
  (rule:∀ (i j:Int) (t u:Tok) (s:Shared) (Q:Value→Shared→Prop) (E:Value→Shared→Prop),Q (.bool (g i j)) s→wpAny (model X.prog X.w) X.A (f (.int i t) (.int j u)) Q E s) :
  OpR X f (rI0 fun i j=>.bl (g i j)):=by
 intro pins s σ H x y v u Q I rx ry h
 obtain ⟨i,j,rfl,rfl,q⟩:=h
 obtain ⟨t,rfl⟩:=rx
 obtain ⟨t',rfl⟩:=ry
 exact rule i j t t' s _ _ ⟨.bl (g i j),H,I,rfl,q⟩
def CPow (i j:Int):Prop:=0≤j∧j≤1000000∧i.natAbs < 2 ^ 64
def CMul (i j:Int):Prop:=(-(2 ^ 64) < i∧i < 2 ^ 64)∨(-(2 ^ 64) < j∧j < 2 ^ 64)
theorem CMul.ok {i j:Int} (h:CMul i j):IntMulOk i j:=by
 rcases h with ⟨h1,h2⟩ | ⟨h1,h2⟩
 ·exact .of_left (intBits_le_64 h1 h2)
 ·exact .of_right (intBits_le_64 h1 h2)
theorem op_add:OpR X (binaryOp .Add) (rI0 fun i j=>.int (i+j)):=opI0 fun _ _ _ _ _ _ _ q=>add_int q
theorem op_sub:OpR X (binaryOp .Sub) (rI0 fun i j=>.int (i - j)):=opI0 fun _ _ _ _ _ _ _ q=>sub_int q
theorem op_mul:OpR X (binaryOp .Mult) (rI CMul fun i j=>.int (i * j)):=opI fun _ _ _ _ _ _ _ hc q=>mul_int q hc.ok
theorem op_mod:OpR X (binaryOp .Mod) (rI (fun _ j=>0 < j) fun i j=>.int (i % j)):=opI fun i j _ _ _ _ _ hc q=>by
 have h1:(0:Int) < j:=hc
 exact mod_int' (by omega) (by rw [Int.fmod_eq_emod_of_nonneg i (by omega)];exact q)
theorem op_pow:OpR X (binaryOp .Pow) (rI CPow fun i j=>.int (i ^ j.toNat)):=opI fun _ _ _ _ _ _ _ hc q=>pow_int_small hc.1 hc.2.1 hc.2.2 q
end
def scal:V→V→Bool
 | .non,.non=>true | .non,.int _=>true | .int _,.non=>true | .non,.bl _=>true | .bl _,.non=>true | .non,.str _=>true | .str _,.non=>true
 | .int _,.int _=>true | .bl _,.bl _=>true | .str _,.str _=>true | .byt _,.byt _=>true
 | .int _,.str _=>true | .str _,.int _=>true | .bl _,.str _=>true | .str _,.bl _=>true
 | _,_=>false
def rEq:R2:=fun x y H Q=>scal x y=true∧Q (.bl (decide (x=y))) H
def rNe:R2:=fun x y H Q=>scal x y=true∧Q (.bl (!decide (x=y))) H
theorem dec_int {i j:Int}:decide (V.int i=V.int j)=(i == j):=by
 rw [Bool.eq_iff_iff]
 simp
theorem dec_bl {i j:Bool}:decide (V.bl i=V.bl j)=(i == j):=by
 rw [Bool.eq_iff_iff]
 simp
theorem dec_str {i j:Str}:decide (V.str i=V.str j)=(i == j):=by
 rw [Bool.eq_iff_iff]
 simp
theorem dec_byt {i j:Array UInt8}:decide (V.byt i=V.byt j)=(i.toList == j.toList):=by
 rw [Bool.eq_iff_iff]
 cases i
 cases j
 simp
section
variable {X:Cx} {a b c:Expr} {ta tb tc:TE} {pos:Pos}
theorem fin_bl {pins:List (Addr×Obj)} {σ:St} {H:Hp} {s:Shared} {Q:VK} {k k':Bool} (I:Inv X pins σ H s) (q:Q (.bl k) H) (e:k=k'):EP X pins σ Q (.bool k') s:=by
 subst e
 exact ⟨.bl k,H,I,rfl,q⟩
theorem op_eq:OpR X (compareOp .Eq) rEq:=by
 intro pins s σ H x y v u Q I rx ry h
 obtain ⟨hs,q⟩:=h
 cases x with
 | non=>
  cases rx
  cases y with
  | non=>cases ry;exact PySem.EqNone.eq_none_none (fin_bl I q (by simp))
  | bl j=>cases ry;exact PySem.EqNone.eq_none_bool (fin_bl I q (by simp))
  | int j=>obtain ⟨t',rfl⟩:=ry;exact PySem.EqNone.eq_none_int (fin_bl I q (by simp))
  | str j=>obtain ⟨t',rfl⟩:=ry;exact PySem.EqNone.eq_none_str (fin_bl I q (by simp))
  | _=>exact absurd (show false=true from hs) Bool.false_ne_true
 | bl i=>
  cases rx
  cases y with
  | non=>cases ry;exact PySem.EqNone.eq_bool_none (fin_bl I q (by simp))
  | bl j=>cases ry;exact eq_bool (fin_bl I q dec_bl)
  | str j=>obtain ⟨t',rfl⟩:=ry;exact PySem.EqMixed.eq_bool_str (fin_bl I q (by simp))
  | _=>exact absurd (show false=true from hs) Bool.false_ne_true
 | int i=>
  obtain ⟨t,rfl⟩:=rx
  cases y with
  | non=>cases ry;exact PySem.EqNone.eq_int_none (fin_bl I q (by simp))
  | int j=>obtain ⟨t',rfl⟩:=ry;exact eq_int (fin_bl I q dec_int)
  | str j=>obtain ⟨t',rfl⟩:=ry;exact PySem.EqMixed.eq_int_str (fin_bl I q (by simp))
  | _=>exact absurd (show false=true from hs) Bool.false_ne_true
 | str i=>
  obtain ⟨t,rfl⟩:=rx
  cases y with
  | non=>cases ry;exact PySem.EqNone.eq_str_none (fin_bl I q (by simp))
  | bl j=>cases ry;exact PySem.EqMixed.eq_str_bool (fin_bl I q (by simp))
  | int j=>obtain ⟨t',rfl⟩:=ry;exact PySem.EqMixed.eq_str_int (fin_bl I q (by simp))
  | str j=>obtain ⟨t',rfl⟩:=ry;exact eq_str (fin_bl I q dec_str)
  | _=>exact absurd (show false=true from hs) Bool.false_ne_true
 | byt i=>
  obtain ⟨t,rfl⟩:=rx
  cases y with
  | byt j=>obtain ⟨t',rfl⟩:=ry;exact PySem.W.eq_bytes (fin_bl I q dec_byt)
  | _=>exact absurd (show false=true from hs) Bool.false_ne_true
 | _=>cases y <;> exact absurd (show false=true from hs) Bool.false_ne_true
theorem op_ne:OpR X (compareOp .NotEq) rNe:=by
 intro pins s σ H x y v u Q I rx ry h
 obtain ⟨hs,q⟩:=h
 cases x with
 | non=>
  cases rx
  cases y with
  | non=>cases ry;exact PySem.EqNone.ne_none_none (fin_bl I q (by simp))
  | bl j=>cases ry;exact PySem.EqNone.ne_none_bool (fin_bl I q (by simp))
  | int j=>obtain ⟨t',rfl⟩:=ry;exact PySem.EqNone.ne_none_int (fin_bl I q (by simp))
  | str j=>obtain ⟨t',rfl⟩:=ry;exact PySem.EqNone.ne_none_str (fin_bl I q (by simp))
  | _=>exact absurd (show false=true from hs) Bool.false_ne_true
 | bl i=>
  cases rx
  cases y with
  | non=>cases ry;exact PySem.EqNone.ne_bool_none (fin_bl I q (by simp))
  | bl j=>cases ry;exact ne_bool (fin_bl I q (congrArg not dec_bl))
  | str j=>obtain ⟨t',rfl⟩:=ry;exact PySem.EqMixed.ne_bool_str (fin_bl I q (by simp))
  | _=>exact absurd (show false=true from hs) Bool.false_ne_true
 | int i=>
  obtain ⟨t,rfl⟩:=rx
  cases y with
  | non=>cases ry;exact PySem.EqNone.ne_int_none (fin_bl I q (by simp))
  | int j=>obtain ⟨t',rfl⟩:=ry;exact ne_int (fin_bl I q (congrArg not dec_int))
  | str j=>obtain ⟨t',rfl⟩:=ry;exact PySem.EqMixed.ne_int_str (fin_bl I q (by simp))
  | _=>exact absurd (show false=true from hs) Bool.false_ne_true
 | str i=>
  obtain ⟨t,rfl⟩:=rx
  cases y with
  | non=>cases ry;exact PySem.EqNone.ne_str_none (fin_bl I q (by simp))
  | bl j=>cases ry;exact PySem.EqMixed.ne_str_bool (fin_bl I q (by simp))
  | int j=>obtain ⟨t',rfl⟩:=ry;exact PySem.EqMixed.ne_str_int (fin_bl I q (by simp))
  | str j=>obtain ⟨t',rfl⟩:=ry;exact ne_str (fin_bl I q (congrArg not dec_str))
  | _=>exact absurd (show false=true from hs) Bool.false_ne_true
 | byt i=>
  obtain ⟨t,rfl⟩:=rx
  cases y with
  | byt j=>obtain ⟨t',rfl⟩:=ry;exact PySem.W.ne_bytes (fin_bl I q (congrArg not dec_byt))
  | _=>exact absurd (show false=true from hs) Bool.false_ne_true
 | _=>cases y <;> exact absurd (show false=true from hs) Bool.false_ne_true
theorem op_lt:OpR X (compareOp .Lt) (rI0 fun i j=>.bl (decide (i < j))):=opB0 fun _ _ _ _ _ _ _ q=>lt_int q
theorem op_le:OpR X (compareOp .LtE) (rI0 fun i j=>.bl (decide (i≤j))):=opB0 fun _ _ _ _ _ _ _ q=>le_int q
theorem op_gt:OpR X (compareOp .Gt) (rI0 fun i j=>.bl (decide (j < i))):=opB0 fun _ _ _ _ _ _ _ q=>gt_int q
theorem op_ge:OpR X (compareOp .GtE) (rI0 fun i j=>.bl (decide (j≤i))):=opB0 fun _ _ _ _ _ _ _ q=>ge_int q
theorem op_isN:OpR X (compareOp .Is) (fun x y H Q=>y=.non∧Q (.bl (decide (x=.non))) H):=by
 intro pins s σ H x y v u Q I rx ry h
 obtain ⟨rfl,q⟩:=h
 cases ry
 refine is_none_gen (fin_bl I q ?_)
 cases x <;> first
  | (cases rx;rfl)
  | (obtain ⟨t,rfl⟩:=rx;rfl)
theorem nomark (b:Expr) {op:CmpOp} (h:op≠.In:=by decide) (h2:op≠.NotIn:=by decide):behindInMarks op b=false:=by
 have e1:(op == CmpOp.In)=false:=by cases op <;> first | rfl | exact absurd rfl h
 have e2:(op == CmpOp.NotIn)=false:=by cases op <;> first | rfl | exact absurd rfl h2
 cases b <;> simp [behindInMarks,e1,e2]
theorem pe_cmpR {op:CmpOp} {r:R2} (ho:OpR X (compareOp op) r) (ha:PE X a ta) (hb:PE X b tb) (hm:behindInMarks op b=false):PE X (.Compare a [op] [b] pos) (tOp r ta tb):=by
 intro pins s σ H Q I h
 exact wpAny_Compare1 (binT ha hb I h fun v u s2 x y H2 I2 rx ry q=>ho pins s2 σ H2 x y v u Q I2 rx ry q) hm
def tTest (t:TE):TT:=fun σ H Q=>t σ H fun x H'=>∃ k,x=.bl k∧Q k H'
theorem pt_cmpR {op:CmpOp} {r:R2} (ho:OpR X (compareOp op) r) (ha:PE X a ta) (hb:PE X b tb) (hm:behindInMarks op b=false):PT X (.Compare a [op] [b] pos) (tTest (tOp r ta tb)):=by
 intro pins s σ H Q I h
 refine wpAny_isTrue_Compare1 (thn (ha pins s σ H _ I h) fun v s1 ⟨x,H1,I1,r1,q1⟩=>thn (hb pins s1 σ H1 _ I1 q1) fun u s2 ⟨y,H2,I2,r2,q2⟩=>
  thn (ho pins s2 σ H2 x y v u _ I2 r1 r2 q2) fun c s3 ⟨z,H3,I3,r3,k,e,q3⟩=>?_) hm
 subst e
 cases r3
 exact wpAny_truthy_bool ⟨H3,I3,q3⟩
def tChain (r r':R2) (ta tb tc:TE):TE:=fun σ H Q=>ta σ H fun x H1=>tb σ H1 fun y H2=>r x y H2 fun z H3=>∃ k,z=.bl k∧
 (if k=true then tc σ H3 fun w' H4=>r' y w' H4 Q else Q (.bl false) H3)
theorem pt_chain {op op':CmpOp} {r r':R2} (ho:OpR X (compareOp op) r) (ho':OpR X (compareOp op') r') (ha:PE X a ta) (hb:PE X b tb) (hc:PE X c tc)
  (hm:lastMarks [op,op'] [b,c]=false:=by with_unfolding_all rfl):PT X (.Compare a [op,op'] [b,c] pos) (tTest (tChain r r' ta tb tc)):=by
 intro pins s σ H Q I h
 refine isTrue_chain (thn (ha pins s σ H _ I h) fun v s1 ⟨x,H1,I1,r1,q1⟩=>test_link (thn (hb pins s1 σ H1 _ I1 q1) fun u s2 ⟨y,H2,I2,r2,q2⟩=>
  thn (ho pins s2 σ H2 x y v u _ I2 r1 r2 q2) fun d s3 ⟨z,H3,I3,r3,k,e,q3⟩=>?_)) hm
 subst e
 cases r3
 refine wpAny_truthy_bool ?_
 cases k with
 | false=>
  obtain ⟨k',e',q'⟩:=q3
  cases e'
  exact ite_ff ⟨H3,I3,q'⟩
 | true=>
  refine ite_tt (test_last (thn (hc pins s3 σ H3 _ I3 q3) fun w' s4 ⟨z',H4,I4,r4,q4⟩=>thn (ho' pins s4 σ H4 y z' u w' _ I4 r2 r4 q4) fun d' s5 ⟨z2,H5,I5,r5,k2,e2,q5⟩=>?_))
  subst e2
  cases r5
  exact wpAny_truthy_bool ⟨H5,I5,q5⟩
theorem line63:(sizeLine:Nat) < 2 ^ 63:=by rw [sizeLine_eq];decide
theorem op_add_str:OpR X (binaryOp .Add) (fun x y H Q=>∃ i j,x=.str i∧y=.str j∧i.length+j.length≤sizeLine∧Q (.str (i++j)) H):=by
 intro pins s σ H x y v u Q I rx ry h
 obtain ⟨i,j,rfl,rfl,hz,q⟩:=h
 obtain ⟨t,rfl⟩:=rx
 obtain ⟨t',rfl⟩:=ry
 exact add_str (fun t' tk=>⟨.str (i++j),H,I.tok _,⟨_,rfl⟩,q⟩) hz
theorem vals1 {x:V} {us:List Value} (r:Vals [x] us):∃ u,us=[u]∧RelV x u:=by
 cases r with
 | cons r1 r2=>cases r2;exact ⟨_,rfl,r1⟩
theorem vals2 {x y:V} {us:List Value} (r:Vals [x,y] us):∃ u w',us=[u,w']∧RelV x u∧RelV y w':=by
 cases r with
 | cons r1 r2=>
  cases r2 with
  | cons r3 r4=>cases r4;exact ⟨_,_,rfl,r1,r3⟩
theorem call_int1:CallR X (.type "int") (fun xs H Q=>(∃ i,xs=[.int i]∧Q (.int i) H)∨∃ k,xs=[.bl k]∧Q (.int (if k then 1 else 0)) H):=by
 intro pins s σ H xs us Q I r h
 rcases h with ⟨i,rfl,q⟩ | ⟨k,rfl,q⟩
 ·obtain ⟨u,rfl,t,rfl⟩:=vals1 r
  exact call_int_int ⟨.int i,H,I,⟨_,rfl⟩,q⟩
 ·obtain ⟨u,rfl,r1⟩:=vals1 r
  cases r1
  exact call_int_bool ⟨.int (if k then 1 else 0),H,I.tok _,⟨_,rfl⟩,q⟩
end
open PySem PySem.Spec PyProof.Rows
structure ObjM (h:Heap) (x dx C:Addr) (mA:Str→Option Value):Prop where
 obj:h.get? x=some (PySem.W.instObj C dx)
 ns:h.Ns1 dx mA
 ne:dx≠x
theorem lookIn_ns {h:Heap} {dx:Addr} {mA:Str→Option Value} (n:h.Ns1 dx mA):∃ od,h.get? dx=some od∧∀ name,PySem.W.lookIn name od=some (mA name):=by
 obtain ⟨o,es,ep,ho,hd,hk,_,hm⟩:=n
 refine ⟨o,ho,fun name=>?_⟩
 have e:=hm name
 unfold nsFind findBy at e
 rw [← Array.find?_toList] at e
 unfold PySem.W.lookIn
 rw [hd]
 dsimp only
 split
 ·rename_i y q
  rw [q] at e
  exact congrArg some e
 ·rename_i q
  rw [q] at e
  have a:es.toList.any (·.refKey)=false:=by
   rw [List.any_eq_false]
   intro y hy
   obtain ⟨z,t,hkey⟩:=hk y (Array.mem_toList_iff.mp hy)
   simp [DictEntry.refKey,hkey]
  have a':¬ es.toList.any (·.refKey)=true:=by rw [a];exact Bool.false_ne_true
  rw [if_neg a']
  exact congrArg some e
theorem ObjM.look {h:Heap} {x dx C:Addr} {mA:Str→Option Value} (I:ObjM h x dx C mA):∃ od,PySem.W.InstAt h x (PySem.W.instObj C dx) C (some od)∧∀ name,PySem.W.lookIn name od=some (mA name):=
 let ⟨od,ho,hl⟩:=lookIn_ns I.ns
 ⟨od,⟨I.obj,rfl,rfl,ho⟩,hl⟩
section
variable {prog:Program} {w:World} {A:Around} {E:Value→Shared→Prop} {s:Shared} {K:PySem.W.Frag} {x dx C f:Addr} {mA:Str→Option Value} {name:Str} {v:Value}
end
theorem RelO.some_of {v:V} {o:Option Value} (r:RelO (some v) o):∃ u,o=some u∧RelV v u:=by
 cases o with
 | none=>exact (show False from r).elim
 | some u=>exact ⟨u,rfl,r⟩
section
variable {P:Program} {w:World} {H H':Hp} {h h':Heap} {a C dx:Addr} {fs fs':List (Str×V)}
theorem ins_get (hok:HOk P w H h) (e:H a=some (.ins C dx fs)):∃ mA,ObjM h a dx C mA∧(∀ f,RelO (fs.lookup f) (mA f))∧PySem.Within mA (fs.map (·.1))∧fs.length≤1000∧H dx=some (.own a):=by
 obtain ⟨d,z,ne,ob,mA,n,r,q⟩:=(show ObjOk P w H h a (.ins C dx fs) from hok a _ e)
 exact ⟨mA,⟨ob,n,ne⟩,r,q,z,d⟩
end
structure Cls (K:PySem.W.Frag) (C:Addr):Prop where
 pg:PySem.W.plainGet K C Str.empty=true
 hd:PySem.W.hasDictIn K C=true
 po:PySem.W.plainOver K C=true
 sa:PySem.W.findIn K (.ref C) "__setattr__" = some (some (.builtin "object.__setattr__"))
theorem Cls.get {K:PySem.W.Frag} {C:Addr} (c:Cls K C) (f:Str):PySem.W.plainGet K C f=true:=c.pg
section
variable {X:Cx} {pins:List (Addr×Obj)} {σ:St} {H:Hp} {s:Shared} {a C dx:Addr} {fs:List (Str×V)} {f:Str} {v:V} {A:Around} {E:Value→Shared→Prop}
theorem Inv.made (I:Inv X pins σ H s):Inv X pins σ (upd (upd H s.heap.objs.size (.own (s.heap.objs.size+1))) (s.heap.objs.size+1) (.ins C s.heap.objs.size []))
  { s with heap:=(s.heap.push PySem.W.emptyDict).push (PySem.W.instObj C s.heap.objs.size) }:=by
 have e1:(s.heap.push PySem.W.emptyDict).get? s.heap.objs.size=some PySem.W.emptyDict:=Heap.get?_push_size s.heap rfl
 have e2:((s.heap.push PySem.W.emptyDict).push (PySem.W.instObj C s.heap.objs.size)).get? (s.heap.objs.size+1)=some (PySem.W.instObj C s.heap.objs.size):=by
  have:=Heap.get?_push_size (s.heap.push PySem.W.emptyDict) (o:=PySem.W.instObj C s.heap.objs.size) rfl
  rwa [Heap.size_push] at this
 have e3:(s.heap.push PySem.W.emptyDict).Ns s.heap.objs.size (fun _=>none):=⟨PySem.W.emptyDict,#[],_,e1,rfl,(fun e he=>absurd he (by simp)),fun _=>rfl⟩
 have I1:=I.laid (a:=s.heap.objs.size) (o:=.own (s.heap.objs.size+1)) (h':=s.heap.push PySem.W.emptyDict) (t':=s.toks) (fun b u q=>Heap.get?_push_of_some _ q) (Nat.le_refl _) ⟨_,e1⟩
 refine I1.laid (a:=s.heap.objs.size+1) (o:=.ins C s.heap.objs.size []) (t':=s.toks) (fun b u q=>Heap.get?_push_of_some _ q) (Nat.le_of_eq (Heap.size_push _ _)) ?_
 have ne:s.heap.objs.size≠s.heap.objs.size+1:=Nat.ne_of_lt (Nat.lt_succ_self _)
 refine ⟨by rw [upd_ne ne,upd_same],Nat.zero_le _,ne,e2,fun _=>none,(Heap.Ns1.of_empty e3).at fun o q=>Heap.get?_push_of_some _ q,fun _=>True.intro,fun y hy=>absurd rfl hy⟩
end
section
variable {X:Cx} {o e value:Expr} {f:Str} {pos pos' tpos:Pos} {ta tv:TE}
end
section
variable {X:Cx} {pins:List (Addr×Obj)} {σ:St} {H:Hp} {s:Shared} {A:Around} {E:Value→Shared→Prop} {Q:Value→Shared→Prop} {c:Value} {b:Bool}
inductive TyOf (K:PySem.W.Frag) (H:Hp):V→Value→Prop where
 | non:TyOf K H .non (.type "NoneType")
 | bl (x:Bool):TyOf K H (.bl x) (.type "bool")
 | int (i:Int):TyOf K H (.int i) (.type "int")
 | str (x:Str):TyOf K H (.str x) (.type "str")
 | flt (x:UInt64):TyOf K H (.flt x) (.type "float")
 | lst {a:Addr} {xs:List V} (e:H a=some (.lst xs)):TyOf K H (.ref a) (.type "list")
 | frz {a:Addr} {o:Obj} {xs:List V} (e:H a=some (.frz o (.lst xs))):TyOf K H (.ref a) (.type "list")
 | tup {a:Addr} {xs:List V} (e:H a=some (.tup xs)):TyOf K H (.ref a) (.type "tuple")
 | dK {a:Addr} {kvs:List (Key×V)} (e:H a=some (.dK kvs)):TyOf K H (.ref a) (.type "dict")
 | dT {a:Addr} {kvs:List (List Key×V)} (e:H a=some (.dT kvs)):TyOf K H (.ref a) (.type "dict")
 | ins {a C dx:Addr} {fs:List (Str×V)} (e:H a=some (.ins C dx fs)) (cl:Cls K C) (ha:PySem.W.findIn K (.ref C) "__class__" = some (some (.builtin "object.__class__")))
   (hn:PySem.W.specialIn K (.builtin "object.__class__") "__get__" = some (some (.builtin "getset_descriptor.__get__"))) (htk:PySem.W.takesIn K (.builtin "object.__class__")=some true)
   (hm:PySem.W.mroIn K C (.type "object")=some true):TyOf K H (.ref a) (.ref C)
theorem isinst_ok {x:V} {u t:Value} (I:Inv X pins σ H s) (rx:RelV x u) (ty:TyOf X.K H x t) (e:PySem.W.kitOne X.K t c=some b) (h:∀ tk,Q (.bool b) { s with toks:=tk }) :
  wpAny (model X.prog X.w) A (call (.builtin "isinstance") [u,c]) Q E s:=by
 cases ty with
 | non=>cases (show u=Value.none from rx);exact PySem.W.kia_one PySem.W.kitx_none I.kIn True.intro e (fun z=>nomatch z) h
 | bl y=>cases (show u=Value.bool y from rx);exact PySem.W.kia_one PySem.W.kitx_bool I.kIn True.intro e (fun z=>nomatch z) h
 | int i=>obtain ⟨t,q⟩:=(show ∃ t,u=Value.int i t from rx);cases q;exact PySem.W.kia_one PySem.W.kitx_int I.kIn True.intro e (fun z=>nomatch z) h
 | str y=>obtain ⟨t,q⟩:=(show ∃ t,u=Value.str y t from rx);cases q;exact PySem.W.kia_one PySem.W.kitx_str I.kIn True.intro e (fun z=>nomatch z) h
 | flt y=>obtain ⟨t,q⟩:=(show ∃ t,u=Value.float y t from rx);cases q;exact PySem.W.kia_one PySem.W.kitx_float I.kIn True.intro e (fun z=>nomatch z) h
 | @lst a xs ea=>
  cases (show u=Value.ref a from rx)
  obtain ⟨_,_,n,_,h1⟩:=(show ObjOk X.prog X.w H s.heap a (.lst xs) from I.hok a _ ea)
  exact PySem.W.kia_one PySem.W.kitx_list I.kIn ⟨_,h1,rfl⟩ e (fun z=>nomatch z) h
 | @frz a ob xs ea=>
  cases (show u=Value.ref a from rx)
  obtain ⟨_,_,_,n,_,h1⟩:=(show ObjOk X.prog X.w H s.heap a (.frz ob (.lst xs)) from I.hok a _ ea)
  exact PySem.W.kia_one PySem.W.kitx_list I.kIn ⟨_,h1,rfl⟩ e (fun z=>nomatch z) h
 | @tup a xs ea=>
  cases (show u=Value.ref a from rx)
  obtain ⟨_,_,_,p⟩:=(show ObjOk X.prog X.w H s.heap a (.tup xs) from I.hok a _ ea)
  obtain ⟨o,h1,h2,_⟩:=p
  exact PySem.W.kia_one PySem.W.kitx_tuple I.kIn ⟨o,h1,h2⟩ e (fun z=>nomatch z) h
 | @dK a kvs ea=>
  cases (show u=Value.ref a from rx)
  obtain ⟨_,_,vs,_,p⟩:=(show ObjOk X.prog X.w H s.heap a (.dK kvs) from I.hok a _ ea)
  obtain ⟨o,es,ep,h1,h2,_⟩:=p
  exact PySem.W.kia_one PySem.W.kitx_dict I.kIn ⟨o,h1,h2.1⟩ e (fun z=>nomatch z) h
 | @dT a kvs ea=>
  cases (show u=Value.ref a from rx)
  obtain ⟨_,_,xs,_,o,es,ep,h1,h2,_⟩:=(show ObjOk X.prog X.w H s.heap a (.dT kvs) from I.hok a _ ea)
  exact PySem.W.kia_one PySem.W.kitx_dict I.kIn ⟨o,h1,h2.1⟩ e (fun z=>nomatch z) h
 | @ins a C dx fs ea cl ha hn htk hm=>
  cases (show u=Value.ref a from rx)
  obtain ⟨mA,O,_⟩:=ins_get I.hok ea
  obtain ⟨od,J,_⟩:=O.look
  exact PySem.W.kia_one (PySem.W.kitx_own (cl.get _) cl.hd ha hn htk hm) I.kIn J e (fun z=>nomatch z) h
end
open PySem PySem.Spec PyProof.Rows
structure Room (k:Nat) (A:Around):Prop where
 hd:A.handled=none
 dp:A.depth+3 * k+5 < recursionLimit
 un:A.units+16 * k+200 < cLine
theorem Room.mono {j k:Nat} {A:Around} (r:Room k A) (h:j≤k):Room j A:=⟨r.hd,by have:=r.dp;omega,by have:=r.un;omega⟩
theorem Room.deeper {k:Nat} {A:Around} (r:Room (k+1) A) (env:Env):Room k (A.deeper env):=
 ⟨r.hd,by have:=r.dp;show A.depth+1+3 * k+5 < _;omega,by have:=r.un;show A.units+3+16 * k+200 < _;omega⟩
theorem Room.in1 {k:Nat} {A:Around} (r:Room (k+1) A):Room k A.in1:=
 ⟨r.hd,by have:=r.dp;show A.depth+3 * k+5 < _;omega,by have:=r.un;show A.units+1+16 * k+200 < _;omega⟩
theorem Room.depth {k:Nat} {A:Around} (r:Room k A):A.depth < recursionLimit:=by have:=r.dp;omega
theorem Room.units {k:Nat} {A:Around} (r:Room k A):A.units+64 < cLine:=by have:=r.un;omega
def tNil:TA:=fun _ H Q=>Q [] H
def tCons (ta:TE) (tr:TA):TA:=fun σ H Q=>ta σ H fun x H1=>tr σ H1 fun xs H2=>Q (x :: xs) H2
section
variable {X:Cx} {e:Expr} {es:List Expr} {te:TE} {t:TA} {pos:Pos}
theorem pa_nil:PA X [] tNil:=fun _ _ _ _ H Q I h=>Calls.spliced_nil ⟨[],H,I,.nil,h⟩
theorem pa_cons (ha:PE X e te) (hr:PA X es t) (hs:starEach (e :: es) X.env=(false,eval e X.env) :: starEach es X.env:=by rfl):PA X (e :: es) (tCons te t):=by
 intro pos pins s σ H Q I h
 rw [hs]
 show wpAny _ _ (spliced ((false,eval e X.env) :: backTo pos (starEach es X.env))) _ _ s
 refine Calls.spliced_cons (thn (ha pins s σ H _ I h) fun u s1 ⟨x,H1,I1,r1,q1⟩=>?_)
 exact thn (hr pos pins s1 σ H1 _ I1 q1) fun us s2 ⟨xs,H2,I2,r2,q2⟩=>⟨x :: xs,H2,I2,.cons r1 r2,q2⟩
def tTup (t:TA):TE:=fun σ H Q=>t σ H fun xs H1=>xs.length≤sizeLine∧∀ p,H1 p=none→Q (.ref p) (upd H1 p (.tup xs))
def tLst (t:TA):TE:=fun σ H Q=>t σ H fun xs H1=>xs.length≤sizeLine∧∀ p,H1 p=none→Q (.ref p) (upd H1 p (.lst xs))
theorem pe_tup {x1} (h:PA X es t):PE X (.Tuple es x1 pos) (tTup t):=by
 intro pins s σ H Q I hq
 refine wpAny_Tuple_spliced (thn (h pos pins s σ H _ I hq) fun us s1 ⟨xs,H1,I1,r,z,q⟩=>⟨by rw [← r.length];exact z,?_⟩)
 have hf:H1 s1.heap.objs.size=none:=I1.hok.fresh (Nat.le_refl _)
 refine ⟨.ref s1.heap.objs.size,upd H1 s1.heap.objs.size (.tup xs),I1.laid (t':=s1.toks) (fun b u e=>Heap.get?_push_of_some _ e) (Nat.le_refl _) ?_,rfl,q _ hf⟩
 exact ⟨z,us,r,⟨_,Heap.get?_push_size _ rfl,rfl,_,rfl⟩⟩
theorem pe_lst (h:PA X es t):PE X (.List es pos) (tLst t):=by
 intro pins s σ H Q I hq
 refine wpAny_List_spliced (thn (h pos pins s σ H _ I hq) fun us s1 ⟨xs,H1,I1,r,z,q⟩=>⟨by rw [← r.length];exact z,?_⟩)
 have hf:H1 s1.heap.objs.size=none:=I1.hok.fresh (Nat.le_refl _)
 refine ⟨.ref s1.heap.objs.size,upd H1 s1.heap.objs.size (.lst xs),I1.laid (t':=s1.toks) (fun b u e=>Heap.get?_push_of_some _ e) (Nat.le_refl _) ?_,rfl,q _ hf⟩
 exact ⟨z,us,0,r,Heap.get?_push_size _ rfl⟩
end
abbrev Sp:=List V→Hp→VK→XK→Prop
abbrev CXT:=List Env→Hp→Shared→XK→Value→Shared→Prop
structure Env0 (P:Program) (w:World) (K:PySem.W.Frag) (mg:Str→Option Value) (base:Heap) (A:Around) (outer:List Env) (s:Shared) (H:Hp):Prop where
 frames:A.frames=some outer
 mod:Mod K mg base
 bs:∀ b o,base.get? b=some o→s.heap.get? b=some o∧H b=none
 bsz:base.objs.size≤s.heap.objs.size
 funs:s.heap.FunFrames base outer
 frf:∀ b∈frs outer,H b=none
 hok:HOk P w H s.heap
 bare:AllBare s.gens
def CE (outer:List Env) (P:Program) (w:World) (H:Hp) (s:Shared) (Q:VK) (u:Value) (s':Shared):Prop:=
 ∃ v H',s'.os=s.os∧AllBare s'.gens∧Un (frs outer) [] H H' s.heap s'.heap∧HOk P w H' s'.heap∧RelV v u∧Q v H'
def CR (CX:CXT) (outer:List Env) (P:Program) (w:World) (H:Hp) (s:Shared) (Q:VK) (E:XK) (r:Result) (s':Shared):Prop:=
 match r with
 | .ok (.ret u)=>CE outer P w H s Q u s'
 | .ok _=>False
 | .error e=>CX outer H s E e s'
structure FnOk (P:Program) (w:World) (K:PySem.W.Frag) (mg:Str→Option Value) (base:Heap) (CX:CXT) (k:Nat) (f:Addr) (fd:FuncData) (ps:List Str) (sp:Sp):Prop where
 len:∀ vs H Q E,sp vs H Q E→vs.length=ps.length
 run:∀ (A:Around) (outer:List Env) (s:Shared) (H:Hp) (args:Args) (us:List Value) (vs:List V) (Q:VK) (E:XK),Room k A→Env0 P w K mg base A outer s H→BindsTo s fd args (ps.zip us)→Vals vs us→sp vs H Q E→
  codeAny (model P w) A (.call (.ref f) args) (CR CX outer P w H s Q E) s
theorem Env0.in1 {P:Program} {w:World} {K:PySem.W.Frag} {mg:Str→Option Value} {base:Heap} {A:Around} {outer:List Env} {s:Shared} {H:Hp} (e:Env0 P w K mg base A outer s H) :
  Env0 P w K mg base A.in1 outer s H:=⟨e.frames,e.mod,e.bs,e.bsz,e.funs,e.frf,e.hok,e.bare⟩
section
variable {X:Cx} {pins:List (Addr×Obj)} {σ:St} {H:Hp} {s s':Shared}
theorem Inv.env0 (I:Inv X pins σ H s):Env0 X.prog X.w X.K X.mg X.base X.A X.stack s H:=
 ⟨I.ok.frames,I.ok.mod,I.bs,Nat.le_trans I.ok.bsz I.sz,I.stack,I.stkFree,I.hok,I.bare⟩
theorem Inv.after {Q:VK} {u:Value} (I:Inv X pins σ H s) (h:CE X.stack X.prog X.w H s Q u s'):EP X pins σ Q u s':=by
 obtain ⟨v,H',os,bare,un,hok,r,q⟩:=h
 obtain ⟨hh,g,d,t,os'⟩:=s'
 obtain rfl:os'=s.os:=os
 exact ⟨v,H',I.call (h':=hh) (g':=g) (d':=d) (t':=t) (ch:=[]) un hok bare (fun b z=>absurd z (by simp)),r,q⟩
end
def tCall (sp:Sp) (dvs:List V) (E:XK) (t:TA):TE:=fun σ H Q=>t σ H fun vs H1=>sp (vs++dvs) H1 Q E
def Binds (K:PySem.W.Frag) (fd:FuncData) (ps:List Str) (ds:List Value):Prop:=
 ∀ (s:Shared) (us:List Value),K.In s.heap→(us++ds).length=ps.length→BindsTo s fd ⟨us,[]⟩ (ps.zip (us++ds))
theorem Binds.all {K:PySem.W.Frag} {fd:FuncData} {ps:List Str} (h:∀ us:List Value,us.length=ps.length→bindArgs fd ⟨us,[]⟩=pure (ps.zip us)):Binds K fd ps []:=fun s us _ hl=>by
 rw [List.append_nil] at hl ⊢
 exact .of_eq (h us hl)
def Passes (CX:CXT) (X:Cx) (E:XK):Prop:=∀ (pins:List (Addr×Obj)) (σ:St) (H:Hp) (s:Shared) (e:Value) (s':Shared),Inv X pins σ H s→CX X.stack H s E e s'→X.xe e s'
section
variable {X:Cx} {CX:CXT} {k:Nat} {f C:Addr} {fd:FuncData} {ps:List Str} {sp:Sp} {dvs:List V} {ds:List Value} {E:XK} {x m:Str} {p pos apos:Pos} {e o:Expr} {es:List Expr} {ta:TE} {t:TA}
theorem run_fn {pins:List (Addr×Obj)} {σ:St} {H:Hp} {s:Shared} {Q:VK} {us:List Value} {vs:List V} (F:FnOk X.prog X.w X.K X.mg X.base CX k f fd ps sp) (hr:Room k X.A) (hb:Binds X.K fd ps ds) (hd:Vals dvs ds) (hx:Passes CX X E)
  (I:Inv X pins σ H s) (r:Vals vs us) (h:sp (vs++dvs) H Q E):wpAny (model X.prog X.w) X.A (call (.ref f) us) (EP X pins σ Q) X.xe s:=by
 have r2:Vals (vs++dvs) (us++ds):=r.append hd
 have hl:(us++ds).length=ps.length:=by rw [← r2.length];exact F.len _ _ _ _ h
 refine wpAny_call (codeAny_mono (F.run X.A X.stack s H ⟨us,[]⟩ (us++ds) (vs++dvs) Q E hr I.env0 (hb s us I.kIn hl) r2 h) fun r s' hq=>?_)
 cases r with
 | error e=>exact hx pins σ H s e s' I hq
 | ok fl=>
  cases fl with
  | ret u=>exact I.after hq
  | next=>exact False.elim hq
  | brk=>exact False.elim hq
  | cont=>exact False.elim hq
theorem pe_call (F:FnOk X.prog X.w X.K X.mg X.base CX k f fd ps sp) (hr:Room k X.A) (hg:Gl X x) (hm:X.mg x=some (.ref f)) (hk:PySem.W.keepIn X.K (.ref f)=true) (hb:Binds X.K fd ps ds) (hd:Vals dvs ds) (hx:Passes CX X E)
  (ha:PA X (e :: es) t) (hdb:(x == ("__debug__" : Str))=false:=by decide) (he:starEach (e :: es) X.env=(false,eval e X.env) :: starEach es X.env:=by rfl) (hpl:(backTo pos (starEach es X.env)).any (·.1)=false:=by rfl) :
  PE X (.Call (.Name x p) (e :: es) [] pos) (tCall sp dvs E t):=by
 intro pins s σ H Q I h
 refine wpAny_Call_Name_kw (ld_glob I hg hm ?_ hdb)
 refine PySem.W.callWith_K (h₀:=X.base) I.ok.mod.kin hk (thn (ha pos pins s σ H _ I h) fun us s1 ⟨vs,H1,I1,r,q⟩=>⟨I1.kIn,?_⟩) he hpl
 exact run_fn F hr hb hd hx I1 r q
end
section
variable {X:Cx} {CX:CXT} {k:Nat} {f C:Addr} {fd:FuncData} {ps ks:List Str} {sp:Sp} {E:XK} {x m:Str} {p pos apos kpos:Pos} {e o:Expr} {es:List Expr} {kws:List Keyword} {te ta:TE} {t tk:TA} {nm:Option Str}
variable {g:List Value→List Value→List Value} {gV:List V→List V→List V}
end
structure FnScope (N P:List Str) (sc:Scope):Prop where
 kind:sc.kind=.function
 co:sc.isCoroutine=false
 gen:sc.isGenerator=false
 nd:N.Nodup
 pre:N.take P.length=P
 par:∀ x∈P,sc.names.lookup x=some .local∨sc.names.lookup x=some .cell
 nofree:∀ y∈sc.names,y.2≠.free
theorem bindL_out {kindOf:Str→Option NameKind} {x:Str}:∀ {binds:List (Str×Value)} {m:Str→Option Value},(∀ v,(x,v) ∉ binds)→bindL kindOf binds m x=m x
 | [],_,_=>rfl
 | (n,v) :: r,m,h=>by
  unfold bindL
  rw [bindL_out fun w hw=>h w (List.mem_cons_of_mem _ hw)]
  split
  ·have:x≠n:=by rintro rfl;exact h v List.mem_cons_self
   simp [this]
  ·rfl
theorem bindC_out {kindOf:Str→Option NameKind} {x:Str}:∀ {binds:List (Str×Value)} {m:Str→Option Value},(∀ v,(x,v) ∉ binds)→bindC kindOf binds m x=m x
 | [],_,_=>rfl
 | (n,v) :: r,m,h=>by
  unfold bindC
  rw [bindC_out fun w hw=>h w (List.mem_cons_of_mem _ hw)]
  split
  ·rfl
  ·have:x≠n:=by rintro rfl;exact h v List.mem_cons_self
   simp [this]
theorem bindL_get {kindOf:Str→Option NameKind} {x:Str} {v:Value}:∀ {P:List Str} {vs:List Value} {i:Nat} {m:Str→Option Value},P.Nodup→P[i]?=some x→vs[i]?=some v→kindOf x=some .local→
  bindL kindOf (P.zip vs) m x=some v
 | [],_,_,_,_,h,_,_=>by simp at h
 | _ :: _,[],_,_,_,_,h,_=>by simp at h
 | p :: P,w :: vs,0,m,nd,h1,h2,hk=>by
  simp at h1 h2;subst h1;subst h2
  show bindL kindOf ((p,w) :: P.zip vs) m p=_
  unfold bindL
  rw [bindL_out fun v hv=>(List.nodup_cons.mp nd).1 (List.of_mem_zip hv).1,if_pos hk]
  simp
 | p :: P,w :: vs,i+1,m,nd,h1,h2,hk=>by
  show bindL kindOf ((p,w) :: P.zip vs) m x=_
  unfold bindL
  exact bindL_get (i:=i) (List.nodup_cons.mp nd).2 (by simpa using h1) (by simpa using h2) hk
theorem bindC_get {kindOf:Str→Option NameKind} {x:Str} {v:Value}:∀ {P:List Str} {vs:List Value} {i:Nat} {m:Str→Option Value},P.Nodup→P[i]?=some x→vs[i]?=some v→kindOf x≠some .local→
  bindC kindOf (P.zip vs) m x=some v
 | [],_,_,_,_,h,_,_=>by simp at h
 | _ :: _,[],_,_,_,_,h,_=>by simp at h
 | p :: P,w :: vs,0,m,nd,h1,h2,hk=>by
  simp at h1 h2;subst h1;subst h2
  show bindC kindOf ((p,w) :: P.zip vs) m p=_
  unfold bindC
  rw [bindC_out fun v hv=>(List.nodup_cons.mp nd).1 (List.of_mem_zip hv).1,if_neg hk]
  simp
 | p :: P,w :: vs,i+1,m,nd,h1,h2,hk=>by
  show bindC kindOf ((p,w) :: P.zip vs) m x=_
  unfold bindC
  exact bindC_get (i:=i) (List.nodup_cons.mp nd).2 (by simpa using h1) (by simpa using h2) hk
def start (N:List Str) (vs:List V):St:=vs.map some++List.replicate (N.length - vs.length) none
def cxOf (CX:CXT) (P:Program) (w:World) (K:PySem.W.Frag) (mg:Str→Option Value) (base:Heap) (N:List Str) (qual:Str) (scope:Scope) (f:Addr) (cd:Value) (A:Around) (outer:List Env) (s:Shared) (H:Hp) (E:XK):Cx where
 prog:=P
 w:=w
 K:=K
 mg:=mg
 base:=base
 A:=A.deeper (envOfC qual scope s.heap.objs.size f cd)
 N:=N
 s₀:=s
 H₀:=H
 env:=envOfC qual scope s.heap.objs.size f cd
 outer:=outer
 stack:=envOfC qual scope s.heap.objs.size f cd :: outer
 ex:=[]
 calm:=true
 fn:=fun _=>true
 pn:=[]
 xe:=fun e s'=>wpAny (model P w) (A.deeper (envOfC qual scope s.heap.objs.size f cd)) (leaving (envOfC qual scope s.heap.objs.size f cd) e) (fun _ s''=>CX outer H s E e s'') (fun e' s''=>CX outer H s E e' s'') s'
theorem cell_has {sc:Scope} {n:Nat} {x:Str} (h:sc.names.lookup x=some .cell):∃ c,(cellsFrom n sc.names []).lookup x=some c:=by
 have q:=PySem.W.cellsFrom_some sc.names n [] (.inl h)
 exact Option.isSome_iff_exists.mp q
theorem inv_start {CX:CXT} {P:Program} {w:World} {K:PySem.W.Frag} {mg:Str→Option Value} {base:Heap} {N ps:List Str} {qual:Str} {scope:Scope} {f:Addr} {cd:Value} {A:Around} {outer:List Env} {s s1:Shared} {H:Hp} {E:XK} {us:List Value} {vs:List V}
  (S:FnScope N ps scope) (hd:A.handled=none) (e0:Env0 P w K mg base A outer s H) (hl:vs.length=ps.length) (r:Vals vs us)
  (x:InCallC s s.heap.objs.size (bindL (envOfC qual scope s.heap.objs.size f cd).kindOf (ps.zip us) fun _=>none) (cellsFrom (s.heap.objs.size+1) scope.names []) (bindC (envOfC qual scope s.heap.objs.size f cd).kindOf (ps.zip us) fun _=>none) s1) :
  Inv (cxOf CX P w K mg base N qual scope f cd A outer s H E) [] (start N vs) H s1:=by
 have hpl:ps.length≤N.length:=by have:=congrArg List.length S.pre;rw [List.length_take] at this;omega
 obtain ⟨h1,tk,rfl,hk⟩:=x.done
 have noA:∀ b:Addr,b ∉ (cxOf CX P w K mg base N qual scope f cd A outer s H E).ex:=fun b z=>absurd (show b∈([]:List Addr) from z) (by simp)
 refine ⟨⟨e0.mod,S.kind,rfl,rfl,Nat.le_refl _,fun y z c h1 h2=>?_,fun y hy=>?_,fun y c _ h=>?_,fun _=>hd,Around.frames_deeper e0.frames,.inr ⟨rfl,rfl⟩,fun b z=>absurd z (noA b),e0.bs,e0.bsz,fun b _ _=>noA b,fun b z=>absurd z (noA b),e0.funs,e0.frf⟩,
  rfl,e0.bare,Un.kept hk,⟨_,x.toInCall.ns,fun i y v h1 h2 h3=>?_⟩,fun y c h=>⟨_,x.cell y c h⟩,e0.hok.fresh (Nat.le_refl _),fun y c h=>?_,fun p hp=>absurd (show p∈([]:List (Addr×Obj)) from hp) (by simp),e0.hok.kept hk,?_⟩
 ·exact name_of_addr x.apart (PySem.mem_of_lookup h1) (PySem.mem_of_lookup h2)
 ·have hy:scope.names.lookup y=some .cell∨scope.names.lookup y=some .free:=hy
  rcases hy with hy | hy
  ·exact cell_has hy
  ·exact absurd rfl (S.nofree _ (PySem.mem_of_lookup hy))
 ·exact Nat.le_of_lt (x.above y c (PySem.mem_of_lookup h))
 ·have hi:i < vs.length:=by
   unfold start at h2
   by_cases hi:i < vs.length
   ·exact hi
   ·rw [List.getElem?_append_right (by simpa using hi)] at h2
    rw [List.getElem?_replicate] at h2
    split at h2 <;> cases h2
  have ha:vs[i]?=some v:=by
   unfold start at h2
   rw [List.getElem?_append_left (by simpa using hi),List.getElem?_map] at h2
   cases e:vs[i]? with
   | none=>rw [e] at h2;cases h2
   | some a=>rw [e] at h2;cases h2;rfl
  obtain ⟨u,hu,rv⟩:=r.get ha
  have hp:ps[i]?=some y:=by
   rw [← S.pre,List.getElem?_take_of_lt (by omega)];exact h1
  have ndP:ps.Nodup:=by rw [← S.pre];exact S.nd.sublist (List.take_sublist _ _)
  refine ⟨u,rv,?_⟩
  rcases S.par y (List.mem_of_getElem? hp) with k | k
  ·exact .inl ⟨k,bindL_get ndP hp hu k⟩
  ·obtain ⟨c,e⟩:=cell_has (n:=s.heap.objs.size+1) k
   refine .inr ⟨.inl k,c,e,?_⟩
   have q:=x.cell y c e
   rw [bindC_get ndP hp hu (by show scope.names.lookup y≠_;rw [k];decide)] at q
   exact q
 ·exact e0.hok.fresh (Nat.le_of_lt (x.above y c (PySem.mem_of_lookup h)))
 ·unfold start
  show _=N.length
  rw [List.length_append,List.length_map,List.length_replicate]
  omega
theorem fn_of {CX:CXT} {P:Program} {w:World} {K:PySem.W.Frag} {mg:Str→Option Value} {base:Heap} {k:Nat} {f:Addr} {name qual:Str} {params:Arguments} {body:List Stmt} {scope:Scope} {dV kV doc pm cdv ct oc:Value} {an od:Option Addr}
  {osl:Array (Option Value)} {N ps:List Str} {sp:Sp} (lk:K.lookup f=some ⟨oc,od,.func (PySem.W.fnOf name qual params body scope dV kV doc pm an cdv ct),osl⟩) (hcd:PySem.W.codeIn K cdv qual=true) (S:FnScope N ps scope)
  (len:∀ vs H Q E,sp vs H Q E→vs.length=ps.length)
  (hbody:∀ (A:Around) (outer:List Env) (s:Shared) (H:Hp) (vs:List V) (Q:VK) (E:XK),Room k (A.deeper (envOfC qual scope s.heap.objs.size f cdv))→sp vs H Q E→
   ∃ t,PSs (cxOf CX P w K mg base N qual scope f cdv A outer s H E) body t∧t { nx:=fun _ H'=>Q .non H',rt:=Q } (start N vs) H) :
  FnOk P w K mg base CX (k+1) f (PySem.W.fnOf name qual params body scope dV kV doc pm an cdv ct) ps sp:=by
 refine ⟨len,fun A outer s H args us vs Q E hr e0 hb r hsp=>?_⟩
 have hl:=len _ _ _ _ hsp
 have KX:K.In s.heap:=e0.mod.kin.keeps fun b o e=>(e0.bs b o e).1
 have lim:s.heap.NoLimit:=e0.mod.nolimit.keeps fun b o e=>(e0.bs b o e).1
 have hkind:∀ y∈ps.zip us,scope.names.lookup y.1=some .local∨(scope.names.lookup y.1=some .cell∧((cellsFrom (s.heap.objs.size+1) scope.names []).lookup y.1).isSome=true):=fun ⟨n,v⟩ hy=>by
  rcases S.par n (List.of_mem_zip hy).1 with q | q
  ·exact .inl q
  ·exact .inr ⟨q,PySem.W.cellsFrom_some _ _ _ (.inl q)⟩
 refine codeAny_call_function hr.depth (KX _ _ lk) rfl S.co S.gen rfl (PySem.W.codeRec_of KX hcd) (hb _ _ _ _ ?_)
 refine wpAny_newFunctionEnv_cells S.kind hkind fun env he s1 x=>?_
 subst he
 refine ⟨lim.keeps x.toInCall.keep,codeAny_func ?_⟩
 obtain ⟨t,ht,hq⟩:=hbody A outer s H vs Q E (hr.deeper _) hsp
 have I:Inv (cxOf CX P w K mg base N qual scope f cdv A outer s H E) [] (start N vs) H s1:=inv_start S hr.hd e0 hl r x
 refine wpAny_mono (ht [] s1 (start N vs) H _ I hq) (fun fl s' hs=>?_) fun e s' hs=>hs
 have fin:∀ {σ':St} {H':Hp} {v:V} {u:Value},Inv (cxOf CX P w K mg base N qual scope f cdv A outer s H E) [] σ' H' s'→RelV v u→Q v H'→CE outer P w H s Q u s':=
  fun {σ' H' v u} J rv q=>⟨v,H',J.os,J.bare,J.base,J.hok,rv,q⟩
 cases fl with
 | ret u=>
  obtain ⟨v,σ',H',J,rv,q⟩:=hs
  exact fin J rv q
 | next=>
  obtain ⟨σ',H',J,q⟩:=hs
  exact fin (v:=V.non) (u:=Value.none) J rfl q
 | brk=>
  obtain ⟨_,_,_,q⟩:=hs
  exact False.elim q
 | cont=>
  obtain ⟨_,_,_,q⟩:=hs
  exact False.elim q
open PySem PySem.Spec PyProof.Rows
section
variable {X:Cx} {x:Str} {p pos:Pos} {e:Expr} {es:List Expr} {t:TA} {id T:String} {r:List V→Hp→VK→Prop}
def tCB (r:List V→Hp→VK→Prop) (t:TA):TE:=fun σ H Q=>t σ H fun vs H1=>r vs H1 Q
theorem pe_callB (hc:CallR X (.builtin id) r) (hg:Gl X x) (hm:X.mg x=none) (hv:bootBuiltins x=some (.builtin id)) (ha:PA X (e :: es) t) (hn:x≠"__name__":=by decide) (hdb:(x == ("__debug__" : Str))=false:=by decide)
  (he:starEach (e :: es) X.env=(false,eval e X.env) :: starEach es X.env:=by rfl) (hpl:(backTo pos (starEach es X.env)).any (·.1)=false:=by rfl):PE X (.Call (.Name x p) (e :: es) [] pos) (tCB r t):=by
 intro pins s σ H Q I h
 refine wpAny_Call_Name_kw (ld_blt I hg hm hv ?_ hn hdb)
 exact PyProof.Rows.callWith_builtin1 (thn (ha pos pins s σ H _ I h) fun us s1 ⟨vs,H1,I1,r1,q1⟩=>hc pins s1 σ H1 vs us Q I1 r1 q1) he hpl
theorem pe_callTy (hc:CallR X (.type T) r) (hg:Gl X x) (hm:X.mg x=none) (hv:bootBuiltins x=some (.type T)) (ha:PA X (e :: es) t) (hn:x≠"__name__":=by decide) (hdb:(x == ("__debug__" : Str))=false:=by decide)
  (he:starEach (e :: es) X.env=(false,eval e X.env) :: starEach es X.env:=by rfl) (hpl:(backTo pos (starEach es X.env)).any (·.1)=false:=by rfl):PE X (.Call (.Name x p) (e :: es) [] pos) (tCB r t):=by
 intro pins s σ H Q I h
 refine wpAny_Call_Name_kw (ld_blt I hg hm hv ?_ hn hdb)
 exact PyProof.Rows.callWith_type1 (thn (ha pos pins s σ H _ I h) fun us s1 ⟨vs,H1,I1,r1,q1⟩=>hc pins s1 σ H1 vs us Q I1 r1 q1) he hpl
end
end L2
namespace HT
open PySem PyProof.Rows
section
open PySem.SeqAt
open PySem.AutoSeq1 (wpAny_loadPart')
open PySem.MeetsSeq PySem.MeetsSeq2 PySem.MeetsSeq3
end
section
variable {prog:Program} {w:World} {A:Around} {E:Value→Shared→Prop} {s:Shared}
theorem cat_tup {t b:Addr} {vs ws:List Value} {Q:Value→Shared→Prop} (ht:IsTup s.heap t vs.toArray) (hb:IsTup s.heap b ws.toArray) (hv:vs≠[])
  (h1:ws=[]→Q (.ref t) s) (h2:ws≠[]→Q (.ref s.heap.objs.size) { s with heap:=s.heap.push { cls:=.type "tuple",data:=.seq (vs++ws).toArray } })
  (hsz:vs.length+ws.length≤sizeLine):wpAny (model prog w) A (binaryOp .Add (.ref t) (.ref b)) Q E s:=by
 obtain ⟨⟨cls,dd,data,sl⟩,ho,hc,n,hd⟩:=id ht
 obtain ⟨⟨cls2,dd2,data2,sl2⟩,ho2,hc2,n2,hd2⟩:=id hb
 simp only at hc hd hc2 hd2
 subst hc hd hc2 hd2
 have e:vs.toArray++ws.toArray=(vs++ws).toArray:=by simp
 by_cases hw:ws=[]
 ·exact concat_meets ⟨_,ho,rfl⟩ ⟨_,ho2,rfl⟩ noFill_tuple_add seq_tuple_add PySem.F.slot_tuple_add PySem.F.entry_tuple_add (PySem.F.args_tuple_add_2 _ _)
   (tuple_addW1 t b vs.toArray ws.toArray n n2 dd dd2 sl sl2 (by simpa using hv) (by simp [hw])) ⟨ho,ho2,h1 hw⟩
 ·refine concat_meets ⟨_,ho,rfl⟩ ⟨_,ho2,rfl⟩ noFill_tuple_add seq_tuple_add PySem.F.slot_tuple_add PySem.F.entry_tuple_add (PySem.F.args_tuple_add_2 _ _)
   (tuple_addW2 t b vs.toArray ws.toArray n n2 dd dd2 sl sl2 (by simpa using hv) (by simpa using hw) (by rw [List.size_toArray,List.size_toArray];exact hsz)) ⟨ho,ho2,?_⟩
  rw [e]
  exact h2 hw
def sIx (n d:Nat):Option Int→Nat
 | none=>d
 | some v=>if v < 0 then (v+(n:Int)).toNat else min v.toNat n
theorem sIx_none (n d:Nat):sIx n d none=d:=rfl
theorem sIx_nat (n d k:Nat):sIx n d (some (k:Int))=min k n:=by
 show (if (k:Int) < 0 then ((k:Int)+(n:Int)).toNat else min (k:Int).toNat n)=min k n
 rw [if_neg (by omega),Int.toNat_natCast]
theorem sIx_le (n d:Nat) (hd:d≤n) (o:Option Int):sIx n d o≤n:=by
 cases o with
 | none=>exact hd
 | some v=>
  show (if v < 0 then (v+(n:Int)).toNat else min v.toNat n)≤n
  by_cases hv:v < 0
  ·rw [if_pos hv];omega
  ·rw [if_neg hv];exact Nat.min_le_right _ _
theorem clip_eq (v:Int) (n d:Nat):(if v < 0 then max (v+(n:Int)) 0 else min v (n:Int))=((sIx n d (some v):Nat):Int):=by
 show (if v < 0 then max (v+(n:Int)) 0 else min v (n:Int))=(((if v < 0 then (v+(n:Int)).toNat else min v.toNat n):Nat):Int)
 by_cases hv:v < 0
 ·simp only [if_pos hv];omega
 ·simp only [if_neg hv];omega
theorem adjust_gen (lo hi:Option Int) (n:Nat):Builtin.Slice.sliceAdjust lo hi 1 (n:Int)=(((sIx n 0 lo:Nat):Int),((sIx n n hi:Nat):Int)):=by
 have h1:¬ ((1:Int) < 0):=by omega
 unfold Builtin.Slice.sliceAdjust
 simp only [h1,if_false]
 refine Prod.ext ?_ ?_
 ·cases lo with
  | none=>rfl
  | some v=>exact clip_eq v n 0
 ·cases hi with
  | none=>rfl
  | some v=>exact clip_eq v n n
theorem places_gen (i j:Nat):Builtin.Slice.slicePlaces (i:Int) (j:Int) 1=j - i:=by
 unfold Builtin.Slice.slicePlaces
 have h1:(1:Int) > 0:=by omega
 simp only [h1,if_true,Int.ediv_one]
 split <;> omega
theorem slicePart_ {v:Value} {o:Option Int} {Q:Option Int→Shared→Prop} (p:IsPart v o) (h:Q o s):wpAny (model prog w) A (Builtin.Slice.slicePartIndex v) Q E s:=by
 cases p with
 | none=>exact slicePart_none h
 | int i t=>exact slicePart_int h
theorem sliceApplied_gen {sl:Addr} {vl vu:Value} {lo hi:Option Int} {n:Nat} {Q:Int×Int×Nat→Shared→Prop} (hs:s.heap.IsSliceOf sl vl vu .none) (pl:IsPart vl lo) (pu:IsPart vu hi)
  (h:Q (((sIx n 0 lo:Nat):Int),1,sIx n n hi - sIx n 0 lo) s):wpAny (model prog w) A (Builtin.Slice.sliceApplied (.ref sl) (pure (n:Int))) Q E s:=by
 obtain ⟨os,hos,hcs,hds⟩:=id hs
 unfold Builtin.Slice.sliceApplied Builtin.Slice.sliceFields
 refine wpAny_bind (wpAny_bind (wpAny_field hos hds (x:=vl) rfl (wpAny_bind (wpAny_field hos hds (x:=vu) rfl (wpAny_bind (wpAny_field hos hds (x:=.none) rfl (wpAny_pure ?_)))))))
 refine wpAny_bind (slicePart_none ?_)
 show wpAny _ _ (if ((1:Int) == 0)=true then _ else _) _ _ s
 rw [if_neg (by decide)]
 refine wpAny_bind (slicePart_ pl (wpAny_bind (slicePart_ pu (wpAny_bind (wpAny_pure ?_)))))
 show wpAny _ _ (match Builtin.Slice.sliceAdjust lo hi 1 (n:Int) with | (lo,hi)=>pure (lo,(1:Int),Builtin.Slice.slicePlaces lo hi 1)) _ _ s
 rw [adjust_gen lo hi n]
 show wpAny _ _ (pure (((sIx n 0 lo:Nat):Int),(1:Int),Builtin.Slice.slicePlaces ((sIx n 0 lo:Nat):Int) ((sIx n n hi:Nat):Int) 1)) _ _ s
 rw [places_gen]
 exact wpAny_pure h
theorem pick_gen (xs:Array Value) (i k:Nat):((List.range k).filterMap fun (m:Nat)=>xs[((i:Int)+(m:Int) * 1).toNat]?).toArray=((xs.toList.drop i).take k).toArray:=by
 have e:(fun (m:Nat)=>xs[((i:Int)+(m:Int) * 1).toNat]?)=fun m=>xs[i+m]?:=by
  funext m
  have:((i:Int)+(m:Int) * 1).toNat=i+m:=by omega
  rw [this]
 rw [e]
 have:=pick_run xs i k
 rw [List.filterMap_map] at this
 have e2:((fun x=>xs[x]?) ∘ fun x=>i+x)=fun m=>xs[i+m]?:=rfl
 rw [e2] at this
 rw [this]
theorem getItem_tuple_cut {t sl:Addr} {items:Array Value} {vl vu:Value} {lo hi:Option Int} {Q:Value→Shared→Prop} (ht:IsTup s.heap t items) (hs:s.heap.IsSliceOf sl vl vu .none) (pl:IsPart vl lo) (pu:IsPart vu hi)
  (hw:¬ (sIx items.size 0 lo=0∧sIx items.size items.size hi=items.size))
  (h:Q (.ref s.heap.objs.size) { s with heap:=s.heap.push { cls:=.type "tuple",data:=.seq ((items.toList.drop (sIx items.size 0 lo)).take (sIx items.size items.size hi - sIx items.size 0 lo)).toArray } })
  (hsz:items.size≤sizeLine):wpAny (model prog w) A (getItem (.ref t) (.ref sl)) Q E s:=by
 have htake:sizeOk (.seq ((items.toList.drop (sIx items.size 0 lo)).take (sIx items.size items.size hi - sIx items.size 0 lo)).toArray):=by
  show ((items.toList.drop (sIx items.size 0 lo)).take (sIx items.size items.size hi - sIx items.size 0 lo)).toArray.size≤sizeLine
  rw [List.size_toArray,List.length_take,List.length_drop,Array.length_toList]
  omega
 have hj:sIx items.size items.size hi≤items.size:=sIx_le _ _ (Nat.le_refl _) hi
 obtain ⟨os,hos,hcs,hds⟩:=id hs
 have hTs:s.TypeIs (.ref sl) "slice":=⟨os,hos,hcs⟩
 unfold getItem
 try with_reducible refine wpAny_holding ?_
 first | refine wpAny_bind (wpAny_pure ?_) | skip
 refine wpAny_bind (wpAny_sequenceKey ht.typeIs (by decide) ?_)
 refine wpAny_bind (wpAny_callSpecial?_slot (name:=Str.ofString "__getitem__") ht.typeIs PyProof.Rows.slot_tuple_getitem
  (wpAny_call_entry PyProof.Rows.slot_tuple_getitem ht.typeIs entry_tuple_getitem ?_ (args_tuple_getitem _ _)))
 show wpAny _ _ (Builtin.Tuple.tupleItemsOf (.ref t) >>= _) _ _ s
 refine wpAny_bind (tupleItemsOf_ ht ?_)
 refine wpAny_bind (wpAny_typeOf hTs ?_)
 rw [if_pos (by decide)]
 refine wpAny_bind (sliceApplied_gen hs pl pu ?_)
 have hno:¬ ((((sIx items.size 0 lo:Nat):Int) == 0 && (1:Int) == 1 && (sIx items.size items.size hi - sIx items.size 0 lo) == items.size)=true):=by
  intro q
  rw [Bool.and_eq_true,Bool.and_eq_true] at q
  have q1:((sIx items.size 0 lo:Nat):Int)=0:=eq_of_beq q.1.1
  have q2:sIx items.size items.size hi - sIx items.size 0 lo=items.size:=eq_of_beq q.2
  exact hw ⟨by omega,by omega⟩
 show wpAny _ _ (if (((sIx items.size 0 lo:Nat):Int) == 0 && (1:Int) == 1 && (sIx items.size items.size hi - sIx items.size 0 lo) == items.size)=true then _ else _) _ _ s
 rw [if_neg hno,pick_gen]
 first
  | exact wpAny_bind (m:=Builtin.Tuple.tupleExact _) (wpAny_newObj_type (wpAny_pure ⟨_,rfl,wpAny_pure h⟩) htake)
  | exact wpAny_bind (m:=Builtin.Tuple.tupleExact _) (wpAny_newObj_type (wpAny_bind (wpAny_pure (wpAny_pure ⟨_,rfl,wpAny_pure h⟩))) htake)
  | exact wpAny_bind (wpAny_bind (m:=Builtin.Tuple.tupleExact _) (wpAny_newObj_type (wpAny_pure (wpAny_pure ⟨_,rfl,wpAny_pure h⟩)) htake))
  | exact wpAny_bind (wpAny_bind (m:=Builtin.Tuple.tupleExact _) (wpAny_newObj_type (wpAny_pure ⟨_,rfl,wpAny_pure h⟩) htake))
end
end HT
namespace L2
open PySem PySem.Spec PyProof.Rows
abbrev TO:=St→Hp→(Option Int→Hp→Prop)→Prop
def PO (X:Cx) (e:Option Expr) (t:TO):Prop:=
 ∀ (pins:List (Addr×Obj)) (s:Shared) (σ:St) (H:Hp) (Q:Option Int→Hp→Prop),Inv X pins σ H s→t σ H Q→
  wpAny (model X.prog X.w) X.A (evalPart e X.env) (fun u s'=>∃ o H',Inv X pins σ H' s'∧IsPart u o∧Q o H') X.xe s
def tNoPart:TO:=fun _ H Q=>Q none H
def tPart (t:TE):TO:=fun σ H Q=>t σ H fun x H1=>∃ i,x=.int i∧Q (some i) H1
section
variable {X:Cx} {e:Expr} {te:TE} {lo hi:Option Expr} {tl th:TO} {pos p2:Pos}
theorem po_none:PO X none tNoPart:=by
 intro pins s σ H Q I h
 rw [evalPart_none]
 exact wpAny_pure ⟨none,H,I,.none,h⟩
theorem po_some (h:PE X e te):PO X (some e) (tPart te):=by
 intro pins s σ H Q I hw
 rw [evalPart_some]
 refine thn (h pins s σ H _ I hw) fun u s1 ⟨x,H1,I1,r1,q1⟩=>?_
 obtain ⟨i,rfl,q⟩:=q1
 obtain ⟨t,rfl⟩:=r1
 exact ⟨some i,H1,I1,.int i t,q⟩
def SlR (X:Cx) (r:V→Option Int→Option Int→Hp→VK→Prop):Prop:=
 ∀ (pins:List (Addr×Obj)) (s:Shared) (σ:St) (H:Hp) (x:V) (v vl vu:Value) (lo hi:Option Int) (sl:Addr) (Q:VK),Inv X pins σ H s→RelV x v→s.heap.IsSliceOf sl vl vu .none→IsPart vl lo→IsPart vu hi→r x lo hi H Q→
  ∃ T id,typeLookup (.type T) "__getitem__" = pure (some (.builtin id))∧s.TypeIs v T∧wpAny (model X.prog X.w) X.A (getItem v (.ref sl)) (EP X pins σ Q) X.xe s
def tSl (r:V→Option Int→Option Int→Hp→VK→Prop) (te:TE) (tl th:TO):TE:=fun σ H Q=>te σ H fun x H1=>tl σ H1 fun l H2=>th σ H2 fun u H3=>r x l u H3 Q
theorem pe_slice {r:V→Option Int→Option Int→Hp→VK→Prop} (hr:SlR X r) (he:PE X e te) (hl:PO X lo tl) (hu:PO X hi th):PE X (.Subscript e (.Slice lo hi none p2) pos) (tSl r te tl th):=by
 intro pins s σ H Q I h
 refine Subscript_ (thn (he pins s σ H _ I h) fun v s1 ⟨x,H1,I1,r1,q1⟩=>?_)
 refine wpAny_Slice (thn (hl pins s1 σ H1 _ I1 q1) fun vl s2 ⟨l,H2,I2,pl,q2⟩=>thn (hu pins s2 σ H2 _ I2 q2) fun vu s3 ⟨u,H3,I3,pu,q3⟩=>?_)
 rw [evalPart_none]
 refine wpAny_pure ?_
 have I4:Inv X pins σ H3 { s3 with heap:=s3.heap.push { cls:=.type "slice",data:=.fields #[vl,vu,.none] } }:=I3.kept (t':=s3.toks) fun b ob q=>Heap.get?_push_of_some _ q
 obtain ⟨T,id,hT,ht,hg⟩:=hr pins { s3 with heap:=s3.heap.push { cls:=.type "slice",data:=.fields #[vl,vu,.none] } } σ H3 x v vl vu l u s3.heap.objs.size Q I4 r1 (Heap.IsSliceOf.new ..) pl pu q3
 show wpAny (model X.prog X.w) X.A (subscriptTail e (.Slice lo hi none p2) v (.ref s3.heap.objs.size)) (EP X pins σ Q) X.xe { s3 with heap:=s3.heap.push { cls:=.type "slice",data:=.fields #[vl,vu,.none] } }
 exact tail_any (ops:=[.ref s3.heap.objs.size,v]) ht hT hg (by with_unfolding_all rfl)
def cutV (xs:List V) (lo hi:Option Int):List V:=(xs.drop (HT.sIx xs.length 0 lo)).take (HT.sIx xs.length xs.length hi - HT.sIx xs.length 0 lo)
theorem cutV_length (xs:List V) (lo hi:Option Int):(cutV xs lo hi).length≤xs.length:=by
 unfold cutV
 rw [List.length_take,List.length_drop]
 omega
def rSlT (K:PySem.W.Frag):V→Option Int→Option Int→Hp→VK→Prop:=fun x lo hi H Q=>∃ a xs,x=.ref a∧SqT K H a xs∧
 ¬ (HT.sIx xs.length 0 lo=0∧HT.sIx xs.length xs.length hi=xs.length)∧∀ p,H p=none→Q (.ref p) (upd H p (.tup (cutV xs lo hi)))
theorem sl_tup:SlR X (rSlT X.K):=by
 intro pins s σ H x v vl vu lo hi sl Q I rx hs pl pu h
 obtain ⟨a,xs,rfl,hx,hw,q⟩:=h
 cases rx
 obtain ⟨its,r,ht,hz⟩:=I.tuple hx
 have hlen:its.toArray.size=xs.length:=by rw [List.size_toArray];exact r.length.symm
 refine ⟨"tuple",_,PyProof.Rows.slot_tuple_getitem.lookup,ht.typeIs,?_⟩
 refine HT.getItem_tuple_cut ht hs pl pu (by rw [hlen];exact hw) ?_ (by rw [hlen];exact hz)
 rw [hlen]
 refine ⟨.ref s.heap.objs.size,_,I.laid (t':=s.toks) (o:=.tup (cutV xs lo hi)) (fun b ob q=>Heap.get?_push_of_some _ q) (Nat.le_refl _) ?_,rfl,q _ (I.hok.fresh (Nat.le_refl _))⟩
 exact ⟨Nat.le_trans (cutV_length xs lo hi) hz,_,(r.drop (HT.sIx xs.length 0 lo)).take (HT.sIx xs.length xs.length hi - HT.sIx xs.length 0 lo),IsTup.new _ _⟩
def rCatT (K:PySem.W.Frag):R2:=fun x y H Q=>∃ a b xs ys,x=.ref a∧y=.ref b∧SqT K H a xs∧SqT K H b ys∧xs≠[]∧xs.length+ys.length≤sizeLine∧
 (ys=[]→Q (.ref a) H)∧(ys≠[]→∀ p,H p=none→Q (.ref p) (upd H p (.tup (xs++ys))))
theorem Vals.nil_iff {xs:List V} {us:List Value} (r:Vals xs us):us=[]↔xs=[]:=by
 cases r with
 | nil=>simp
 | cons _ _=>simp
theorem op_catT:OpR X (binaryOp .Add) (rCatT X.K):=by
 intro pins s σ H x y v u Q I rx ry h
 obtain ⟨a,b,xs,ys,rfl,rfl,ha,hb,hx,hz,q1,q2⟩:=h
 cases rx
 cases ry
 obtain ⟨its,r1,p1,_⟩:=I.tuple ha
 obtain ⟨its2,r2,p2,_⟩:=I.tuple hb
 refine HT.cat_tup p1 p2 (fun z=>hx (r1.nil_iff.mp z)) (fun z=>⟨.ref a,H,I,rfl,q1 (r2.nil_iff.mp z)⟩) (fun z=>?_) (by rw [← r1.length,← r2.length];exact hz)
 refine ⟨.ref s.heap.objs.size,_,I.laid (t':=s.toks) (o:=.tup (xs++ys)) (fun b ob q=>Heap.get?_push_of_some _ q) (Nat.le_refl _) ?_,rfl,q2 (fun w=>z (r2.nil_iff.mpr w)) _ (I.hok.fresh (Nat.le_refl _))⟩
 exact ⟨by rw [List.length_append];exact hz,_,r1.append r2,IsTup.new _ _⟩
end
open PySem PySem.Spec PyProof.Rows
def ixN (n:Nat) (i:Int):Option Nat:=if 0≤i then (if i < n then some i.toNat else none) else if -(n:Int)≤i then some (i+n).toNat else none
def atI {α:Type} (xs:List α) (i:Int):Option α:=(ixN xs.length i).bind fun j=>xs[j]?
theorem ixN_seq {n:Nat} {i:Int} {j:Nat} (h:ixN n i=some j):seqIndex? i n=some j∧j < n∧-(n:Int)≤i∧i < n:=by
 unfold ixN at h
 by_cases h0:0≤i
 ·rw [if_pos h0] at h
  by_cases h1:i < n
  ·rw [if_pos h1] at h
   have e:i.toNat=j:=Option.some.inj h
   exact ⟨by rw [seqIndex_of h0 h1,e],by omega,by omega,h1⟩
  ·rw [if_neg h1] at h;cases h
 ·rw [if_neg h0] at h
  by_cases h1:-(n:Int)≤i
  ·rw [if_pos h1] at h
   have e:(i+n).toNat=j:=Option.some.inj h
   exact ⟨by rw [seqIndex_neg (by omega) h1,e],by omega,h1,by omega⟩
  ·rw [if_neg h1] at h;cases h
theorem atI_get {α:Type} {xs:List α} {i:Int} {v:α} (h:atI xs i=some v):∃ j,seqIndex? i xs.length=some j∧xs[j]?=some v∧j < xs.length∧-(xs.length:Int)≤i∧i < xs.length:=by
 unfold atI at h
 cases e:ixN xs.length i with
 | none=>rw [e] at h;cases h
 | some j=>
  rw [e] at h
  obtain ⟨h1,h2,h3,h4⟩:=ixN_seq e
  exact ⟨j,h1,h,h2,h3,h4⟩
theorem atI_nat {α:Type} {xs:List α} {j:Nat} {v:α} (h:xs[j]?=some v):atI xs (j:Int)=some v:=by
 have hj:j < xs.length:=(List.getElem?_eq_some_iff.mp h).1
 have e:ixN xs.length (j:Int)=some j:=by
  unfold ixN
  rw [if_pos (by omega),if_pos (by omega)];simp
 unfold atI;rw [e];exact h
def PlainIx (b:Expr):Prop:=∀ o i,subscripted b false o i=operate [o,i] (getItem o i)
def IxR (X:Cx) (r:R2):Prop:=
 ∀ (value slice:Expr) (pins:List (Addr×Obj)) (s:Shared) (σ:St) (H:Hp) (x y:V) (v u:Value) (Q:VK),Inv X pins σ H s→RelV x v→RelV y u→r x y H Q→
  subscripted slice false v u=operate [v,u] (getItem v u)→wpAny (model X.prog X.w) X.A (subscriptTail value slice v u) (EP X pins σ Q) X.xe s
def MtR (X:Cx) (id:String) (r:V→List V→Hp→VK→Prop):Prop:=
 ∀ (pins:List (Addr×Obj)) (s:Shared) (σ:St) (H:Hp) (x:V) (xs:List V) (v:Value) (us:List Value) (Q:VK),Inv X pins σ H s→RelV x v→Vals xs us→r x xs H Q→
  wpAny (model X.prog X.w) X.A (call (.builtin id) (v :: us)) (EP X pins σ Q) X.xe s
section
variable {X:Cx} {a b:Expr} {ta tb:TE} {pos:Pos}
theorem pe_ix {r:R2} (hr:IxR X r) (ha:PE X a ta) (hb:PE X b tb) (hs:PlainIx b):PE X (.Subscript a b pos) (tOp r ta tb):=by
 intro pins s σ H Q I h
 exact Subscript_ (binT ha hb I h fun v u s2 x y H2 I2 rx ry q=>hr a b pins s2 σ H2 x y v u Q I2 rx ry q (hs _ _))
def rIxL (K:PySem.W.Frag):R2:=fun x y H Q=>∃ p xs i v,x=.ref p∧y=.int i∧SqL K H p xs∧atI xs i=some v∧Q v H
def rIxT (K:PySem.W.Frag):R2:=fun x y H Q=>∃ p xs i v,x=.ref p∧y=.int i∧SqT K H p xs∧atI xs i=some v∧Q v H
def rIxS:R2:=fun x y H Q=>∃ z i c,x=.str z∧y=.int i∧z.length≤sizeLine∧atI z.cps.toList i=some c∧Q (.str ⟨#[c]⟩) H
theorem ix_list:IxR X (rIxL X.K):=by
 intro value slice pins s σ H x y v u Q I rx ry h hs
 obtain ⟨p,xs,i,z,rfl,rfl,hq,he,q⟩:=h
 cases rx
 obtain ⟨t,rfl⟩:=ry
 obtain ⟨its,r,pl,hz⟩:=I.list hq
 obtain ⟨j,h1,h2,h3,h4,h5⟩:=atI_get he
 obtain ⟨w,ew,rw'⟩:=r.get h2
 have hl:=r.length
 have hn:=line63
 have fin:EP X pins σ Q w s:=⟨z,H,I,rw',q⟩
 by_cases h0:0≤i
 ·have hj:i.toNat=j:=by
   rw [seqIndex_of h0 h5] at h1
   exact Option.some.inj h1
  exact item_listR pl.isList h0 (by omega) (by rw [hj];simpa using ew) fin hs
 ·have hj:(i+(its.toArray.size:Int)).toNat=j:=by
   rw [seqIndex_neg (by omega) h4] at h1
   rw [List.size_toArray,← hl]
   exact Option.some.inj h1
  exact subscriptTail_builtinR (x:=w) pl.isList.typeIs slot_list_getitem.lookup
   (wpAny_getItem_list_neg (Q:=fun r s'=>r=w∧EP X pins σ Q r s') pl.isList (by omega) (by rw [List.size_toArray] <;> omega) (by omega) (by rw [hj];simpa using ew) ⟨rfl,fin⟩) hs
theorem ix_tup:IxR X (rIxT X.K):=by
 intro value slice pins s σ H x y v u Q I rx ry h hs
 obtain ⟨p,xs,i,z,rfl,rfl,hq,he,q⟩:=h
 cases rx
 obtain ⟨t,rfl⟩:=ry
 obtain ⟨its,r,pl,hz⟩:=I.tuple hq
 obtain ⟨j,h1,h2,h3,h4,h5⟩:=atI_get he
 obtain ⟨w,ew,rw'⟩:=r.get h2
 have hl:=r.length
 have hn:=line63
 have fin:EP X pins σ Q w s:=⟨z,H,I,rw',q⟩
 exact subscriptTail_builtinR (x:=w) pl.typeIs slot_tuple_getitem.lookup
  (getItem_tuple (j:=j) (Q:=fun r s'=>r=w∧EP X pins σ Q r s') pl (by omega) (by omega) (by rw [List.size_toArray,← hl];exact h1) (by simpa using ew) ⟨rfl,fin⟩) hs
theorem ix_str:IxR X rIxS:=by
 intro value slice pins s σ H x y v u Q I rx ry h hs
 obtain ⟨z,i,c,rfl,rfl,hz,he,q⟩:=h
 obtain ⟨t,rfl⟩:=rx
 obtain ⟨t',rfl⟩:=ry
 obtain ⟨j,h1,h2,h3,h4,h5⟩:=atI_get he
 have hl:z.cps.toList.length=z.length:=by simp [Str.length]
 rw [hl] at h1 h4 h5
 have hn:=line63
 exact tail_any (typeIs_str s z t) slot_str_getitem.lookup (getItem_str (c:=c) (by
  have e1:decide (i < -(2 ^ 63:Int))=false:=decide_eq_false (by omega)
  have e2:decide (i ≥ 2 ^ 63)=false:=decide_eq_false (by omega)
  rw [e1,e2,Bool.or_false]) (by rw [h1];simpa using h2) ⟨.str ⟨#[c]⟩,H,I.tok _,⟨_,rfl⟩,q⟩) hs
theorem Inv.lst {pins:List (Addr×Obj)} {σ:St} {H:Hp} {s:Shared} {p:Addr} {xs:List V} (I:Inv X pins σ H s) (h:H p=some (.lst xs)) :
  ∃ (its:List Value) (n:Nat),Vals xs its∧s.heap.get? p=some { cls:=.type "list",data:=.seq its.toArray n }∧xs.length≤sizeLine:=by
 obtain ⟨z,its,n,r,e⟩:=I.hok p _ h
 exact ⟨its,n,r,e,z⟩
theorem slice_bounds (lo hi:Option Int) (n:Nat):(sliceBounds lo hi none n).1=((HT.sIx n 0 lo:Nat):Int)∧(sliceBounds lo hi none n).2.1=((HT.sIx n n hi:Nat):Int)∧(sliceBounds lo hi none n).2.2=1:=by
 refine ⟨?_,?_,rfl⟩
 ·cases lo with
  | none=>simp [sliceBounds,HT.sIx]
  | some i=>
   simp only [sliceBounds,HT.sIx,Option.getD_none,show (1:Int) > 0 by decide,if_true]
   by_cases h:i < 0
   ·simp only [h,if_true] <;> omega
   ·simp only [h,if_false] <;> omega
 ·cases hi with
  | none=>simp [sliceBounds,HT.sIx]
  | some i=>
   simp only [sliceBounds,HT.sIx,Option.getD_none,show (1:Int) > 0 by decide,if_true]
   by_cases h:i < 0
   ·simp only [h,if_true] <;> omega
   ·simp only [h,if_false] <;> omega
theorem slicePick_cut (its:List Value) (lo hi:Option Int):slicePick its.toArray lo hi none=((its.drop (HT.sIx its.length 0 lo)).take (HT.sIx its.length its.length hi - HT.sIx its.length 0 lo)).toArray:=by
 obtain ⟨h1,h2,h3⟩:=slice_bounds lo hi its.toArray.size
 unfold slicePick
 rw [h1,h2,h3]
 simp only [sliceRange_one,pick_run,List.size_toArray] <;> rfl
def rSlL (K:PySem.W.Frag):V→Option Int→Option Int→Hp→VK→Prop:=fun x lo hi H Q=>∃ a xs,x=.ref a∧SqL K H a xs∧∀ p,H p=none→Q (.ref p) (upd H p (.lst (cutV xs lo hi)))
theorem sl_list:SlR X (rSlL X.K):=by
 intro pins s σ H x v vl vu lo hi sl Q I rx hs pl pu h
 obtain ⟨a,xs,rfl,hx,q⟩:=h
 cases rx
 obtain ⟨its,r,ht,hz⟩:=I.list hx
 have hlen:=r.length
 refine ⟨"list",_,slot_list_getitem.lookup,ht.isList.typeIs,?_⟩
 refine wpAny_getItem_list_slice ht.isList hs pl pu .none (by simp) ?_ (by rw [List.size_toArray] <;> omega)
 rw [slicePick_cut,← hlen]
 refine ⟨.ref s.heap.objs.size,_,I.laid (t':=s.toks) (o:=.lst (cutV xs lo hi)) (fun b ob q=>Heap.get?_push_of_some _ q) (Nat.le_refl _) ?_,rfl,q _ (I.hok.fresh (Nat.le_refl _))⟩
 exact ⟨Nat.le_trans (cutV_length xs lo hi) hz,_,0,(r.drop (HT.sIx xs.length 0 lo)).take (HT.sIx xs.length xs.length hi - HT.sIx xs.length 0 lo),Heap.get?_push_size _ rfl⟩
def flatV:V→Bool
 | .non=>true
 | .bl _=>true
 | .int _=>true
 | .str _=>true
 | _=>false
def eqV:V→V→Bool
 | .non,.non=>true
 | .bl a,.bl b=>a == b
 | .bl a,.int b=>(if a then 1 else 0) == b
 | .int a,.bl b=>a == (if b then 1 else 0)
 | .int a,.int b=>a == b
 | .str a,.str b=>a == b
 | _,_=>false
theorem eqAt_V {A:Around} {s:Shared} {y x:V} {u v:Value} (ry:RelV y u) (rx:RelV x v) (fy:flatV y=true) (fx:flatV x=true):SeqAt.EqAt A s u v (eqV y x):=by
 cases y with
 | non=>
  cases ry
  cases x with
  | non=>cases rx;exact SeqAt.EqAt.same _
  | bl b=>cases rx;exact SeqAt.EqAt.none_bool b
  | int b=>obtain ⟨t,rfl⟩:=rx;exact SeqAt.EqAt.none_int b t
  | str b=>obtain ⟨t,rfl⟩:=rx;exact SeqAt.EqAt.none_str b t
  | _=>exact absurd (show false=true from fx) Bool.false_ne_true
 | bl a=>
  cases ry
  cases x with
  | non=>cases rx;exact SeqAt.EqAt.bool_none a
  | bl b=>cases rx;exact SeqAt.EqAt.bool_bool a b
  | int b=>obtain ⟨t,rfl⟩:=rx;exact SeqAt.EqAt.bool_int a b t
  | str b=>obtain ⟨t,rfl⟩:=rx;exact SeqAt.EqAt.bool_str a b t
  | _=>exact absurd (show false=true from fx) Bool.false_ne_true
 | int a=>
  obtain ⟨t',rfl⟩:=ry
  cases x with
  | non=>cases rx;exact SeqAt.EqAt.int_none a t'
  | bl b=>cases rx;exact SeqAt.EqAt.int_bool a t' b
  | int b=>obtain ⟨t,rfl⟩:=rx;exact SeqAt.EqAt.int_int a t' b t
  | str b=>obtain ⟨t,rfl⟩:=rx;exact SeqAt.EqAt.int_str a t' b t
  | _=>exact absurd (show false=true from fx) Bool.false_ne_true
 | str a=>
  obtain ⟨t',rfl⟩:=ry
  cases x with
  | non=>cases rx;exact SeqAt.EqAt.str_none a t'
  | bl b=>cases rx;exact SeqAt.EqAt.str_bool a t' b
  | int b=>obtain ⟨t,rfl⟩:=rx;exact SeqAt.EqAt.str_int a t' b t
  | str b=>obtain ⟨t,rfl⟩:=rx;exact SeqAt.EqAt.str_str a t' b t
  | _=>exact absurd (show false=true from fx) Bool.false_ne_true
 | _=>exact absurd (show false=true from fy) Bool.false_ne_true
def eqU (x:V) (u:Value):Bool:=match u with
 | .none=>eqV .non x
 | .bool b=>eqV (.bl b) x
 | .int i _=>eqV (.int i) x
 | .str z _=>eqV (.str z) x
 | _=>false
theorem eqU_of {x y:V} {u:Value} (r:RelV y u) (f:flatV y=true):eqU x u=eqV y x:=by
 cases y with
 | non=>cases r;rfl
 | bl b=>cases r;rfl
 | int i=>obtain ⟨t,rfl⟩:=r;rfl
 | str z=>obtain ⟨t,rfl⟩:=r;rfl
 | _=>exact absurd (show false=true from f) Bool.false_ne_true
theorem any_eqU {x:V}:∀ {xs:List V} {us:List Value},Vals xs us→xs.all flatV=true→us.any (eqU x)=xs.any fun y=>eqV y x
 | _,_,.nil,_=>rfl
 | y :: xs,u :: us,.cons r t,f=>by
  rw [List.all_cons,Bool.and_eq_true] at f
  rw [List.any_cons,List.any_cons,eqU_of r f.1,any_eqU t f.2]
theorem mem_eqAt {A:Around} {s:Shared} {x:V} {v:Value} (rx:RelV x v) (fx:flatV x=true):∀ {xs:List V} {us:List Value},Vals xs us→xs.all flatV=true→∀ u∈us,SeqAt.EqAt A s u v (eqU x u)
 | _,_,.nil,_=>fun u hu=>by cases hu
 | y :: xs,u :: us,.cons r t,f=>fun u' hu=>by
  rw [List.all_cons,Bool.and_eq_true] at f
  rcases List.mem_cons.mp hu with rfl | hu
  ·rw [eqU_of r f.1];exact eqAt_V r rx f.1 fx
  ·exact mem_eqAt rx fx t f.2 u' hu
def inV (x:V) (xs:List V):Bool:=xs.any fun y=>eqV y x
def rIn (K:PySem.W.Frag) (neg:Bool):R2:=fun x y H Q=>∃ p xs,y=.ref p∧(SqL K H p xs∨SqT K H p xs)∧flatV x=true∧xs.all flatV=true∧Q (.bl (if neg then !inV x xs else inV x xs)) H
theorem op_in_seq:OpR X (compareOp .In) (rIn X.K false):=by
 intro pins s σ H x y v u Q I rx ry h
 obtain ⟨p,xs,rfl,hq,fx,fs,q⟩:=h
 cases ry
 rcases hq with hq | hq
 ·obtain ⟨its,r,pl,hz⟩:=I.list hq
  refine SeqAt.in_listAt (eqU x) pl.isList (fun w hw=>mem_eqAt rx fx r fs w (by simpa using hw)) ⟨.bl _,H,I,rfl,?_⟩
  rw [show its.toArray.any (eqU x)=its.any (eqU x) by simp,any_eqU r fs]
  exact q
 ·obtain ⟨its,r,pl,hz⟩:=I.tuple hq
  refine SeqAt.in_tupleAt (eqU x) pl (fun w hw=>mem_eqAt rx fx r fs w (by simpa using hw)) ⟨.bl _,H,I,rfl,?_⟩
  rw [show its.toArray.any (eqU x)=its.any (eqU x) by simp,any_eqU r fs]
  exact q
theorem call_len_seq:CallR X (.builtin "len") (fun xs H Q=>∃ p ys,xs=[.ref p]∧(SqL X.K H p ys∨SqT X.K H p ys)∧Q (.int ys.length) H):=by
 intro pins s σ H xs us Q I r h
 obtain ⟨p,ys,rfl,hq,q⟩:=h
 obtain ⟨u,rfl,rx⟩:=vals1 r
 cases rx
 have hn:=line63
 rcases hq with hq | hq
 ·obtain ⟨its,r',pl,hz⟩:=I.list hq
  have hlen:=r'.length
  exact Calls.call_len_list pl.isList (by simp only [List.size_toArray] <;> omega) ⟨.int ys.length,H,I.tok _,⟨s.toks+1,by rw [List.size_toArray,hlen]⟩,q⟩
 ·obtain ⟨its,r',pl,hz⟩:=I.tuple hq
  have hlen:=r'.length
  exact len_tuple pl (by simp only [List.size_toArray] <;> omega) ⟨.int ys.length,H,I.tok _,⟨s.toks+1,by rw [List.size_toArray,hlen]⟩,q⟩
theorem call_list_of:CallR X (.type "list") (fun xs H Q=>∃ p ys,xs=[.ref p]∧(SqL X.K H p ys∨SqT X.K H p ys)∧∀ l,H l=none→Q (.ref l) (upd H l (.lst ys))):=by
 intro pins s σ H xs us Q I r h
 obtain ⟨p,ys,rfl,hq,q⟩:=h
 obtain ⟨u,rfl,rx⟩:=vals1 r
 cases rx
 have fin:∀ (its:List Value),Vals ys its→ys.length≤sizeLine→∀ (h':Heap) (c':Nat),(∀ b o',s.heap.get? b=some o'→h'.get? b=some o')→
   h'.get? s.heap.objs.size=some { cls:=.type "list",dict:=none,data:=.seq its.toArray c',slots:=#[] }→EP X pins σ Q (.ref s.heap.objs.size) { s with heap:=h' }:=fun its r' hz h' c' kp e=>
  ⟨.ref s.heap.objs.size,_,I.laid (t':=s.toks) kp (Nat.le_refl _) (show ObjOk X.prog X.w _ h' _ (.lst ys) from ⟨hz,its,c',r',e⟩),rfl,q _ (I.hok.fresh (Nat.le_refl _))⟩
 rcases hq with hq | hq
 ·obtain ⟨its,r',pl,hz⟩:=I.list hq
  have hlen:=r'.length
  obtain ⟨o,ho,hc,n,hd⟩:=pl.isList
  exact call_list_seq p (.inl rfl) ho hc hd (fun h' c' kp e=>fin its r' hz h' c' kp e) (by simp only [List.size_toArray] <;> omega)
 ·obtain ⟨its,r',pl,hz⟩:=I.tuple hq
  have hlen:=r'.length
  obtain ⟨o,ho,hc,n,hd⟩:=pl
  exact call_list_seq p (.inr rfl) ho hc hd (fun h' c' kp e=>fin its r' hz h' c' kp e) (by simp only [List.size_toArray] <;> omega)
theorem call_tuple_of:CallR X (.type "tuple") (fun xs H Q=>∃ p ys,xs=[.ref p]∧((SqL X.K H p ys∧∀ l,H l=none→Q (.ref l) (upd H l (.tup ys)))∨(SqT X.K H p ys∧Q (.ref p) H))):=by
 intro pins s σ H xs us Q I r h
 obtain ⟨p,ys,rfl,h⟩:=h
 obtain ⟨u,rfl,rx⟩:=vals1 r
 cases rx
 rcases h with ⟨hq,q⟩ | ⟨hq,q⟩
 ·obtain ⟨its,r',pl,hz⟩:=I.list hq
  have hlen:=r'.length
  refine call_tuple_list pl.isList (fun h' kp=>?_) (by simp only [List.size_toArray] <;> omega)
  have I1:Inv X pins σ H { s with heap:=h' }:=I.kept (t':=s.toks) kp
  have I2:Inv X pins σ (upd H h'.objs.size (.tup ys)) { s with heap:=h'.push { cls:=.type "tuple",data:=.seq its.toArray } }:=
   I1.laid (t':=s.toks) (fun b o e=>Heap.get?_push_of_some _ e) (Nat.le_refl _) (show ObjOk X.prog X.w _ _ _ (.tup ys) from ⟨hz,its,r',IsTup.new _ _⟩)
  exact ⟨.ref h'.objs.size,_,I2,rfl,q _ (I1.hok.fresh (Nat.le_refl _))⟩
 ·obtain ⟨its,r',pl,hz⟩:=I.tuple hq
  exact call_tuple_same pl ⟨.ref p,H,I,rfl,q⟩
def tyV (K:PySem.W.Frag) (T:String) (x:V) (H:Hp):Prop:=match x with
 | .str _=>T = "str"
 | .int _=>T = "int"
 | .ref p=>(T = "list"∧∃ xs,SqL K H p xs)∨(T = "tuple"∧∃ o,K.lookup p=some o∧o.cls=.type "tuple"∧o.dict=none)∨
   (T = "dict"∧((∃ kvs,H p=some (.dK kvs))∨∃ kvs,H p=some (.dT kvs)))∨(T = "set"∧∃ S n,H p=some (.set S n))
 | _=>False
theorem tyV_is {pins:List (Addr×Obj)} {σ:St} {H:Hp} {s:Shared} {T:String} {x:V} {v:Value} (I:Inv X pins σ H s) (r:RelV x v) (ty:tyV X.K T x H) :
  s.TypeIs v T∧∀ a,v=.ref a→∃ ob,s.heap.get? a=some ob∧ob.dict=none:=by
 cases x with
 | str z=>
  obtain ⟨t,rfl⟩:=r
  cases (show T = "str" from ty)
  exact ⟨typeIs_str s z t,fun _ e=>nomatch e⟩
 | int i=>
  obtain ⟨t,rfl⟩:=r
  cases (show T = "int" from ty)
  exact ⟨typeIs_int s i t,fun _ e=>nomatch e⟩
 | ref p=>
  cases r
  rcases ty with ⟨rfl,xs,hq⟩ | ⟨rfl,o,hk,hc,hd⟩ | ⟨rfl,hk⟩ | ⟨rfl,S,n,hk⟩
  ·obtain ⟨its,_,pl,_⟩:=I.list hq
   refine ⟨pl.isList.typeIs,fun a e=>?_⟩
   cases e
   obtain ⟨o,n,e,c,hd,_⟩:=pl
   exact ⟨o,e,hd⟩
  ·refine ⟨⟨o,I.kIn p o hk,hc⟩,fun a e=>?_⟩
   cases e
   exact ⟨o,I.kIn _ o hk,hd⟩
  ·have z:∃ o,s.heap.get? p=some o∧o.ExactDict:=by
    rcases hk with ⟨kvs,hk⟩ | ⟨kvs,hk⟩
    ·obtain ⟨_,_,_,_,o,_,_,e,ex,_⟩:=I.hok p _ hk
     exact ⟨o,e,ex⟩
    ·obtain ⟨_,_,_,_,o,_,_,e,ex,_⟩:=I.hok p _ hk
     exact ⟨o,e,ex⟩
   obtain ⟨o,e,ex⟩:=z
   refine ⟨⟨o,e,ex.1⟩,fun a e2=>?_⟩
   cases e2
   exact ⟨o,e,ex.2.1⟩
  ·obtain ⟨o,_,_,_,e,ex,_⟩:=I.hok p _ hk
   refine ⟨⟨o,e,ex.1⟩,fun a e2=>?_⟩
   cases e2
   exact ⟨o,e,ex.2.1⟩
 | _=>exact False.elim ty
def tBM (K:PySem.W.Frag) (T:String) (r:V→List V→Hp→VK→Prop) (to:TE) (t:TA):TE:=fun σ H Q=>to σ H fun x H1=>tyV K T x H1∧t σ H1 fun xs H2=>r x xs H2 Q
variable {o e:Expr} {es:List Expr} {to:TE} {t:TA} {name:Str} {apos cpos:Pos} {T id:String} {r:V→List V→Hp→VK→Prop}
theorem pe_bm (pa:PlainAttrs T) (slot:Slot T name id) (hty:typeOf (.builtin id)=pure (.type "method_descriptor")) (hm:MtR X id r) (ho:PE X o to) (ha:PA X (e :: es) t)
  (hbase:attributeBase o name X.env (eval o X.env)=eval o X.env:=by rfl)
  (hfew:((backTo cpos (starEach (e :: es) X.env)).all (fun x=>!x.1) && (backToKw cpos (keywordEach [] X.env)).all (fun x=>x.1.isSome)
   && decide ((e :: es).length+([]:List Keyword).length+(if ([]:List Keyword).isEmpty then 0 else 1) < 30))=true:=by rfl)
  (hline:(apos.endLine == cpos.line)=true:=by rfl) (hs:starEach (e :: es) X.env=(false,eval e X.env) :: starEach es X.env:=by rfl) (hplain:(backTo cpos (starEach es X.env)).any (·.1)=false:=by rfl) :
  PE X (.Call (.Attribute o name apos) (e :: es) [] cpos) (tBM X.K T r to t):=by
 intro pins s σ H Q I h
 refine wpAny_Call_method_late hbase hfew hline rfl (thn (ho pins s σ H _ I h) fun v s1 ⟨x,H1,I1,r1,ty,q1⟩=>?_)
 obtain ⟨h1,h2⟩:=tyV_is I1 r1 ty
 refine ⟨T,id,pa,slot,hty,h1,h2,?_⟩
 have hA:=ha cpos pins s1 σ H1 _ I1 q1
 rw [hs] at hA ⊢
 refine Calls.callWith_builtin (by show (false || (backTo cpos (starEach es X.env)).any (·.1))=false;rw [hplain] <;> rfl) (Calls.evalArgs_plain ?_)
 exact thn hA fun us s2 ⟨vs,H2,I2,r2,q2⟩=>hm pins s2 σ H2 x vs v us Q I2 r1 r2 q2
end
open PySem PySem.Spec PyProof.Rows
def MtM (X:Cx) (id:String) (r:V→List V→Hp→VK→Prop):Prop:=
 ∀ (pins:List (Addr×Obj)) (s:Shared) (σ:St) (H:Hp) (x:V) (xs:List V) (v:Value) (us:List Value) (Q:VK),Inv X pins σ H s→RelV x v→Vals xs us→r x xs H Q→
  wpAny (model X.prog X.w) X.A (call (.builtin id) (v :: us)) (EP X pins σ Q) X.xe s
theorem Vals.one:∀ {x:V} {us:List Value},Vals [x] us→∃ u,us=[u]∧RelV x u
 | _,_,.cons r .nil=>⟨_,rfl,r⟩
theorem Vals.two:∀ {x y:V} {us:List Value},Vals [x,y] us→∃ u v,us=[u,v]∧RelV x u∧RelV y v
 | _,_,_,.cons r (.cons q .nil)=>⟨_,_,rfl,r,q⟩
theorem Vals.zero:∀ {us:List Value},Vals [] us→us=[]
 | _,.nil=>rfl
theorem Vals.eraseIdx:∀ {xs:List V} {us:List Value} (i:Nat),Vals xs us→Vals (xs.eraseIdx i) (us.eraseIdx i)
 | _,_,_,.nil=>.nil
 | _,_,0,.cons _ t=>t
 | _,_,i+1,.cons r t=>.cons r (Vals.eraseIdx i t)
theorem Vals.reverse {xs:List V} {us:List Value} (h:Vals xs us):Vals xs.reverse us.reverse:=by
 induction h with
 | nil=>exact .nil
 | cons r t ih=>rw [List.reverse_cons,List.reverse_cons];exact Vals.append ih (.cons r .nil)
section
variable {X:Cx} {pins:List (Addr×Obj)} {σ:St} {H:Hp} {s:Shared} {l b:Addr} {xs ys zs:List V}
theorem Inv.lset {its its':List Value} {n:Nat} {f:Array Value→Array Value} {t':Nat} (I:Inv X pins σ H s) (hH:H l=some (.lst xs))
  (e:s.heap.get? l=some { cls:=.type "list",data:=.seq its.toArray n }) (hf:f its.toArray=its'.toArray) (hv:Vals ys its') (hz:ys.length≤sizeLine) :
  Inv X pins σ (upd H l (.lst ys)) { s with heap:=s.heap.update l (Obj.mapSeq f),toks:=t' }:=by
 have q:=PySem.IsL.update e f
 rw [hf] at q
 refine I.write (x:=l) (e:=l) (by rw [hH];exact trivial) (.inl rfl) (fun b' u hb hu=>(Heap.get?_update_other s.heap (Obj.mapSeq f) (Ne.symm hb)).trans hu) ⟨_,q⟩ ?_
 exact ⟨hz,its',_,hv,q⟩
theorem Inv.lnew {its:List Value} {t':Nat} (I:Inv X pins σ H s) (hv:Vals ys its) (hz:ys.length≤sizeLine) :
  Inv X pins σ (upd H s.heap.objs.size (.lst ys)) { s with heap:=s.heap.push { cls:=.type "list",data:=.seq its.toArray },toks:=t' }:=
 I.laid (fun _ _ q=>Heap.get?_push_of_some _ q) (Nat.le_refl _) ⟨hz,its,0,hv,Heap.get?_push_size _ rfl⟩
theorem Inv.fresh (I:Inv X pins σ H s):H s.heap.objs.size=none:=I.hok.fresh (Nat.le_refl _)
theorem Inv.lstM (I:Inv X pins σ H s) (hH:H l=some (.lst xs)):xs.length≤sizeLine∧∃ (its:List Value) (n:Nat),Vals xs its∧xs.length=its.length∧s.heap.get? l=some { cls:=.type "list",data:=.seq its.toArray n }:=by
 obtain ⟨z,its,n,r,e⟩:=I.hok l _ hH
 exact ⟨z,its,n,r,r.length,e⟩
theorem notLongL {n:Nat} (h:n≤sizeLine):Builtin.List.listTooLong n=false:=by
 unfold Builtin.List.listTooLong
 exact decide_eq_false (by omega)
end
section
variable {X:Cx}
def rAppend:V→List V→Hp→VK→Prop:=fun x vs H Q=>∃ l xs y,x=.ref l∧vs=[y]∧H l=some (.lst xs)∧xs.length < sizeLine∧Q .non (upd H l (.lst (xs++[y])))
theorem mt_append:MtM X "list.append" rAppend:=by
 intro pins s σ H x vs v us Q I rx rv h
 obtain ⟨l,xs,y,rfl,rfl,hH,hz,q⟩:=h
 cases rx
 obtain ⟨u,rfl,ru⟩:=rv.one
 obtain ⟨z,its,n,r,hl,e⟩:=I.lstM hH
 refine call_meets F.slot_list_append ⟨_,e,rfl⟩ F.entry_list_append (F.args_list_append_2 _ _) (PySem.list_append l its.toArray n u (by rw [List.size_toArray];omega)) ⟨e,?_⟩
 refine ⟨.non,_,I.lset (its':=its++[u]) hH e (by simp) (r.append (.cons ru .nil)) ?_,rfl,q⟩
 rw [List.length_append,List.length_singleton]
 omega
def rExtend:V→List V→Hp→VK→Prop:=fun x vs H Q=>∃ l b xs zs,x=.ref l∧vs=[.ref b]∧H l=some (.lst xs)∧H b=some (.lst zs)∧xs.length+zs.length≤sizeLine∧Q .non (upd H l (.lst (xs++zs)))
theorem mt_extend:MtM X "list.extend" rExtend:=by
 intro pins s σ H x vs v us Q I rx rv h
 obtain ⟨l,b,xs,zs,rfl,rfl,hH,hB,hz,q⟩:=h
 cases rx
 obtain ⟨u,rfl,ru⟩:=rv.one
 cases ru
 obtain ⟨z,its,n,r,hl,e⟩:=I.lstM hH
 obtain ⟨z2,its2,n2,r2,hl2,e2⟩:=I.lstM hB
 have hsz:its.toArray.size+its2.toArray.size≤sizeLine:=by rw [List.size_toArray,List.size_toArray];omega
 have hlong:¬ (!its.toArray.isEmpty && Builtin.List.listTooLong (its.toArray.size+its2.toArray.size))=true:=by
  rw [notLongL hsz,Bool.and_false]
  exact Bool.false_ne_true
 refine call_meets F.slot_list_extend ⟨_,e,rfl⟩ F.entry_list_extend (F.args_list_extend_2 _ _)
  (AutoSeq1.list_extend_list_list_0 l its.toArray n b its2.toArray n2 hlong (by rw [List.size_toArray];omega) (by omega)) ⟨e,e2,?_⟩
 refine ⟨.non,_,I.lset (its':=its++its2) hH e (by simp) (r.append r2) ?_,rfl,q⟩
 rw [List.length_append]
 omega
end
section
variable {prog:Program} {w:World} {A:Around} {E:Value→Shared→Prop} {s:Shared}
end
section
variable {X:Cx}
end
open PySem PySem.Spec PyProof.Rows
section
variable {κ:Type} [DecidableEq κ]
def valV (kvs:List (κ×V)) (k:κ):Option V:=(kvs.find? fun kv=>decide (kv.1=k)).map (·.2)
def putK (kvs:List (κ×V)) (k:κ) (v:V):List (κ×V):=
 if (kvs.any fun kv=>decide (kv.1=k))=true then kvs.map (fun kv=>if kv.1=k then (kv.1,v) else kv) else kvs++[(k,v)]
theorem valV_pos {p:κ×V} {r:List (κ×V)} {k:κ} (e:p.1=k):valV (p :: r) k=some p.2:=by simp [valV,List.find?_cons,e]
theorem valV_neg {p:κ×V} {r:List (κ×V)} {k:κ} (e:¬ p.1=k):valV (p :: r) k=valV r k:=by simp [valV,List.find?_cons,e]
theorem valV_any (k:κ):∀ kvs:List (κ×V),(kvs.any fun kv=>decide (kv.1=k))=(valV kvs k).isSome
 | []=>rfl
 | p :: r=>by
  rw [List.any_cons]
  by_cases e:p.1=k
  ·simp only [valV_pos e,decide_eq_true e,Bool.true_or,Option.isSome_some]
  ·rw [valV_neg e,decide_eq_false e,Bool.false_or];exact valV_any k r
theorem length_putK (kvs:List (κ×V)) (k:κ) (v:V):(putK kvs k v).length≤kvs.length+1:=by
 unfold putK
 split
 ·rw [List.length_map];omega
 ·rw [List.length_append,List.length_cons,List.length_nil];omega
theorem RelO.isSome_eq {o:Option V} {u:Option Value} (r:RelO o u):o.isSome=u.isSome:=by
 cases o with
 | none=>cases u with
  | none=>rfl
  | some _=>exact (show False from r).elim
 | some _=>cases u with
  | none=>exact (show False from r).elim
  | some _=>rfl
theorem RelO.getD {o:Option V} {u:Option Value} {d:V} {d':Value} (r:RelO o u) (rd:RelV d d'):RelV (o.getD d) (u.getD d'):=by
 cases o with
 | none=>cases u with
  | none=>exact rd
  | some _=>exact (show False from r).elim
 | some _=>cases u with
  | none=>exact (show False from r).elim
  | some _=>exact r
theorem KV.val {kvs:List (κ×V)} {vs:List (κ×Value)} (r:KV kvs vs) (k:κ):RelO (valV kvs k) (valueAt vs k):=by
 unfold KV at r
 induction r with
 | nil=>exact True.intro
 | @cons p q ps qs h t ih=>
  obtain ⟨h1,h2⟩:=h
  by_cases e:p.1=k
  ·have e':q.1=k:=h1.symm.trans e
   have b:valueAt (q :: qs) k=some q.2:=by simp [valueAt,List.find?_cons,e']
   rw [valV_pos e,b];exact h2
  ·have e':¬ q.1=k:=fun z=>e (h1.trans z)
   have b:valueAt (q :: qs) k=valueAt qs k:=by simp [valueAt,List.find?_cons,e']
   rw [valV_neg e,b];exact ih
theorem KV.any {kvs:List (κ×V)} {vs:List (κ×Value)} (r:KV kvs vs) (k:κ):(kvs.any fun kv=>decide (kv.1=k))=vs.any fun kv=>decide (kv.1=k):=by
 unfold KV at r
 induction r with
 | nil=>rfl
 | cons h t ih=>rw [List.any_cons,List.any_cons,ih,h.1]
theorem KV.repl {kvs:List (κ×V)} {vs:List (κ×Value)} (r:KV kvs vs) (k:κ) {y:V} {u:Value} (ry:RelV y u) :
  KV (kvs.map fun kv=>if kv.1=k then (kv.1,y) else kv) (vs.map fun kv=>if kv.1=k then (kv.1,u) else kv):=by
 unfold KV at r ⊢
 induction r with
 | nil=>exact .nil
 | @cons p q ps qs h t ih=>
  rw [List.map_cons,List.map_cons]
  refine .cons ?_ ih
  obtain ⟨h1,h2⟩:=h
  by_cases e:p.1=k
  ·rw [if_pos e,if_pos (h1.symm.trans e)];exact ⟨h1,ry⟩
  ·rw [if_neg e,if_neg (fun z=>e (h1.trans z))];exact ⟨h1,h2⟩
theorem KV.put {kvs:List (κ×V)} {vs:List (κ×Value)} (r:KV kvs vs) (k:κ) {y:V} {u:Value} (ry:RelV y u):KV (putK kvs k y) (stored vs k u):=by
 unfold putK stored
 rw [r.any k]
 by_cases e:(vs.any fun kv=>decide (kv.1=k))=true
 ·rw [if_pos e,if_pos e];exact r.repl k ry
 ·rw [if_neg e,if_neg e];exact Paired.snoc r ⟨rfl,ry⟩
theorem KV.keys {kvs:List (κ×V)} {vs:List (κ×Value)} (r:KV kvs vs):kvs.map (·.1)=vs.map (·.1):=by
 unfold KV at r
 induction r with
 | nil=>rfl
 | cons h t ih=>rw [List.map_cons,List.map_cons,ih,h.1]
theorem KV.length {kvs:List (κ×V)} {vs:List (κ×Value)} (r:KV kvs vs):kvs.length=vs.length:=Paired.length r
end
theorem kV_is {P:Program} {w:World} {k:Key} {u:Value} (r:RelV (kV k) u):(mixKind P w).is k u=true:=by
 cases k with
 | inl i=>obtain ⟨t,e⟩:=(show ∃ t,u=Value.int i t from r);subst e;exact mixKind_int P w i t
 | inr x=>obtain ⟨t,e⟩:=(show ∃ t,u=Value.str x t from r);subst e;exact mixKind_str P w x t
theorem items_are {P:Program} {w:World}:∀ {ks:List Key} {us:List Value},Vals (ks.map kV) us→ItemsAre (mixKind P w) ks us
 | [],_,r=>by rw [List.map_nil] at r;cases r;exact .nil
 | k :: ks,_,r=>by
  rw [List.map_cons] at r
  cases r with
  | cons h t=>exact .cons (kV_is h) (items_are t)
abbrev KT (H:Hp):List (List Key×V)→List (List Key×Addr×Value)→Prop:=Paired fun p q=>p.1=q.1∧H q.2.1=some (.tup (p.1.map kV))∧RelV p.2 q.2.2
theorem KT.val {H:Hp} {kvs:List (List Key×V)} {xs:List (List Key×Addr×Value)} (r:KT H kvs xs) (k:List Key):RelO (valV kvs k) ((atKey xs k).map (·.2)):=by
 induction r with
 | nil=>exact True.intro
 | @cons p q ps qs h t ih=>
  obtain ⟨h1,_,h2⟩:=h
  by_cases e:p.1=k
  ·have e':q.1=k:=h1.symm.trans e
   have b:atKey (q :: qs) k=some q.2:=by simp [atKey,List.find?_cons,e']
   rw [valV_pos e,b];exact h2
  ·have e':¬ q.1=k:=fun z=>e (h1.trans z)
   have b:atKey (q :: qs) k=atKey qs k:=by simp [atKey,List.find?_cons,e']
   rw [valV_neg e,b];exact ih
theorem KT.repl {H:Hp} {kvs:List (List Key×V)} {xs:List (List Key×Addr×Value)} (r:KT H kvs xs) (k:List Key) {y:V} {u:Value} (ry:RelV y u) :
  KT H (kvs.map fun kv=>if kv.1=k then (kv.1,y) else kv) (xs.map (putAt k u)):=by
 induction r with
 | nil=>exact .nil
 | @cons p q ps qs h t ih=>
  rw [List.map_cons,List.map_cons]
  refine .cons ?_ ih
  obtain ⟨h1,h2,h3⟩:=h
  unfold putAt
  by_cases e:p.1=k
  ·rw [if_pos e,if_pos (h1.symm.trans e)];exact ⟨h1,h2,ry⟩
  ·rw [if_neg e,if_neg (fun z=>e (h1.trans z))];exact ⟨h1,h2,h3⟩
theorem KT.put {H:Hp} {kvs:List (List Key×V)} {xs:List (List Key×Addr×Value)} (r:KT H kvs xs) (k:List Key) {b:Addr} {y:V} {u:Value} (hb:H b=some (.tup (k.map kV))) (ry:RelV y u) :
  KT H (putK kvs k y) (storedH xs k b u):=by
 have e:(kvs.any fun kv=>decide (kv.1=k))=(atKey xs k).isSome:=by
  rw [valV_any,(r.val k).isSome_eq,Option.isSome_map]
 unfold putK storedH
 rw [e]
 by_cases q:(atKey xs k).isSome=true
 ·rw [if_pos q,if_pos q];exact r.repl k ry
 ·rw [if_neg q,if_neg q];exact Paired.snoc r ⟨rfl,hb,ry⟩
theorem KT.keeps {H H':Hp} {kvs:List (List Key×V)} {xs:List (List Key×Addr×Value)} (r:KT H kvs xs) (ht:∀ b ys,H b=some (.tup ys)→H' b=some (.tup ys)):KT H' kvs xs:=
 Paired.mapP r fun _ _ z=>⟨z.1,ht _ _ z.2.1,z.2.2⟩
section
variable {P:Program} {w:World} {H:Hp} {h:Heap} {a:Addr}
theorem rd_of {u:HO} (ok:HOk P w H h) (e:Rd H a u):ObjOk P w H h a u:=e.ok ok
theorem dk_rd {kvs:List (Key×V)} (ok:HOk P w H h) (e:Rd H a (.dK kvs)):kvs.length≤sizeLine∧(a == sysModules)=false∧∃ vs,KV kvs vs∧h.DictOf (mixKind P w) a vs:=
 show ObjOk P w H h a (.dK kvs) from rd_of ok e
theorem dk_of {kvs:List (Key×V)} (ok:HOk P w H h) (e:H a=some (.dK kvs)):kvs.length≤sizeLine∧(a == sysModules)=false∧∃ vs,KV kvs vs∧h.DictOf (mixKind P w) a vs:=dk_rd ok (.inl e)
theorem key_of {ks:List Key} (ok:HOk P w H h) (e:H a=some (.tup (ks.map kV))):(tupleKind (mixKind P w)).is h ks a:=by
 obtain ⟨_,its,r,o,h1,h2,n,h3⟩:=(show ObjOk P w H h a (.tup (ks.map kV)) from ok a _ e)
 exact ⟨o,its.toArray,n,h1,h2,h3,by simpa using items_are r⟩
theorem dt_rd {kvs:List (List Key×V)} (ok:HOk P w H h) (e:Rd H a (.dT kvs)):kvs.length≤sizeLine∧(a == sysModules)=false∧
  ∃ xs,KT H kvs xs∧h.DictOfH (tupleKind (mixKind P w)) a xs:=by
 obtain ⟨z,y,xs,r,o,es,ep,h1,h2,h3,h4,h5⟩:=(show ObjOk P w H h a (.dT kvs) from rd_of ok e)
 refine ⟨z,y,xs,r,o,es,ep,h1,h2,h3,h4,fun x hx=>?_,h5⟩
 have all:∀ {l:List (List Key×V)} {m:List (List Key×Addr×Value)},KT H l m→∀ x∈m,(tupleKind (mixKind P w)).is h x.1 x.2.1:=by
  intro l m q
  induction q with
  | nil=>intro x hx;exact nomatch hx
  | @cons p q ps qs hq t ih=>
   intro x hx
   rcases List.mem_cons.mp hx with e | hx
   ·subst e
    exact key_of ok (by rw [← hq.1];exact hq.2.1)
   ·exact ih x hx
 exact all r x hx
theorem dt_of {kvs:List (List Key×V)} (ok:HOk P w H h) (e:H a=some (.dT kvs)):kvs.length≤sizeLine∧(a == sysModules)=false∧
  ∃ xs,KT H kvs xs∧h.DictOfH (tupleKind (mixKind P w)) a xs:=dt_rd ok (.inl e)
end
def DGet (H:Hp) (a:Addr) (y:V) (r:Option V):Prop:=
 (∃ kvs k,Rd H a (.dK kvs)∧y=kV k∧r=valV kvs k)∨∃ kvs k b,Rd H a (.dT kvs)∧y=.ref b∧H b=some (.tup (k.map kV))∧r=valV kvs k
def DPut (H:Hp) (a:Addr) (y v:V) (H':Hp):Prop:=
 (∃ kvs k,H a=some (.dK kvs)∧y=kV k∧kvs.length < sizeLine∧H'=upd H a (.dK (putK kvs k v)))∨
 ∃ kvs k b,H a=some (.dT kvs)∧y=.ref b∧H b=some (.tup (k.map kV))∧kvs.length < sizeLine∧H'=upd H a (.dT (putK kvs k v))
theorem DGet.k {H:Hp} {a:Addr} {kvs:List (Key×V)} {k:Key} (e:H a=some (.dK kvs)):DGet H a (kV k) (valV kvs k):=.inl ⟨kvs,k,.inl e,rfl,rfl⟩
theorem DGet.t {H:Hp} {a b:Addr} {kvs:List (List Key×V)} {k:List Key} (e:H a=some (.dT kvs)) (eb:H b=some (.tup (k.map kV))):DGet H a (.ref b) (valV kvs k):=.inr ⟨kvs,k,b,.inl e,rfl,eb,rfl⟩
theorem DPut.k {H:Hp} {a:Addr} {kvs:List (Key×V)} {k:Key} {v:V} (e:H a=some (.dK kvs)) (hl:kvs.length < sizeLine):DPut H a (kV k) v (upd H a (.dK (putK kvs k v))):=.inl ⟨kvs,k,e,rfl,hl,rfl⟩
theorem DPut.t {H:Hp} {a b:Addr} {kvs:List (List Key×V)} {k:List Key} {v:V} (e:H a=some (.dT kvs)) (eb:H b=some (.tup (k.map kV))) (hl:kvs.length < sizeLine) :
  DPut H a (.ref b) v (upd H a (.dT (putK kvs k v))):=.inr ⟨kvs,k,b,e,rfl,eb,hl,rfl⟩
section
variable {X:Cx} {pins:List (Addr×Obj)} {σ:St} {H:Hp} {s:Shared} {a:Addr} {y v:V} {u r:Value} {o:Option V} {A:Around} {E:Value→Shared→Prop}
theorem Inv.big (I:Inv X pins σ H s):sysModules < s.heap.objs.size:=by
 have h:mainGlobals < s.heap.objs.size:=(I.mod.glob.keeps I.bk).lt
 exact Nat.lt_trans (by decide) h
theorem d_getItem {Q:Value→Shared→Prop} (hu:A.units+1 < cLine) (I:Inv X pins σ H s) (g:DGet H a y (some v)) (ry:RelV y u) (h:∀ w' s',Inv X pins σ H s'→RelV v w'→Q w' s') :
  wpAny (model X.prog X.w) A (getItem (.ref a) u) Q E s:=by
 rcases g with ⟨kvs,k,e,ey,l⟩ | ⟨kvs,k,b,e,ey,eb,l⟩
 ·subst ey
  obtain ⟨z,hd,vs,rel,dd⟩:=dk_rd I.hok e
  obtain ⟨w',hw,rw'⟩:=RelO.some_of (v:=v) (o:=valueAt vs k) (by rw [l];exact rel.val k)
  exact wpAny_getItem_of (kV_is ry) dd.mapOf hw (h w' _ (I.tok _) rw')
 ·subst ey
  cases (show u=Value.ref b from ry)
  obtain ⟨z,hd,xs,rel,dd⟩:=dt_rd I.hok e
  obtain ⟨w',hw,rw'⟩:=RelO.some_of (v:=v) (o:=(atKey xs k).map (·.2)) (by rw [l];exact rel.val k)
  obtain ⟨p,hp,hp2⟩:=Option.map_eq_some_iff.mp hw
  refine wpAny_getItem_heap (tupleKind_room_in1 hu) (key_of I.hok eb) dd hp ?_
  rw [hp2]
  exact h w' _ (I.tok _) rw'
theorem d_write {h':Heap} {t':Nat} {ob:HO} (I:Inv X pins σ H s) (mu:Mut (H a)) (hs:Heap.SameBut a s.heap h') (he:∃ q,h'.get? a=some q) (new:ObjOk X.prog X.w (upd H a ob) h' a ob) :
  Inv X pins σ (upd H a ob) { s with heap:=h',toks:=t' }:=
 I.write (x:=a) (e:=a) mu (.inl rfl) (fun b q hb z=>(hs.2 b hb).trans z) he new
theorem dk_new {P:Program} {w:World} {H':Hp} {h':Heap} {kvs:List (Key×V)} {vs:List (Key×Value)} (z:kvs.length≤sizeLine) (hd:(a == sysModules)=false) (rel:KV kvs vs) (dd:h'.DictOf (mixKind P w) a vs) :
  ObjOk P w H' h' a (.dK kvs):=⟨z,hd,vs,rel,dd⟩
theorem d_setItem {H':Hp} {Q:Unit→Shared→Prop} (hu:A.units+1 < cLine) (I:Inv X pins σ H s) (g:DPut H a y v H') (ry:RelV y u) (rv:RelV v r) (h:∀ s',Inv X pins σ H' s'→Q () s') :
  wpAny (model X.prog X.w) A (setItem (.ref a) u r) Q E s:=by
 rcases g with ⟨kvs,k,e,ey,l,eH⟩ | ⟨kvs,k,b,e,ey,eb,l,eH⟩
 ·subst ey eH
  obtain ⟨z,hd,vs,rel,dd⟩:=dk_of I.hok e
  have hz:vs.length≤sizeLine:=by rw [← rel.length];exact z
  have hl:(putK kvs k v).length≤sizeLine:=by have:=length_putK kvs k v;omega
  refine wpAny_setItem_pairs (hsz:=hz) (kV_is ry) dd fun h' dd' hs=>h _ ?_
  have he:∃ q,h'.get? a=some q:=let ⟨q,_,_,hq,_⟩:=dd';⟨q,hq⟩
  exact d_write I (by rw [e];exact True.intro) hs he (dk_new hl hd (rel.put k rv) dd')
 ·subst ey eH
  cases (show u=Value.ref b from ry)
  obtain ⟨z,hd,xs,rel,dd⟩:=dt_of I.hok e
  have hz:xs.length≤sizeLine:=by rw [← Paired.length rel];exact z
  have hl:(putK kvs k v).length≤sizeLine:=by have:=length_putK kvs k v;omega
  refine wpAny_setItem_heap (hsz:=hz) (tupleKind_room_in1 hu) (key_of I.hok eb) dd fun h' dd' hs=>h _ ?_
  obtain ⟨q,es,ep,hq,h2,h3,h4,_,h5⟩:=dd'
  refine d_write I (by rw [e];exact True.intro) hs ⟨q,hq⟩ ⟨hl,hd,_,(rel.put k eb rv).keeps fun c ys ec=>?_,q,es,ep,hq,h2,h3,h4,h5⟩
  rw [upd_ne (ne_of ec e (fun z=>nomatch z))]
  exact ec
end
section
variable {X:Cx} {pins:List (Addr×Obj)} {σ:St} {H:Hp} {s:Shared} {a:Addr} {kvs:List (Key×V)} {k:Key} {u:Value} {A:Around} {E:Value→Shared→Prop}
end
def NoSl (i:Expr):Prop:=∀ ov iv,subscripted i false ov iv=operate [ov,iv] (getItem ov iv)
theorem subD_of {prog:Program} {w:World} {A:Around} {E:Value→Shared→Prop} {s:Shared} {env:Env} {value slice:Expr} {pos:Pos} {T id:String} {Q:Value→Shared→Prop}
  (hl:typeLookup (.type T) "__getitem__" = pure (some (.builtin id))) (hs:NoSl slice)
  (h:wpAny (model prog w) A (eval value env) (fun o s₁=>wpAny (model prog w) A (eval slice env) (fun i s₂=>s₂.TypeIs o T∧wpAny (model prog w) A (getItem o i) Q E s₂) E s₁) E s) :
  wpAny (model prog w) A (eval (.Subscript value slice pos) env) Q E s:=by
 refine Subscript_ (wpAny_mono h (fun o s₁ h₁=>wpAny_mono h₁ (fun i s₂ h₂=>?_) fun _ _ x=>x) fun _ _ x=>x)
 obtain ⟨hT,h₂⟩:=h₂
 unfold subscriptTail
 refine wpAny_bind ?_
 rw [getitemInPython_of_ne hT.not_modules]
 refine wpAny_bind (wpAny_specialOf hT hl ?_)
 have fin:wpAny (model prog w) A (subscripted slice false o i) (fun r s₃=>wpAny (model prog w) A (letTemporaryGo value o r >>= fun _=>pure r) Q E s₃) E s₂:=by
  rw [hs o i]
  exact wpAny_operating (wpAny_mono h₂ (fun r s₃ h₃=>wpAny_bind (wpAny_letTemporaryGo (wpAny_pure h₃))) fun _ _ x=>x)
 first
  | exact wpAny_pure (wpAny_bind fin)
  | exact wpAny_bind (wpAny_pure (wpAny_bind fin))
  | exact wpAny_bind fin
theorem dict_typeIs {X:Cx} {pins:List (Addr×Obj)} {σ:St} {H:Hp} {s:Shared} {a:Addr} {y:V} {o:Option V} (I:Inv X pins σ H s) (g:DGet H a y o):s.TypeIs (.ref a) "dict":=by
 rcases g with ⟨kvs,k,e,_,_⟩ | ⟨kvs,k,b,e,_,_,_⟩
 ·obtain ⟨_,_,vs,_,dd⟩:=dk_rd I.hok e
  exact dd.typeIs
 ·obtain ⟨_,_,xs,_,dd⟩:=dt_rd I.hok e
  exact dd.typeIs
def tDGet (td ty:TE):TE:=fun σ H Q=>td σ H fun x H1=>ty σ H1 fun y H2=>∃ a v,x=.ref a∧DGet H2 a y (some v)∧Q v H2
def sDPut (td ty tv:TE):TS:=fun D σ H=>tv σ H fun v H1=>td σ H1 fun x H2=>ty σ H2 fun y H3=>∃ a H4,x=.ref a∧DPut H3 a y v H4∧D.nx σ H4
section
variable {X:Cx} {o i e value:Expr} {pos pos' tpos:Pos} {td ty tv:TE}
theorem pe_dget (hu:X.A.units+1 < cLine) (ho:PE X o td) (hi:PE X i ty) (hs:NoSl i):PE X (.Subscript o i pos) (tDGet td ty):=by
 intro pins s σ H Q I h
 refine subD_of PySem.F.slot_dict_getitem.lookup hs (thn (ho pins s σ H _ I h) fun u s1 ⟨x,H1,I1,rx,q1⟩=>thn (hi pins s1 σ H1 _ I1 q1) fun iv s2 ⟨y,H2,I2,ry,a,v,ex,g,q2⟩=>?_)
 subst ex
 obtain rfl:u=Value.ref a:=rx
 exact ⟨dict_typeIs I2 g,d_getItem hu I2 g ry fun w' s3 I3 rw'=>⟨v,H2,I3,rw',q2⟩⟩
theorem ps_dput (hu:X.A.units+1 < cLine) (ho:PE X o td) (hi:PE X i ty) (hv:PE X value tv) (hs:swapsWith value (some (.Subscript o i pos')) pos.line X.env=pure false) :
  PS X (.Assign [.Subscript o i pos'] value pos) (sDPut td ty tv):=by
 intro pins s σ H D I h
 refine wpAny_Assign_Subscript (thn (hv pins s σ H _ I h) fun r s1 ⟨v,H1,I1,rv,q1⟩=>thn (ho pins s1 σ H1 _ I1 q1) fun u s2 ⟨x,H2,I2,rx,q2⟩=>thn (hi pins s2 σ H2 _ I2 q2) fun iv s3 ⟨y,H3,I3,ry,a,H4,ex,g,q3⟩=>?_) hs
 subst ex
 obtain rfl:u=Value.ref a:=rx
 exact d_setItem hu I3 g ry rv fun s4 I4=>⟨σ,H4,I4,q3⟩
end
theorem dk_empty {P:Program} {w:World} {H:Hp} (h:Heap) (hb:sysModules < h.objs.size):ObjOk P w H (h.push { cls:=.type "dict",data:=.dict #[] }) h.objs.size (.dK []):=
 ⟨Nat.zero_le _,beq_eq_false_iff_ne.mpr (Ne.symm (Nat.ne_of_lt hb)),[],.nil,Heap.DictOf.new h⟩
def tDNewK:TE:=fun _ H Q=>∀ p,H p=none→Q (.ref p) (upd H p (.dK []))
section
variable {X:Cx} {pos:Pos}
theorem pe_dnewK:PE X (.Dict [] [] pos) tDNewK:=fun pins s σ H Q I h=>
 wpAny_Dict_empty ⟨.ref s.heap.objs.size,_,I.laid (a:=s.heap.objs.size) (o:=.dK []) (t':=s.toks) (fun _ _ q=>Heap.get?_push_of_some _ q) (Nat.le_refl _) (dk_empty s.heap I.big),rfl,h _ (I.hok.fresh (Nat.le_refl _))⟩
end
def mergeK (kvs more:List (Key×V)):List (Key×V):=more.foldl (fun acc kv=>putK acc kv.1 kv.2) kvs
theorem KV.merge:∀ {more:List (Key×V)} {rs:List (Key×Value)} {kvs:List (Key×V)} {vs:List (Key×Value)},KV more rs→KV kvs vs→KV (mergeK kvs more) (merged vs rs):=by
 intro more rs kvs vs r
 unfold KV at r
 induction r generalizing kvs vs with
 | nil=>intro q;exact q
 | @cons p q ps qs h t ih=>
  intro r0
  have e:KV (putK kvs p.1 p.2) (stored vs q.1 q.2):=by
   have:=r0.put p.1 h.2
   rw [← h.1];exact this
  exact ih e
structure M2 (X:Cx) (o:Expr) (m:Str) (apos:Pos) (e f:Expr) (cpos:Pos):Prop where
 base:attributeBase o m X.env (eval o X.env)=eval o X.env
 few:((backTo cpos (starEach [e,f] X.env)).all (fun x=>!x.1) && (backToKw cpos (keywordEach [] X.env)).all (fun x=>x.1.isSome)
  && decide (([e,f]:List Expr).length+([]:List Keyword).length+(if ([]:List Keyword).isEmpty then 0 else 1) < 30))=true
 line:(apos.endLine == cpos.line)=true
 trees:backTo cpos (starEach [e,f] X.env)=[(false,eval e X.env),(false,eval f X.env)]
def IsD (H:Hp) (a:Addr):Prop:=(∃ kvs,Rd H a (.dK kvs))∨∃ kvs,Rd H a (.dT kvs)
theorem isD_at {X:Cx} {pins:List (Addr×Obj)} {σ:St} {H:Hp} {s:Shared} {a:Addr} (I:Inv X pins σ H s) (d:IsD H a) :
  s.TypeIs (.ref a) "dict"∧(∀ b,Value.ref a=.ref b→∃ ob,s.heap.get? b=some ob∧ob.dict=none)∧(a == sysModules)=false:=by
 rcases d with ⟨kvs,e⟩ | ⟨kvs,e⟩
 ·obtain ⟨_,hd,vs,_,dd⟩:=dk_rd I.hok e
  refine ⟨dd.typeIs,fun b q=>?_,hd⟩
  cases q
  obtain ⟨ob,_,_,h1,h2,_⟩:=dd
  exact ⟨ob,h1,h2.2.1⟩
 ·obtain ⟨_,hd,xs,_,dd⟩:=dt_rd I.hok e
  refine ⟨dd.typeIs,fun b q=>?_,hd⟩
  cases q
  obtain ⟨ob,_,_,h1,h2,_⟩:=dd
  exact ⟨ob,h1,h2.2.1⟩
section
variable {X:Cx} {pins:List (Addr×Obj)} {σ:St} {H:Hp} {s:Shared} {a:Addr} {y d:V} {u r:Value} {o:Option V} {A:Around} {E:Value→Shared→Prop}
theorem d_get2 {Q:Value→Shared→Prop} (hu:A.units+1 < cLine) (I:Inv X pins σ H s) (g:DGet H a y o) (ry:RelV y u) (rd:RelV d r) (h:∀ w' s',Inv X pins σ H s'→RelV (o.getD d) w'→Q w' s') :
  wpAny (model X.prog X.w) A (call (.builtin "dict.get") [.ref a,u,r]) Q E s:=by
 rcases g with ⟨kvs,k,e,ey,l⟩ | ⟨kvs,k,b,e,ey,eb,l⟩
 ·subst ey
  obtain ⟨z,hd,vs,rel,dd⟩:=dk_rd I.hok e
  refine call_meetsIn PySem.F.slot_dict_get dd.typeIs PySem.F.entry_dict_get (PySem.F.args_dict_get_3 _ _ _) (meets_dict_get_default (mixKind X.prog X.w) a (kV_is ry) hd r) ⟨_,dd.mapOf,h _ _ (I.tok _) ?_⟩
  rw [l]
  exact (rel.val k).getD rd
 ·subst ey
  cases (show u=Value.ref b from ry)
  obtain ⟨z,hd,xs,rel,dd⟩:=dt_rd I.hok e
  refine call_meetsIn PySem.F.slot_dict_get dd.typeIs PySem.F.entry_dict_get (PySem.F.args_dict_get_3 _ _ _) (meetsH_dict_get_default (tupleKind (mixKind X.prog X.w)) a b hd r) ⟨tupleKind_room_in1 hu,k,xs,key_of I.hok eb,dd,h _ _ (I.tok _) ?_⟩
  rw [l]
  exact (rel.val k).getD rd
end
def tDGet2 (td ty tx:TE):TE:=fun σ H Q=>td σ H fun x H1=>∃ a,x=.ref a∧IsD H1 a∧ty σ H1 fun y H2=>tx σ H2 fun z H3=>∃ o,DGet H3 a y o∧Q (o.getD z) H3
section
variable {X:Cx} {o e f:Expr} {apos cpos:Pos} {td ty tx:TE}
theorem pe_dget2 (hu:X.A.units+1 < cLine) (ho:PE X o td) (he:PE X e ty) (hf:PE X f tx) (m:M2 X o "get" apos e f cpos):PE X (.Call (.Attribute o "get" apos) [e,f] [] cpos) (tDGet2 td ty tx):=by
 intro pins s σ H Q I h
 refine wpAny_Call_method m.base m.few m.line PySem.F.plainAttrs_dict PySem.F.slot_dict_get PySem.F.type_dict_get (thn (ho pins s σ H _ I h) fun u s1 ⟨x,H1,I1,rx,a,ex,d,q1⟩=>?_)
 subst ex
 obtain rfl:u=Value.ref a:=rx
 obtain ⟨t1,t2,_⟩:=isD_at I1 d
 refine ⟨t1,t2,?_⟩
 rw [m.trees]
 refine Calls.callWith_builtin rfl (Calls.evalArgs_plain (Calls.spliced_cons (thn (he pins s1 σ H1 _ I1 q1) fun iv s2 ⟨y,H2,I2,ry,q2⟩=>
  Calls.spliced_cons (thn (hf pins s2 σ H2 _ I2 q2) fun fv s3 ⟨z,H3,I3,rz,ov,g,q3⟩=>Calls.spliced_nil ?_))))
 exact d_get2 hu I3 g ry rz fun w' s4 I4 rw'=>⟨_,H3,I4,rw',q3⟩
end
section
variable {X:Cx} {pins:List (Addr×Obj)} {σ:St} {H:Hp} {s:Shared} {a:Addr} {kvs:List (Key×V)} {A:Around} {E:Value→Shared→Prop}
theorem d_copyOf {Q:Value→Shared→Prop} (I:Inv X pins σ H s) (e:Rd H a (.dK kvs)) (h:∀ p s',H p=none→Inv X pins σ (upd H p (.dK kvs)) s'→Q (.ref p) s'):wpAny (model X.prog X.w) A (call (.type "dict") [.ref a]) Q E s:=by
 obtain ⟨z,hd,vs,rel,dd⟩:=dk_rd I.hok e
 refine kt_call_dict hd dd (by rw [← rel.length];exact z) fun h' dd' hs=>?_
 refine h _ _ (I.hok.fresh (Nat.le_refl _)) (I.laid (a:=s.heap.objs.size) (o:=.dK kvs) (t':=s.toks) (fun b q hq=>?_) (Nat.le_refl _) (dk_new z (beq_eq_false_iff_ne.mpr (Ne.symm (Nat.ne_of_lt I.big))) rel dd'))
 exact (hs.2 b (Nat.ne_of_lt (Heap.lt_size hq))).trans (Heap.get?_push_of_some _ hq)
end
section
variable {X:Cx} {pins:List (Addr×Obj)} {σ:St} {H:Hp} {s:Shared} {a:Addr} {y:V} {u:Value} {A:Around} {E:Value→Shared→Prop}
end
end L2
namespace Att
open PySem PySem.W PySem.Calls PyProof.Rows
theorem ints_of_wellAll {P:Params} {h:Heap}:∀ (ns:List Int) (vs:List Value),WellAll P h vs (ns.map WData.int)→IntsAre vs ns:=by
 intro ns
 induction ns with
 | nil=>
  intro vs w
  rw [List.map_nil] at w
  cases w
  exact .nil
 | cons n ns ih=>
  intro vs w
  rw [List.map_cons] at w
  cases w with
  | cons a b=>
   cases a
   exact .cons _ _ (ih _ b)
theorem script_of {l:OpenLaw} {n:Nat} (hn:l.most=some n) {P:Params} {h:Heap} {args:List WData} {vals:List Value}
  (hpre:l.row.toRowW.claim.pre args=true) (hwl:WellAll P h vals args) :
  ∃ a vs ns,vals=[Value.ref a]∧args=[WData.list (ns.map WData.int)]∧h.get? a=some { cls:=.type "list",data:=.seq vs.toArray }∧IntsAre vs ns∧ns.length≤n:=by
 have hsh:WShape.hasAll [] args [.list .int]=true:=(pre_splitW hpre).1
 have hc:l.pre.holds [] { args:=args }=true:=(pre_splitW hpre).2
 obtain ⟨d,r,rfl,h1,h2⟩:=hasAllW_cons hsh
 obtain rfl:=hasAllW_nil h2
 obtain ⟨xs,rfl,h3⟩:=hasW_list h1
 obtain ⟨ns,rfl⟩:=items_int h3
 have hlen:ns.length≤n:=by
  unfold OpenLaw.pre at hc
  have h4:(WTm.not (.lt (.lit (.int (n:Int))) (.len (.arg 0)))).holds [] { args:=[.list (ns.map .int)] }=true:=by
   have h4:=(holds_andW hc).1
   rw [hn] at h4
   exact h4
  have h5:=condW_of h4 (w_not (w_lt w_lit (w_len_list (w_arg rfl))))
  rw [List.length_map] at h5
  refine Nat.le_of_not_lt fun q=>?_
  have q':(n:Int) < ((ns.length:Nat):Int):=by omega
  first
   | (rw [decide_eq_true q'] at h5;exact absurd h5 (by decide))
   | (simp at h5;omega)
 cases hwl with
 | cons w1 w2=>
  cases w2
  cases w1 with
  | list ho hall=>exact ⟨_,_,ns,rfl,rfl,ho,ints_of_wellAll ns _ hall,hlen⟩
theorem post_true (l:OpenLaw) (args:List WData):l.row.toRowW.claim.post args (.bool true) args=true:=
 postW_of (r:=l.row.toRowW) (X:=(true == true))
  (show WShape.has [] (.bool true) .bool=true by first | rfl | decide | simp [WShape.has,WShape.arms,WShape.armsAll])
  (show (WTm.eq .res (.lit (.bool true))).value [] { args:=args,res:=some (.bool true),after:=args }=some (.bool (true == true)) from w_eq_bool (w_res rfl) w_lit) rfl
theorem attach_call {l:OpenLaw} {n:Nat} {q:Program} {loose:List Str} {XP:(Str→Option Value)→Heap→Prop} {YP:World→Heap→Prop} {d:DefRec}
  (hn:l.most=some n) (hdf:d.params.defaults=[])
  (call:∀ (w:World) (s₀ s₁:Shared) (mg mb:Str→Option Value) (fa:Addr) (o:Obj) (pm cd doc:Value) (a:Addr) (vs:List Value) (ns:List Int),
   Ground q loose [] XP w s₀ mg mb s₁.heap→YP w s₁.heap→
   s₁.heap.get? fa=some o→o.data=.func (docDef d.name d.params d.body d.scope pm cd doc)→s₁.heap.CodeRec cd d.name→mg d.name=some (.ref fa)→
   s₁.heap.get? a=some { cls:=.type "list",data:=.seq vs.toArray }→IntsAre vs ns→ns.length≤n→s₁.gens=#[]→
   codeAny (model l.prog w) callerA (.call (.ref fa) ⟨[.ref a],[]⟩) (fun r s'=>r=.ok (.ret (.bool true))∧OldK s₁.heap s'.heap∧s'.os=s₁.os∧AllBare s'.gens) s₁) :
  WalkO q loose XP YP l.row.toRowW d [] (fun f vs=>PySem.call f vs):=by
 intro w s₀ s₁ mg mb G Y fa o pm cd doc dV kV ho hd hcd hD hmg hg args vals as hpre hlay hrd hwl hlo
 obtain rfl:dV=.none:=Dflts.none hD hdf
 obtain rfl:kV=.none:=Dflts.noKw hD
 obtain ⟨a,vs,ns,rfl,rfl,hobj,hints,hlen⟩:=script_of hn hpre hwl
 refine enter_call (codeAny_mono (call w s₀ s₁ mg mb fa o pm cd doc a vs ns G Y ho (fd_plain hd) hcd hmg hobj hints hlen hg) fun r s' hq=>?_)
 obtain ⟨rfl,h2,h3,h4⟩:=hq
 exact ⟨.inl ⟨.bool true,.bool true,[],rfl,fun _=>rfl,.bool true,post_true l _,fun _=>⟨List.Pairwise.nil,fun _ hm=>(nomatch hm)⟩⟩,h2,h3,h4⟩
section
variable {prog:Program} {w:World} {A:Around} {E:Value→Shared→Prop} {s:Shared} {K:Frag}
end
end Att
namespace L2
open PySem PySem.Spec PyProof.Rows
theorem vals_ints:∀ {vs:List Value} {ns:List Int},IntsAre vs ns→Vals (ns.map V.int) vs
 | _,_,.nil=>.nil
 | _,_,.cons n t h=>.cons ⟨t,rfl⟩ (vals_ints h)
def Only (H:Hp):Prop:=∀ b,H b=none∨∃ o xs,H b=some (.frz o (.lst xs))
theorem law_call {P:Program} {w:World} {K:PySem.W.Frag} {mg mb:Str→Option Value} {CX:CXT} {k:Nat} {fa a:Addr} {fd:FuncData} {x:Str} {sp:Sp} {s₁:Shared} {vs:List Value} {ns:List Int}
  (KX:K.In s₁.heap) (hns:s₁.heap.Ns mainGlobals mg) (hb:s₁.heap.Ns builtinsNs mb) (hbb:∀ x:Str,x≠"__name__"→mb x=bootBuiltins x) (hlim:s₁.heap.NoLimit) (hg:s₁.gens=#[])
  (ha:s₁.heap.get? a=some { cls:=.type "list",data:=.seq vs.toArray }) (hi:IntsAre vs ns) (hl:ns.length≤sizeLine) (hr:Room k callerA)
  (F:∀ base:Heap,K.In base→base.Ns mainGlobals mg→FnOk P w K mg base CX k fa fd [x] sp) (hbind:∀ (s:Shared) (u:Value),BindsTo s fd ⟨[u],[]⟩ [(x,u)])
  (hsp:∀ H:Hp,Only H→SqL K H a (ns.map V.int)→sp [.ref a] H (fun v _=>v=.bl true) fun _ _ _=>False)
  (hCX:∀ H e s',CX [] H s₁ (fun _ _ _=>False) e s'→False) :
  codeAny (model P w) callerA (.call (.ref fa) ⟨[.ref a],[]⟩) (fun r s'=>r=.ok (.ret (.bool true))∧OldK s₁.heap s'.heap∧s'.os=s₁.os∧AllBare s'.gens) s₁:=by
 have rv:=vals_ints hi
 have lenV:=hi.length
 have core:∀ H:Hp,Only H→SqL K H a (ns.map V.int)→HOk P w H s₁.heap→(∀ b,H b≠none→b=a)→(H a≠none→K.lookup a=none)→
   codeAny (model P w) callerA (.call (.ref fa) ⟨[.ref a],[]⟩) (fun r s'=>r=.ok (.ret (.bool true))∧OldK s₁.heap s'.heap∧s'.os=s₁.os∧AllBare s'.gens) s₁:=by
  intro H hO hS hok hA hK
  have base_of:∀ {b:Addr} {o:Obj},s₁.heap.get? b=some o→H b=none→(hidT s₁.heap H).get? b=some o:=fun e n=>hidT_get e n
  have noA:∀ {b:Addr} {o:Obj} {es:Array DictEntry} {ep:Nat},s₁.heap.get? b=some o→o.data=.dict es ep→H b=none:=fun {b o es ep} e d=>by
   cases q:H b with
   | none=>rfl
   | some u=>
    have e':b=a:=hA b (by rw [q];simp)
    subst e'
    rw [ha] at e;cases e
    have d':Data.seq vs.toArray _=Data.dict es ep:=d
    cases d'
  have nsK:∀ {b:Addr} {m:Str→Option Value},s₁.heap.Ns b m→(hidT s₁.heap H).Ns b m:=fun {b m} ⟨o,es,ep,e,d,r⟩=>⟨o,es,ep,base_of e (noA e d),d,r⟩
  have hKb:K.In (hidT s₁.heap H):=fun b o e=>base_of (KX b o e) (by
   cases q:H b with
   | none=>rfl
   | some u=>
    have e':b=a:=hA b (by rw [q];simp)
    subst e'
    rw [hK (by rw [q];simp)] at e;cases e)
  have hM:Mod K mg (hidT s₁.heap H):=⟨hKb,nsK hns,⟨mb,nsK hb,hbb⟩,let ⟨mc,h1,h2⟩:=hlim;⟨mc,nsK h1,h2⟩⟩
  have e0:Env0 P w K mg (hidT s₁.heap H) callerA [] s₁ H:=⟨rfl,hM,fun b o e=>of_hidT e,Nat.le_of_eq (hidT_size _ _),trivial,fun b hb=>absurd (show b∈([]:List Addr) from hb) (by simp),hok,.of_eq hg⟩
  refine codeAny_mono ((F _ hKb (nsK hns)).run callerA [] s₁ H ⟨[.ref a],[]⟩ [.ref a] [.ref a] _ _ hr e0 (hbind s₁ (.ref a)) (.cons rfl .nil) (hsp H hO hS)) fun r s' h=>?_
  cases r with
  | error e=>exact (hCX H e s' h).elim
  | ok fl=>
   cases fl with
   | next=>exact False.elim h
   | brk=>exact False.elim h
   | cont=>exact False.elim h
   | ret u=>
    obtain ⟨v,H',os,bare,un,hok',r',q⟩:=h
    have q':v=.bl true:=q
    subst q'
    obtain rfl:u=Value.bool true:=r'
    refine ⟨rfl,OldK.of_keep fun b o e=>?_,os,bare⟩
    cases q:H b with
    | none=>exact un.keep b o e q (by intro z;exact absurd (show b∈([]:List Addr) from z) (by simp)) (by simp)
    | some u=>
     rcases hO b with z | ⟨ob,xs,z⟩
     ·rw [q] at z;cases z
     ·have z2:=un.frzs b ob _ z
      obtain ⟨e1,_⟩:=hok b _ z
      obtain ⟨e2,_⟩:=hok' b _ z2
      rw [e] at e1;cases e1
      exact e2
 cases hk:K.lookup a with
 | some o=>
  have e:=KX a o hk
  rw [ha] at e
  cases e
  refine core (fun _=>none) (fun _=>.inl rfl) (.inr ⟨_,vs.toArray,_,hk,rfl,rfl,rfl,by rw [List.size_toArray,lenV];exact hl,by simpa using rv⟩) (fun b u z=>by have z':(none:Option HO)=some u:=z;cases z') (fun b z=>absurd rfl z) fun z=>absurd rfl z
 | none=>
  refine core (fun b=>if b=a then some (.frz { cls:=.type "list",data:=.seq vs.toArray } (.lst (ns.map V.int))) else none) (fun b=>?_) (.inl (.inr ⟨{ cls:=.type "list",data:=.seq vs.toArray },if_pos rfl⟩)) (fun b u z=>?_) (fun b z=>?_) fun _=>hk
  ·by_cases hb:b=a
   ·exact .inr ⟨_,_,if_pos hb⟩
   ·exact .inl (if_neg hb)
  ·by_cases hb:b=a
   ·have z':=(if_pos hb).symm.trans z
    cases z'
    subst hb
    exact ⟨ha,by rw [List.length_map];exact hl,vs,_,rv,ha⟩
   ·have z':=(if_neg hb).symm.trans z
    cases z'
  ·by_cases hb:b=a
   ·exact hb
   ·exact absurd (if_neg hb) z
open PySem PySem.Spec PyProof.Rows
theorem walk_of {l:PySem.W.OpenLaw} {n k:Nat} {q:Program} {loose:List Str} {XP:(Str→Option Value)→Heap→Prop} {YP:World→Heap→Prop} {d:DefRec} {K:Params→PySem.W.Frag} {CX:World→CXT} {sp:World→Sp} {x:Str}
  (hn:l.most=some n) (hn2:n≤sizeLine) (hdf:d.params.defaults=[]) (hr:Room k callerA)
  (hY:∀ (w:World) (h:Heap),YP w h→(K w.params).In h)
  (F:∀ (w:World) (mg:Str→Option Value) (fa:Addr) (h:Heap),(K w.params).In h→h.Ns mainGlobals mg→mg d.name=some (.ref fa)→
   ∃ fd:FuncData,(∀ (s:Shared) (u:Value),BindsTo s fd ⟨[u],[]⟩ [(x,u)])∧
    ∀ base:Heap,(K w.params).In base→base.Ns mainGlobals mg→FnOk l.prog w (K w.params) mg base (CX w) k fa fd [x] (sp w))
  (hsp:∀ (w:World) (H:Hp) (a:Addr) (ns:List Int),ns.length≤n→Only H→SqL (K w.params) H a (ns.map V.int)→sp w [.ref a] H (fun v _=>v=.bl true) fun _ _ _=>False)
  (hCX:∀ (w:World) (H:Hp) (s:Shared) (e:Value) (s':Shared),CX w [] H s (fun _ _ _=>False) e s'→False) :
  PySem.W.WalkO q loose XP YP l.row.toRowW d [] (fun f vs=>PySem.call f vs):=by
 refine Att.attach_call hn hdf fun w s₀ s₁ mg mb fa o pm cd doc a vs ns G Y ho hd hcd hmg hobj hints hlen hg=>?_
 have KX:=hY w _ Y
 obtain ⟨fd,hb,hF⟩:=F w mg fa _ KX G.T.g hmg
 exact law_call KX G.T.g G.T.b G.T.builtins G.T.nolimit hg hobj hints (Nat.le_trans hlen hn2) hr hF hb (fun H hO hS=>hsp w H a ns hlen hO hS) fun H e s'=>hCX w H s₁ e s'
open PySem PySem.Spec PyProof.Rows
def defArgs (s:Stmt):Arguments:=match s with
 | .FunctionDef _ a _ _ _ _ _ _ _ _=>a
 | _=>{ posonlyargs:=[],args:=[],vararg:=none,kwonlyargs:=[],kw_defaults:=[],kwarg:=none,defaults:=[] }
def defBody (s:Stmt):List Stmt:=match s with
 | .FunctionDef _ _ b _ _ _ _ _ _ _=>b
 | _=>[]
def defScope (s:Stmt):Scope:=match s with
 | .FunctionDef _ _ _ _ _ _ sc _ _ _=>sc
 | _=>{ kind:=.function,names:=[],isGenerator:=false,isCoroutine:=false }
abbrev CX0:CXT:=fun _ _ _ _ _ _=>False
abbrev E0:XK:=fun _ _ _=>False
theorem pass0 {X:Cx}:Passes CX0 X E0:=fun _ _ _ _ _ _ _ h=>h.elim
structure Fun (K:PySem.W.Frag) (x qual:Str) (st:Stmt) (f:Addr) (fd:FuncData):Prop where
 ex:∃ (oc:Value) (od:Option Addr) (kV doc pm:Value) (an:Option Addr) (cdv ct:Value) (osl:Array (Option Value)),
  fd=PySem.W.fnOf x qual (defArgs st) (defBody st) (defScope st) .none kV doc pm an cdv ct∧K.lookup f=some ⟨oc,od,.func fd,osl⟩∧PySem.W.codeIn K cdv qual=true
 kp:PySem.W.keepIn K (.ref f)=true
section
variable {P:Program} {w:World} {K:PySem.W.Frag} {mg:Str→Option Value} {base:Heap}
theorem Fun.ok {x qual:Str} {st:Stmt} {f:Addr} {fd:FuncData} {N ps:List Str} {k:Nat} {sp:Sp} (F:Fun K x qual st f fd) (S:FnScope N ps (defScope st)) (len:∀ vs H Q E,sp vs H Q E→vs.length=ps.length)
  (hbody:∀ (cdv:Value) (A:Around) (outer:List Env) (s:Shared) (H:Hp) (vs:List V) (Q:VK) (E:XK),Room k (A.deeper (envOfC qual (defScope st) s.heap.objs.size f cdv))→sp vs H Q E→
   ∃ t,PSs (cxOf CX0 P w K mg base N qual (defScope st) f cdv A outer s H E).nox (defBody st) t∧t { nx:=fun _ H'=>Q .non H',rt:=Q } (start N vs) H):FnOk P w K mg base CX0 (k+1) f fd ps sp:=by
 obtain ⟨oc,od,kV,doc,pm,an,cdv,ct,osl,rfl,lk,hcd⟩:=F.ex
 refine fn_of lk hcd S len fun A outer s H vs Q E hr hsp=>?_
 obtain ⟨t,h,q⟩:=hbody cdv A outer s H vs Q E hr hsp
 exact ⟨t,h.nox,q⟩
theorem Fun.binds {x qual:Str} {st:Stmt} {f:Addr} {fd:FuncData} {ps:List Str} (F:Fun K x qual st f fd)
  (h:∀ (kV doc pm:Value) (an:Option Addr) (cdv ct:Value) (us:List Value),us.length=ps.length→bindArgs (PySem.W.fnOf x qual (defArgs st) (defBody st) (defScope st) .none kV doc pm an cdv ct) ⟨us,[]⟩=pure (ps.zip us)):Binds K fd ps []:=by
 obtain ⟨oc,od,kV,doc,pm,an,cdv,ct,osl,rfl,lk,hcd⟩:=F.ex
 exact .all (h kV doc pm an cdv ct)
theorem fun_mk {x qual:Str} {st:Stmt} {f:Addr} {oc:Value} {od an:Option Addr} {osl:Array (Option Value)} {kV doc pm cdv ct:Value} (l:K.lookup f=some ⟨oc,od,.func (PySem.W.fnOf x qual (defArgs st) (defBody st) (defScope st) .none kV doc pm an cdv ct),osl⟩)
  (c:PySem.W.codeIn K cdv qual=true) (k:PySem.W.keepIn K (.ref f)=true):Fun K x qual st f (PySem.W.fnOf x qual (defArgs st) (defBody st) (defScope st) .none kV doc pm an cdv ct):=⟨⟨oc,od,kV,doc,pm,an,cdv,ct,osl,rfl,l,c⟩,k⟩
end
theorem hu_of {A:Around} {k:Nat} (hr:Room k A):A.units+1 < cLine:=Nat.lt_of_le_of_lt (Nat.add_le_add_left (by decide:1≤64) _) hr.units
theorem small1000 {n:Nat} (h:n≤1000):n < sizeLine:=Nat.lt_of_le_of_lt h (by decide)
section
variable {X:Cx}
theorem pv (i:Nat) {x:Str} {pos:Pos} (hN:X.N[i]?=some x:=by rfl) (hv:Vis X.env.scope x:=by first | exact Or.inl rfl | exact Or.inr (Or.inl rfl) | exact Or.inr (Or.inr rfl)) (hd:(x == ("__debug__" : Str))=false:=by decide)
  (hcd:(x == ("__classdict__" : Str))=false:=by decide):PE X (.Name x pos) (tVar i):=pe_var hN hv hd hcd
end
theorem iteF {A B:Prop} (h:B):if false=true then A else B:=by
 rw [if_neg Bool.false_ne_true]
 exact h
theorem iteT {A B:Prop} (h:A):if true=true then A else B:=by
 rw [if_pos rfl]
 exact h
theorem ite2 {c A B:Prop} [Decidable c] (h1:c→A) (h2:¬ c→B):if c then A else B:=by
 by_cases h:c
 ·rw [if_pos h]
  exact h1 h
 ·rw [if_neg h]
  exact h2 h
def Same (H H':Hp):Prop:=∀ b o,H b=some o→H' b=some o
theorem Same.refl (H:Hp):Same H H:=fun _ _ h=>h
theorem Same.trans {H H1 H2:Hp} (a:Same H H1) (b:Same H1 H2):Same H H2:=fun c o h=>b c o (a c o h)
theorem Same.free {H H':Hp} (e:Same H H') {l:Addr} (h:H' l=Option.none):H l=Option.none:=by
 cases q:H l with
 | none=>rfl
 | some o=>
  rw [e l o q] at h
  cases h
theorem Same.seq {K:PySem.W.Frag} {H H':Hp} {a:Addr} {xs:List V} (e:Same H H') (h:SqL K H a xs):SqL K H' a xs:=by
 rcases h with (h | ⟨o,h⟩) | h
 ·exact .inl (.inl (e _ _ h))
 ·exact .inl (.inr ⟨o,e _ _ h⟩)
 ·exact .inr h
section
variable {κ:Type} [DecidableEq κ]
end
open PySem PySem.Spec PyProof.Rows
theorem compLoop_gen {prog:Program} {w:World} {A:Around} {s:Shared} {elt target iter:Expr} {ifs:List Expr} {scope:Scope} {pos:Pos} {it acc:Value} {env:Env} {R:Result→Shared→Prop} (I:Nat→Shared→Prop)
  (turn:∀ n s,I n s→wpAny (model prog w) A (pyNext it) (fun r s1=>match r with
   | none=>R (.ok .next) s1
   | some v=>wpAny (model prog w) A (letOwnedTupleGo target it v) (fun _ s1'=>wpAny (model prog w) A (assign target env v) (fun _ s2=>
     wpAny (model prog w) A (forIn ifs true fun c r=>if r=true then do let ok ← isTrue c env (eval c env);pure (ForInStep.yield ok) else pure (ForInStep.yield r)) (fun ok s3=>
      if ok=true then wpAny (model prog w) A (eval elt env) (fun x s4=>
       wpAny (model prog w) A (call (.builtin "list.append") [acc,x]) (fun _ s5=>∃ m,m < n∧I m s5) (fun _ _=>False) s4) (fun _ _=>False) s3
      else ∃ m,m < n∧I m s3) (fun _ _=>False) s2) (fun _ _=>False) s1') (fun _ _=>False) s1) (fun _ _=>False) s)
  (n:Nat) (h:I n s):codeAny (model prog w) A (.compLoop (.ListComp elt [⟨target,iter,ifs,0⟩] scope pos) 0 it acc env) R s:=by
 have no:∀ (x:Value) (s':Shared),False→notedBy (model prog w) A env (fun e s'=>R (.error e) s') x s':=fun _ _ z=>z.elim
 refine codeAny_loop rfl I (fun n s hI=>?_) n h
 show wpAny _ A ((compTurn (.ListComp elt [⟨target,iter,ifs,0⟩] scope pos) 0 it acc env).onRaise (fun x=>do noteFrame x env;theTreesLotGoes x)) _ _ s
 refine wpAny_noted ?_
 rw [compTurn_list]
 refine wpAny_bind (wpAny_standAt (wpAny_bind (wpAny_mono (turn n s hI) (fun r s1 h1=>?_) no)))
 cases r with
 | none=>exact wpAny_pure h1
 | some v=>
  refine wpAny_bind (wpAny_mono h1 (fun _ s1' h1'=>?_) no)
  refine wpAny_bind (wpAny_mono h1' (fun _ s2 h2=>wpAny_bind (wpAny_mono h2 (fun ok s3 h3=>?_) no)) no)
  cases ok with
  | false=>exact wpAny_pure ⟨rfl,h3⟩
  | true=>
   exact wpAny_bind (wpAny_bind (wpAny_mono h3 (fun x s4 h4=>wpAny_bind (wpAny_mono h4 (fun _ s5 h5=>wpAny_pure (wpAny_pure ⟨rfl,h5⟩)) no)) no))
theorem ff_eq:(NameKind.free == NameKind.free)=true:=rfl
def clOf (cells:List (Str×Addr)):List (Str×NameKind)→List (Str×Addr)→List (Str×Addr)
 | [],acc=>acc
 | (n,k) :: r,acc=>if k == .free then clOf cells r ((n,(cells.lookup n).getD 0) :: acc) else clOf cells r acc
theorem forIn_cl {env:Env}:∀ (names:List (Str×NameKind)) (acc:List (Str×Addr)),(∀ x∈names,x.2=.free→(env.cells.lookup x.1).isSome=true)→
  (forIn names acc fun x (cs:List (Str×Addr))=>(match x with | (name,kind)=>if (kind == NameKind.free)=true then do let c ← cellOf env name;pure (ForInStep.yield ((name,c) :: cs)) else pure (ForInStep.yield cs):Sem (ForInStep (List (Str×Addr)))))=(pure (clOf env.cells names acc):Sem (List (Str×Addr)))
 | [],acc,_=>by simp only [List.forIn_nil];rfl
 | (n,k) :: r,acc,h=>by
  have ih:=fun a=>forIn_cl (env:=env) r a fun x hx=>h x (List.mem_cons_of_mem _ hx)
  rw [List.forIn_cons]
  by_cases hk:k=.free
  ·subst hk
   have q:=h (n,.free) List.mem_cons_self rfl
   obtain ⟨c,hc⟩:=Option.isSome_iff_exists.mp q
   have e:cellOf env n=pure c:=by unfold cellOf;rw [show env.cells.lookup n=some c from hc]
   simp only [beq_self_eq_true,if_true,e,pure_bind]
   rw [ih]
   show _=pure (if (NameKind.free == NameKind.free)=true then clOf env.cells r ((n,(env.cells.lookup n).getD 0) :: acc) else _)
   rw [if_pos ff_eq,show env.cells.lookup n=some c from hc]
   rfl
  ·have hb:(k == NameKind.free)=false:=by simpa using hk
   simp only [hb,Bool.false_eq_true,if_false,pure_bind]
   rw [ih]
   show _=pure (if (k == NameKind.free)=true then _ else clOf env.cells r acc)
   rw [hb]
   rfl
theorem closure_cl {scope:Scope} {env:Env} (h:∀ x∈scope.names,x.2=.free→(env.cells.lookup x.1).isSome=true):closureFor scope env=pure (clOf env.cells scope.names []):=by
 unfold closureFor
 have e:=forIn_cl (env:=env) scope.names [] h
 simp only [bind_pure] at *
 exact e
theorem cl_sub {cells:List (Str×Addr)}:∀ (names:List (Str×NameKind)) (acc:List (Str×Addr)),(∀ x∈names,x.2=.free→(cells.lookup x.1).isSome=true)→(∀ x c,acc.lookup x=some c→cells.lookup x=some c)→
  ∀ x c,(clOf cells names acc).lookup x=some c→cells.lookup x=some c
 | [],acc,_,ha=>ha
 | (n,k) :: r,acc,h,ha=>by
  unfold clOf
  by_cases hk:k=.free
  ·subst hk
   rw [if_pos ff_eq]
   refine cl_sub r _ (fun x hx=>h x (List.mem_cons_of_mem _ hx)) fun x c e=>?_
   by_cases hx:x=n
   ·subst hx
    rw [List.lookup_cons_self] at e
    obtain ⟨d,hd⟩:=Option.isSome_iff_exists.mp (h (x,.free) List.mem_cons_self rfl)
    have hd':cells.lookup x=some d:=hd
    rw [hd'] at e ⊢
    exact e
   ·rw [List.lookup_cons,beq_eq_false_iff_ne.mpr hx] at e
    exact ha x c e
  ·rw [if_neg (by simpa using hk)]
   exact cl_sub r _ (fun x hx=>h x (List.mem_cons_of_mem _ hx)) ha
theorem cl_mono {cells:List (Str×Addr)}:∀ (names:List (Str×NameKind)) (acc:List (Str×Addr)) (x:Str),(acc.lookup x).isSome=true→((clOf cells names acc).lookup x).isSome=true
 | [],acc,_,ha=>ha
 | (n,k) :: r,acc,x,ha=>by
  unfold clOf
  split
  ·refine cl_mono r _ x ?_
   rw [List.lookup_cons]
   split
   ·rfl
   ·exact ha
  ·exact cl_mono r _ x ha
theorem cl_has {cells:List (Str×Addr)}:∀ (names:List (Str×NameKind)) (acc:List (Str×Addr)) (x:Str),(x,NameKind.free)∈names→((clOf cells names acc).lookup x).isSome=true
 | [],_,_,h=>by simp at h
 | (n,k) :: r,acc,x,h=>by
  unfold clOf
  rcases List.mem_cons.mp h with e | h
  ·obtain ⟨e1,e2⟩:=Prod.mk.inj e
   subst e1 e2
   rw [if_pos ff_eq]
   refine cl_mono r _ _ ?_
   rw [List.lookup_cons_self]
   rfl
  ·split
   ·exact cl_has r _ x h
   ·exact cl_has r _ x h
theorem lookup_relabel {env:Env}:∀ {names:List (Str×NameKind)} {x:Str} {k:NameKind},
  (names.map fun (n,k)=>if (k == NameKind.free && env.scope.kind == .function && env.kindOf n == some .cell) then (n,NameKind.cell) else (n,k)).lookup x=some k→
   names.lookup x=some k∨(k=.cell∧names.lookup x=some .free)
 | [],_,_,h=>by simp at h
 | (n,k') :: r,x,k,h=>by
  rw [List.map_cons] at h
  by_cases hx:x=n
  ·subst hx
   rw [List.lookup_cons_self]
   by_cases hc:(k' == NameKind.free && env.scope.kind == .function && env.kindOf x == some .cell)=true
   ·simp only [hc,if_true] at h
    rw [List.lookup_cons_self] at h
    have hk:k'=.free:=by
     simp only [Bool.and_eq_true,beq_iff_eq] at hc
     exact hc.1.1
    exact .inr ⟨(Option.some.inj h).symm,by rw [hk]⟩
   ·simp only [hc] at h
    rw [if_neg (by simp),List.lookup_cons_self] at h
    exact .inl h
  ·have e:(x == n)=false:=beq_eq_false_iff_ne.mpr hx
   have h':(r.map fun (n,k)=>if (k == NameKind.free && env.scope.kind == .function && env.kindOf n == some .cell) then (n,NameKind.cell) else (n,k)).lookup x=some k:=by
    by_cases hc:(k' == NameKind.free && env.scope.kind == .function && env.kindOf n == some .cell)=true
    ·simp only [hc,if_true] at h
     rw [List.lookup_cons,e] at h
     exact h
    ·simp only [hc] at h
     rw [if_neg (by simp),List.lookup_cons,e] at h
     exact h
   have ih:=@lookup_relabel env r x k h'
   rw [List.lookup_cons,e]
   exact ih
theorem relabel_free {env:Env}:∀ {names:List (Str×NameKind)} {x:Str},names.lookup x=some .free→
  (names.map fun (n,k)=>if (k == NameKind.free && env.scope.kind == .function && env.kindOf n == some .cell) then (n,NameKind.cell) else (n,k)).lookup x=some .cell∨
  (names.map fun (n,k)=>if (k == NameKind.free && env.scope.kind == .function && env.kindOf n == some .cell) then (n,NameKind.cell) else (n,k)).lookup x=some .free
 | [],_,h=>by simp at h
 | (n,k') :: r,x,h=>by
  rw [List.map_cons]
  by_cases hx:x=n
  ·subst hx
   rw [List.lookup_cons_self] at h
   cases h
   by_cases hc:(NameKind.free == NameKind.free && env.scope.kind == .function && env.kindOf x == some .cell)=true
   ·simp only [hc,if_true]
    exact .inl List.lookup_cons_self
   ·simp only [hc]
    rw [if_neg (by simp)]
    exact .inr List.lookup_cons_self
  ·have e:(x == n)=false:=beq_eq_false_iff_ne.mpr hx
   rw [List.lookup_cons,e] at h
   have ih:=@relabel_free env r x h
   by_cases hc:(k' == NameKind.free && env.scope.kind == .function && env.kindOf n == some .cell)=true
   ·simp only [hc,if_true]
    rw [List.lookup_cons,e]
    exact ih
   ·simp only [hc]
    rw [if_neg (by simp),List.lookup_cons,e]
    exact ih
def blk (X:Cx) (scope:Scope) (own:List Str) (fr:List Nat) (s:Shared) (H:Hp) (ex:List Addr):Cx where
 prog:=X.prog
 w:=X.w
 K:=X.K
 mg:=X.mg
 base:=X.base
 A:=X.A
 N:=own++fr.map fun j=>X.N.getD j (Str.ofString "")
 s₀:=s
 H₀:=H
 env:=compEnvC scope (clOf X.env.cells scope.names []) s.heap.objs.size X.env
 outer:=X.stack
 stack:=X.stack
 ex:=ex
 fn:=fun _=>false
 calm:=X.calm
 pn:=[]
 xe:=fun _ _=>False
def blkS (own:List Str) (fr:List Nat) (σ:St):St:=own.map (fun _=>none)++fr.map fun j=>(σ[j]?).join
structure CompOk (X:Cx) (scope:Scope) (fr:List Nat):Prop where
 kind:scope.kind=.function
 nocell:∀ y∈scope.names,y.2≠.cell
 loc:∀ y∈scope.names,y.2=.local→scope.names.lookup y.1=some .local
 frees:∀ y∈scope.names,y.2=.free→X.env.scope.names.lookup y.1=some .cell∨X.env.scope.names.lookup y.1=some .free
 fr:∀ j∈fr,scope.names.lookup (X.N.getD j (Str.ofString ""))=some .free
theorem inv_blk {X:Cx} {scope:Scope} {own:List Str} {fr:List Nat} {pins:List (Addr×Obj)} {σ:St} {H:Hp} {s:Shared} {ex:List Addr} {h1:Heap} {t1:Nat} (I:Inv X pins σ H s) (O:CompOk X scope fr)
  (hex:∀ b∈ex,FpOk X pins H b∧b < s.heap.objs.size) (hns:h1.Ns s.heap.objs.size fun _=>none) (hk:∀ b o,s.heap.get? b=some o→h1.get? b=some o) :
  Inv (blk X scope own fr s H ex) [] (blkS own fr σ) H { s with heap:=h1,toks:=t1 }:=by
 have hsome:∀ x∈scope.names,x.2=.free→(X.env.cells.lookup x.1).isSome=true:=fun x hx e=>by
  obtain ⟨c,hc⟩:=I.ok.has x.1 (O.frees x hx e)
  rw [hc];rfl
 have sub:∀ x c,(clOf X.env.cells scope.names []).lookup x=some c→X.env.cells.lookup x=some c:=cl_sub scope.names [] hsome fun x c e=>by simp at e
 have hasc:∀ x,scope.names.lookup x=some .free→∃ c,(clOf X.env.cells scope.names []).lookup x=some c:=fun x e=>Option.isSome_iff_exists.mp (cl_has scope.names [] x (PySem.mem_of_lookup e))
 have hcne:∀ x c,X.env.cells.lookup x=some c→c < s.heap.objs.size:=fun x c e=>by
  obtain ⟨v,q⟩:=I.cell x c e
  exact q.lt
 have hN:σ.length=X.N.length:=I.len
 refine ⟨⟨I.ok.mod,O.kind,I.ok.glob,I.ok.blt,Nat.le_refl _,fun x y c e1 e2=>I.ok.inj x y c (sub x c e1) (sub y c e2),fun x hx=>?_,fun x c z=>absurd z (by simp [blk]),I.ok.hd,I.ok.frames,.inl rfl,fun b hb=>⟨Nat.ne_of_lt (hex b hb).2,fun x c e=>(hex b hb).1.2.2.2.2.1 x c (sub x c e)⟩,
  fun b o e=>I.bs b o e,Nat.le_trans I.ok.bsz I.sz,fun b o e hb=>?_,fun b hb z=>?_,I.stack,I.stkFree⟩,
  rfl,I.bare,Un.kept hk,⟨_,hns,fun i x v e1 e2 e3=>?_⟩,fun x c e=>?_,I.fresh,fun x c e=>I.freeC x c (sub x c e),fun p hp=>absurd hp (by simp [blk]),I.hok.kept hk,?_⟩
 ·have hx':(relabel scope X.env).names.lookup x=some .cell∨(relabel scope X.env).names.lookup x=some .free:=hx
  rcases hx' with hx | hx
  ·rcases lookup_relabel hx with q | ⟨_,q⟩
   ·exact absurd rfl (O.nocell _ (PySem.mem_of_lookup q))
   ·exact hasc x q
  ·rcases lookup_relabel hx with q | ⟨q,_⟩
   ·exact hasc x q
   ·cases q
 ·rcases (hex b hb).1.2.2.2.1 with z | z
  ·exact I.ok.noex b o e z
  ·exact absurd (Nat.lt_of_lt_of_le (Heap.lt_size e) (Nat.le_trans I.ok.bsz z)) (Nat.lt_irrefl _)
 ·obtain ⟨_,f1,f2,_⟩:=(hex b hb).1
  rcases List.mem_cons.mp (I.stkSub b z) with q | q
  ·exact f1 q
  ·exact f2 q
 ·have e1':(own++fr.map fun j=>X.N.getD j (Str.ofString ""))[i]?=some x:=e1
  unfold blkS at e2
  have hi:own.length≤i:=by
   by_cases h:own.length≤i
   ·exact h
   ·rw [List.getElem?_append_left (by simpa using Nat.lt_of_not_le h),List.getElem?_map] at e2
    cases q:own[i]? with
    | none=>rw [q] at e2;cases e2
    | some z=>rw [q] at e2;cases e2
  rw [List.getElem?_append_right hi,List.getElem?_map] at e1'
  rw [List.getElem?_append_right (by simpa using hi),List.getElem?_map,List.length_map] at e2
  cases q:fr[i - own.length]? with
  | none=>rw [q] at e2;cases e2
  | some j=>
   rw [q] at e1' e2
   have e1'':X.N.getD j (Str.ofString "")=x:=Option.some.inj e1'
   have e2':(σ[j]?).join=some v:=Option.some.inj e2
   have e2'':σ[j]?=some (some v):=by
    cases z:σ[j]? with
    | none=>rw [z] at e2';cases e2'
    | some y=>rw [z] at e2';rw [← e2'];rfl
   have hj:j < X.N.length:=by rw [← hN];exact (List.getElem?_eq_some_iff.mp e2'').1
   have e3':X.N[j]?=some x:=by
    rw [List.getElem?_eq_getElem hj,← e1'',List.getD_eq_getElem?_getD,List.getElem?_eq_getElem hj]
    rfl
   have hf:=O.fr j (List.mem_of_getElem? q)
   rw [e1''] at hf
   have hv:=O.frees _ (PySem.mem_of_lookup hf) rfl
   obtain ⟨m,_,hl⟩:=I.loc
   obtain ⟨u,ru,lk⟩:=hl j x v e3' e2'' (.inr hv)
   refine ⟨u,ru,.inr ⟨?_,?_⟩⟩
   ·exact relabel_free hf
   ·obtain ⟨c,hc⟩:=hasc x hf
    refine ⟨c,hc,?_⟩
    rcases lk with ⟨k,_⟩ | ⟨_,c',hc',z⟩
    ·have k':X.env.scope.names.lookup x=some .local:=k
     rcases hv with hv | hv <;> · rw [k'] at hv;cases hv
    ·have:=sub x c hc
     rw [hc'] at this
     cases this
     obtain ⟨o,ho,hd⟩:=z
     exact ⟨o,hk _ _ ho,hd⟩
 ·obtain ⟨v,o,ho,hd⟩:=I.cell x c (sub x c e)
  exact ⟨v,o,hk _ _ ho,hd⟩
 ·show (blkS own fr σ).length=(own++fr.map fun j=>X.N.getD j (Str.ofString "")).length
  unfold blkS
  rw [List.length_append,List.length_append,List.length_map,List.length_map,List.length_map]
theorem blk_back {X:Cx} {scope:Scope} {own:List Str} {fr:List Nat} {pins:List (Addr×Obj)} {σ σ':St} {H H':Hp} {s s':Shared} {ex:List Addr} (I:Inv X pins σ H s) (hex:∀ b∈ex,FpOk X pins H b∧b < s.heap.objs.size)
  (J:Inv (blk X scope own fr s H ex) [] σ' H' s') {h':Heap} (hs:Heap.SameBut s.heap.objs.size s'.heap h'):Inv X pins σ H' { s' with heap:=h' }:=by
 have hC:H' s.heap.objs.size=none:=J.free
 have u:Un (frs X.stack) ex H H' s.heap s'.heap:=J.base
 have ne:∀ b o,s.heap.get? b=some o→b≠s.heap.objs.size:=fun b o e=>Nat.ne_of_lt (Heap.lt_size e)
 have at':∀ b o,b≠s.heap.objs.size→s'.heap.get? b=some o→h'.get? b=some o:=fun b o hb e=>(hs.2 b hb).trans e
 refine I.call' (ch:=ex) J.os ⟨fun b o e n hb hx=>?_,fun b o e n hb hx=>?_,u.free,fun b o e hx=>?_,u.tups,u.frzs,u.tbls⟩ (fun b o e=>?_) J.bare fun b hb=>?_
 ·exact at' b o (ne b o e) (u.keep b o e n hb hx)
 ·obtain ⟨sl,q⟩:=u.slot b o e n hb hx
  exact ⟨sl,at' b _ (ne b o e) q⟩
 ·obtain ⟨o',q⟩:=u.there b o e hx
  exact ⟨o',at' b _ (ne b o e) q⟩
 ·refine (J.hok b o e).stay (fun c v hc q=>at' c v ?_ q) (fun _ q=>q) fun _ _ q=>q
  rintro z
  rcases hc with y | y
  ·rw [y] at z;rw [z,hC] at e;cases e
  ·rw [z,hC] at y;cases y
 ·obtain ⟨f0,f1,f2,f3,f4,f5⟩:=(hex b hb).1
  exact ⟨f3,f1,f4,f5⟩
def PTs (X:Cx) (ifs:List Expr) (t:TT):Prop:=
 ∀ (pins:List (Addr×Obj)) (s:Shared) (σ:St) (H:Hp) (Q:Bool→Hp→Prop),Inv X pins σ H s→t σ H Q→
  wpAny (model X.prog X.w) X.A (forIn ifs true fun c r=>if r=true then do let ok ← isTrue c X.env (eval c X.env);pure (ForInStep.yield ok) else pure (ForInStep.yield r)) (TP X pins σ Q) X.xe s
def tYes:TT:=fun _ H Q=>Q true H
theorem pts_nil {X:Cx}:PTs X [] tYes:=fun _ _ _ H _ I h=>wpAny_tests_nil ⟨H,I,h⟩
theorem pts_one {X:Cx} {c:Expr} {t:TT} (h:PT X c t):PTs X [c] t:=fun pins s σ H Q I q=>wpAny_tests_one (h pins s σ H Q I q)
def CompGo (J:It) (p:Addr) (g:TG) (tt:TT) (te:TE) (Q:VK) (σ:St) (H:Hp):Prop:=∃ W:Nat→Nat→St→Hp→Prop,(∃ m,W 0 m σ H)∧
 ∀ i m σ' H',W i m σ' H'→(J.stop i H'∧Q (.ref p) H')∨(J.go i H'∧∃ N:St→Hp→Prop,(∀ σ3 H3,N σ3 H3→∃ m',m' < m∧W (i+1) m' σ3 H3)∧∀ x H2,J.yld i H' x H2→g x σ' H2 fun σ3 H3=>tt σ3 H3 fun c H4=>
  if c=true then te σ3 H4 fun y H5=>∃ ys,H5 p=some (.lst ys)∧ys.length < sizeLine∧N σ3 (upd H5 p (.lst (ys++[y]))) else N σ3 H4)
def tComp (own:List Str) (fr:List Nat) (wi:TI) (g:TG) (tt:TT) (te:TE):TE:=fun σ H Q=>wi σ H fun J H1=>∀ p,H1 p=none→CompGo J p g tt te Q (blkS own fr σ) (upd H1 p (.lst []))
theorem comp_run {X:Cx} {scope:Scope} {own:List Str} {fr:List Nat} {elt tg iter:Expr} {ifs:List Expr} {pos:Pos} {wi:TI} {g:TG} {tt:TT} {te:TE} {use:Option (Value→Sem Unit)} (hc:X.calm=true) (O:CompOk X scope fr) (hi:PI X tg iter wi)
  (hb:∀ s H ex,PG (blk X scope own fr s H ex) tg g∧PTs (blk X scope own fr s H ex) ifs tt∧PE (blk X scope own fr s H ex) elt te)
  (hs:∀ x,foldedSetIterable iter X.env x=pure x) {pins:List (Addr×Obj)} {s:Shared} {σ:St} {H:Hp} {Q:VK} {R:Value→Shared→Prop} (I:Inv X pins σ H s) (h:tComp own fr wi g tt te σ H Q) (hx:∀ e s',X.xe e s'↔False)
  (fin:∀ (p C:Addr) (H':Hp) (s':Shared) (m:Str→Option Value),s'.heap.Ns C m→H' C=none→C≠X.env.locals→(∀ x c,X.env.cells.lookup x=some c→c≠C)→Inv X pins σ H' s'→(∀ h',Heap.SameBut C s'.heap h'→Inv X pins σ H' { s' with heap:=h' })→Q (.ref p) H'→
   compPost (model X.prog X.w) X.A X.xe use R (.ref p) C (.ok .next) s') :
  wpAny (model X.prog X.w) X.A (comprehension (.ListComp elt [⟨tg,iter,ifs,0⟩] scope pos) scope X.env (firstIterPos [⟨tg,iter,ifs,0⟩] pos) (newList []) false (eval iter X.env) use) R X.xe s:=by
 have hsome:∀ x∈scope.names,x.2=.free→(X.env.cells.lookup x.1).isSome=true:=fun x hx' e=>by
  obtain ⟨c,hc⟩:=I.ok.has x.1 (O.frees x hx' e)
  rw [hc];rfl
 have no:∀ (E:Value→Shared→Prop) (x:Value) (s':Shared),X.xe x s'→E x s':=fun E x s' z=>((hx x s').mp z).elim
 refine wpAny_comprehension_free (cl:=clOf X.env.cells scope.names []) rfl hs (closure_cl hsome) O.kind O.loc ?_
 refine thn (hi pins s σ H _ I h) fun v s1 h1=>thn h1 fun itv s2 h2=>?_
 obtain ⟨it,fp,tn,J,H2,e,I2,T,st2,f2,q2⟩:=h2
 subst e
 refine wpAny_newObj_type ?_
 have nw:H2 s2.heap.objs.size=none:=I2.fresh
 obtain ⟨W,⟨m0,w0⟩,turn⟩:=q2 _ nw
 generalize hp:s2.heap.objs.size=p at *
 have I3:Inv X pins σ (upd H2 p (.lst [])) { s2 with heap:=s2.heap.push { cls:=.type "list",dict:=none,data:=.seq ([]:List Value).toArray } }:=by
  have:=I2.lnew (ys:=[]) (its:=[]) (t':=s2.toks) .nil (Nat.zero_le _)
  rw [hp] at this
  exact this
 have lt2:∀ b∈fp,b < s2.heap.objs.size:=fun b hb=>by
  obtain ⟨o,ho,_⟩:=T.obj _ _ st2 b hb
  exact Heap.lt_size ho
 have fpn:∀ b∈fp,(upd H2 p (.lst [])) b=none:=fun b hb=>by
  rw [upd_ne (by rw [← hp];exact Nat.ne_of_lt (lt2 b hb))]
  exact (f2 b hb).1
 generalize hs3:({ s2 with heap:=s2.heap.push { cls:=.type "list",dict:=none,data:=.seq ([]:List Value).toArray } }:Shared)=s3 at *
 have sz3:s3.heap.objs.size=p+1:=by
  rw [← hs3]
  show (s2.heap.push _).objs.size=_
  rw [Heap.size_push,hp]
 have st3:tn 0 s3.heap:=T.keep 0 _ _ st2 fun b hb o e=>by
  rw [← hs3]
  exact Heap.get?_push_of_some _ e
 refine wpAny_newFunctionEnv O.nocell (by intro y hy;simp at hy) (fun h4 hns4 hsb4=>?_) O.kind
 have k4:∀ b o,s3.heap.get? b=some o→h4.get? b=some o:=fun b o e=>hsb4.extBut b o (Nat.ne_of_lt (Heap.lt_size e)) (Heap.get?_push_of_some _ e)
 have hns4':h4.Ns s3.heap.objs.size fun _=>none:=by
  have z:(fun x:Str=>([]:List (Str×Value)).reverse.lookup x)=fun _=>none:=by funext x;rfl
  rw [z] at hns4
  exact hns4
 have fo:∀ b∈fp,FpOk X pins (upd H2 p (.lst [])) b∧b < s3.heap.objs.size:=fun b hb=>⟨⟨fpn b hb,(f2 b hb).2⟩,by rw [sz3,← hp];exact Nat.lt_succ_of_lt (lt2 b hb)⟩
 have I4:=inv_blk (own:=own) (fr:=fr) (t1:=s3.toks+([]:List (Str×Value)).length) I3 O fo hns4' k4
 have st4:tn 0 h4:=T.keep 0 _ _ st3 fun b hb o e=>k4 b o e
 obtain ⟨hg,ht,he⟩:=hb s3 (upd H2 p (.lst [])) fp
 have stat:∀ {H':Hp} {pn:List (Addr×Obj)} {s':Shared} {σ':St},Inv (blk X scope own fr s3 (upd H2 p (.lst [])) fp) [] σ' H' s'→(∀ b∈fp,H' b=none)→∀ b∈fp,FpOk (blk X scope own fr s3 (upd H2 p (.lst [])) fp) [] H' b:=fun {H' pn s' σ'} J hn b hb'=>
  ⟨hn b hb',(J.ok.exf b hb').1,J.ok.exfs b hb',.inl hb',(J.ok.exf b hb').2,fun p hp=>absurd hp (by simp [blk])⟩
 have nocells:∀ x c,X.env.cells.lookup x=some c→c≠s3.heap.objs.size:=fun x c e=>by
  obtain ⟨v,q⟩:=I3.cell x c e
  exact Nat.ne_of_lt q.lt
 have loop:∀ s5:Shared,s5={ s3 with heap:=h4,toks:=s3.toks+([]:List (Str×Value)).length }→
   codeAny (model X.prog X.w) X.A (.compLoop (.ListComp elt [⟨tg,iter,ifs,0⟩] scope pos) 0 (.ref it) (.ref p) (blk X scope own fr s3 (upd H2 p (.lst [])) fp).env) (compPost (model X.prog X.w) X.A X.xe use R (.ref p) s3.heap.objs.size) s5:=by
  rintro s5 rfl
  refine compLoop_gen (fun n s'=>∃ i σ' H',Inv (blk X scope own fr s3 (upd H2 p (.lst [])) fp) [] σ' H' s'∧tn i s'.heap∧(∀ b∈fp,H' b=none)∧W i n σ' H') ?_ m0 ⟨0,_,_,I4,st4,fpn,w0⟩
  rintro n s6 ⟨i,σ6,H6,I6,st6,fr6,w6⟩
  rcases turn i n σ6 H6 w6 with ⟨stop,qn⟩ | ⟨go,N,hN,step⟩
  ·refine thn (T.done (blk X scope own fr s3 (upd H2 p (.lst [])) fp) rfl rfl rfl hc i [] s6 σ6 H6 _ I6 (stat (pn:=[]) I6 fr6) st6 stop) fun r s7 ⟨hr,I7⟩=>?_
   subst hr
   obtain ⟨m,hm,_⟩:=I7.loc
   exact fin p _ H6 s7 m hm I7.free (Nat.ne_of_gt I3.lt) nocells (blk_back I3 fo I7 (Heap.SameBut.refl ..)) (fun h' hs'=>blk_back I3 fo I7 hs') qn
  ·refine thn (T.item (blk X scope own fr s3 (upd H2 p (.lst [])) fp) rfl rfl rfl hc i [] s6 σ6 H6 _ I6 (stat (pn:=[]) I6 fr6) st6 go) fun r s7 ⟨u,hr,h7⟩=>?_
   subst hr
   refine thn h7 fun _ s8 ⟨x,H8,I8,r8,y8,st8,fr8⟩=>?_
   have I8':=I8.pinned (stat (pn:=[]) I8 fr8) (T.obj _ _ st8)
   refine thn (hg _ s8 σ6 H8 x u _ I8' r8 (step x H8 y8)) fun _ s9 ⟨σ9,H9,I9,q9⟩=>?_
   refine thn (ht _ s9 σ9 H9 _ I9 q9) fun ok s10 ⟨H10,I10,q10⟩=>?_
   have again:∀ {H11:Hp} {s11:Shared},Inv (blk X scope own fr s3 (upd H2 p (.lst [])) fp) ([]++pinsAt fp s8.heap) σ9 H11 s11→(∃ m',m' < n∧W (i+1) m' σ9 H11)→
     ∃ m,m < n∧∃ i σ' H',Inv (blk X scope own fr s3 (upd H2 p (.lst [])) fp) [] σ' H' s11∧tn i s11.heap∧(∀ b∈fp,H' b=none)∧W i m σ' H':=fun {H11 s11} I11 ⟨m',hm,w11⟩=>by
    refine ⟨m',hm,i+1,σ9,H11,I11.unpinned,T.keep _ _ _ st8 fun b hb' o e=>(I11.pin (b,o) (List.mem_append_right _ (List.mem_append_right _ (mem_pinsAt hb' e)))).1,fun b hb'=>?_,w11⟩
    obtain ⟨o,e,d⟩:=T.obj _ _ st8 b hb'
    exact (I11.pin (b,o) (List.mem_append_right _ (List.mem_append_right _ (mem_pinsAt hb' e)))).2.1
   cases ok with
   | false=>
    rw [if_neg Bool.false_ne_true] at q10 ⊢
    exact again I10 (hN _ _ q10)
   | true=>
    rw [if_pos rfl] at q10 ⊢
    refine thn (he _ s10 σ9 H10 _ I10 q10) fun yv s11 ⟨y,H11,I11,r11,ys,hys,hlen,q11⟩=>?_
    have ap:=mt_append (X:=blk X scope own fr s3 (upd H2 p (.lst [])) fp) ([]++pinsAt fp s8.heap) s11 σ9 H11 (.ref p) [y] (.ref p) [yv] (fun _ H12=>∃ m',m' < n∧W (i+1) m' σ9 H12) I11 rfl (.cons r11 .nil) ⟨p,ys,y,rfl,rfl,hys,hlen,hN _ _ q11⟩
    exact thn ap fun _ s12 ⟨_,H12,I12,_,q12⟩=>again I12 q12
 refine codeAny_compStart_list (loop _ rfl) (T.self X.A 0 _ _ _ st4 (loop _ rfl))
theorem pe_comp {X:Cx} {scope:Scope} {elt tg iter:Expr} {ifs:List Expr} {pos:Pos} {wi:TI} {g:TG} {tt:TT} {te:TE} (own:List Str) (fr:List Nat) (hc:X.calm=true) (O:CompOk X scope fr) (hi:PI X.nox tg iter wi)
  (hb:∀ s H ex,PG (blk X.nox scope own fr s H ex) tg g∧PTs (blk X.nox scope own fr s H ex) ifs tt∧PE (blk X.nox scope own fr s H ex) elt te)
  (hs:∀ x,foldedSetIterable iter X.env x=pure x:=by intro _;rfl):PE X.nox (.ListComp elt [⟨tg,iter,ifs,0⟩] scope pos) (tComp own fr wi g tt te):=by
 intro pins s σ H Q I h
 rw [eval_ListComp]
 refine comp_run (X:=X.nox) (use:=none) (Q:=Q) hc ⟨O.kind,O.nocell,O.loc,O.frees,O.fr⟩ hi hb hs I h (fun _ _=>Iff.rfl) fun p C H' s' m hm hC _ _ I' back q=>?_
 exact ⟨m,hm,fun h' hs'=>⟨.ref p,H',back h' hs',rfl,q⟩⟩
section
variable {p:Addr} {g:TG} {tt:TT} {te:TE} {σ:St} {H:Hp} {Q:VK}
theorem comp_by (J:It) (n:Nat) (Pv:Nat→St→Hp→Prop) (h0:Pv 0 σ H) (stop:∀ σ' H',Pv n σ' H'→J.stop n H') (go:∀ i σ' H',i < n→Pv i σ' H'→J.go i H')
  (hs:∀ i σ' H',i < n→Pv i σ' H'→∀ x H2,J.yld i H' x H2→g x σ' H2 fun σ3 H3=>tt σ3 H3 fun c H4=>if c=true then te σ3 H4 fun y H5=>∃ ys,H5 p=some (.lst ys)∧ys.length < sizeLine∧Pv (i+1) σ3 (upd H5 p (.lst (ys++[y]))) else Pv (i+1) σ3 H4)
  (hd:∀ σ' H',Pv n σ' H'→Q (.ref p) H'):CompGo J p g tt te Q σ H:=by
 refine ⟨fun i m σ H=>m=n - i∧i≤n∧Pv i σ H,⟨n,by simp,Nat.zero_le _,h0⟩,?_⟩
 rintro i m σ1 H1 ⟨rfl,hi,pv⟩
 by_cases hlt:i < n
 ·exact .inr ⟨go i σ1 H1 hlt pv,Pv (i+1),fun σ3 H3 q=>⟨n - (i+1),by omega,rfl,hlt,q⟩,hs i σ1 H1 hlt pv⟩
 ·have e:i=n:=by omega
  subst e
  exact .inl ⟨stop σ1 H1 pv,hd σ1 H1 pv⟩
theorem comp_range {lo:Int} {n:Nat} (Pv:Nat→St→Hp→Prop) (h0:Pv 0 σ H)
  (hs:∀ i σ' H',i < n→Pv i σ' H'→g (.int (lo+i)) σ' H' fun σ3 H3=>tt σ3 H3 fun c H4=>if c=true then te σ3 H4 fun y H5=>∃ ys,H5 p=some (.lst ys)∧ys.length < sizeLine∧Pv (i+1) σ3 (upd H5 p (.lst (ys++[y]))) else Pv (i+1) σ3 H4)
  (hd:∀ σ' H',Pv n σ' H'→Q (.ref p) H'):CompGo (Itr lo n) p g tt te Q σ H:=
 comp_by (Itr lo n) n Pv h0 (fun _ _ _=>Nat.le_refl _) (fun i _ _ h _=>h) (fun i σ' H' h pv x H2 y=>by
  obtain ⟨e1,e2⟩:=y
  subst e1 e2
  exact hs i σ' _ h pv) hd
theorem comp_tup {K:PySem.W.Frag} {a:Addr} {xs:List V} (Pv:Nat→St→Hp→Prop) (h0:Pv 0 σ H) (hl:∀ i σ' H',i≤xs.length→Pv i σ' H'→SqT K H' a xs)
  (hs:∀ i x σ' H',xs[i]?=some x→Pv i σ' H'→g x σ' H' fun σ3 H3=>tt σ3 H3 fun c H4=>if c=true then te σ3 H4 fun y H5=>∃ ys,H5 p=some (.lst ys)∧ys.length < sizeLine∧Pv (i+1) σ3 (upd H5 p (.lst (ys++[y]))) else Pv (i+1) σ3 H4)
  (hd:∀ σ' H',Pv xs.length σ' H'→Q (.ref p) H'):CompGo (Itt K a) p g tt te Q σ H:=
 comp_by (Itt K a) xs.length Pv h0 (fun σ' H' pv=>⟨xs,hl _ σ' H' (Nat.le_refl _) pv,Nat.le_refl _⟩) (fun i σ' H' h pv=>⟨xs,xs[i],hl i σ' H' (Nat.le_of_lt h) pv,by simp [h]⟩) (fun i σ' H' h pv x H2 y=>by
  obtain ⟨e1,e2⟩:=y
  subst e1
  exact hs i x σ' _ (e2 xs (hl i σ' _ (Nat.le_of_lt h) pv)) pv) hd
theorem comp_list {K:PySem.W.Frag} {a:Addr} {xs:List V} (Pv:Nat→St→Hp→Prop) (h0:Pv 0 σ H) (hl:∀ i σ' H',i≤xs.length→Pv i σ' H'→SqL K H' a xs)
  (hs:∀ i x σ' H',xs[i]?=some x→Pv i σ' H'→g x σ' H' fun σ3 H3=>tt σ3 H3 fun c H4=>if c=true then te σ3 H4 fun y H5=>∃ ys,H5 p=some (.lst ys)∧ys.length < sizeLine∧Pv (i+1) σ3 (upd H5 p (.lst (ys++[y]))) else Pv (i+1) σ3 H4)
  (hd:∀ σ' H',Pv xs.length σ' H'→Q (.ref p) H'):CompGo (Itl K a) p g tt te Q σ H:=
 comp_by (Itl K a) xs.length Pv h0 (fun σ' H' pv=>⟨xs,hl _ σ' H' (Nat.le_refl _) pv,Nat.le_refl _⟩) (fun i σ' H' h pv=>⟨xs,xs[i],hl i σ' H' (Nat.le_of_lt h) pv,by simp [h]⟩) (fun i σ' H' h pv x H2 y=>by
  obtain ⟨e1,e2⟩:=y
  subst e1
  exact hs i x σ' _ (e2 xs (hl i σ' _ (Nat.le_of_lt h) pv)) pv) hd
end
open PySem PySem.Spec PyProof.Rows
inductive D where
 | int (i:Int) | str (x:Str) | tup (ds:List D)
mutual
def Held (H:Hp):D→V→Prop
 | .int i,v=>v=.int i
 | .str x,v=>v=.str x
 | .tup ds,v=>∃ a xs,v=.ref a∧H a=some (.tup xs)∧HeldL H ds xs
def HeldL (H:Hp):List D→List V→Prop
 | [],vs=>vs=[]
 | d :: ds,vs=>∃ v r,vs=v :: r∧Held H d v∧HeldL H ds r
end
mutual
theorem Held.mono {H H':Hp} (e:Same H H'):∀ {d:D} {v:V},Held H d v→Held H' d v
 | .int i,v,h=>by unfold Held at h ⊢;exact h
 | .str x,v,h=>by unfold Held at h ⊢;exact h
 | .tup ds,v,h=>by
  unfold Held at h ⊢
  obtain ⟨a,xs,e1,e2,e3⟩:=h
  exact ⟨a,xs,e1,e a _ e2,HeldL.mono e e3⟩
theorem HeldL.mono {H H':Hp} (e:Same H H'):∀ {ds:List D} {vs:List V},HeldL H ds vs→HeldL H' ds vs
 | [],vs,h=>by unfold HeldL at h ⊢;exact h
 | d :: ds,vs,h=>by
  unfold HeldL at h ⊢
  obtain ⟨v,r,e1,e2,e3⟩:=h
  exact ⟨v,r,e1,Held.mono e e2,HeldL.mono e e3⟩
end
theorem held_int {H:Hp} {i:Int}:Held H (.int i) (.int i):=by unfold Held;rfl
theorem held_str {H:Hp} {x:Str}:Held H (.str x) (.str x):=by unfold Held;rfl
theorem held_tup {H:Hp} {a:Addr} {xs:List V} {ds:List D} (e:H a=some (.tup xs)) (h:HeldL H ds xs):Held H (.tup ds) (.ref a):=by unfold Held;exact ⟨a,xs,rfl,e,h⟩
theorem heldL_nil {H:Hp}:HeldL H [] []:=by unfold HeldL;rfl
theorem heldL_cons {H:Hp} {d:D} {ds:List D} {v:V} {r:List V} (h:Held H d v) (t:HeldL H ds r):HeldL H (d :: ds) (v :: r):=by unfold HeldL;exact ⟨v,r,rfl,h,t⟩
theorem HeldL.length {H:Hp}:∀ {ds:List D} {vs:List V},HeldL H ds vs→ds.length=vs.length
 | [],vs,h=>by unfold HeldL at h;subst h;rfl
 | d :: ds,vs,h=>by
  unfold HeldL at h
  obtain ⟨v,r,e1,_,e3⟩:=h
  subst e1
  rw [List.length_cons,List.length_cons,HeldL.length e3]
theorem HeldL.get {H:Hp}:∀ {ds:List D} {vs:List V} {j:Nat} {d:D},HeldL H ds vs→ds[j]?=some d→∃ v,vs[j]?=some v∧Held H d v
 | [],_,_,_,_,e=>by simp at e
 | d :: ds,vs,0,d',h,e=>by
  unfold HeldL at h
  obtain ⟨v,r,e1,e2,e3⟩:=h
  simp at e;subst e e1
  exact ⟨v,rfl,e2⟩
 | d :: ds,vs,j+1,d',h,e=>by
  unfold HeldL at h
  obtain ⟨v,r,e1,e2,e3⟩:=h
  subst e1
  obtain ⟨w,h1,h2⟩:=HeldL.get (j:=j) (d:=d') e3 (by simpa using e)
  exact ⟨w,by simpa using h1,h2⟩
mutual
def D.depth:D→Nat
 | .int _=>0
 | .str _=>0
 | .tup ds=>D.depthL ds+1
def D.depthL:List D→Nat
 | []=>0
 | d :: ds=>max (D.depth d) (D.depthL ds)
end
theorem D.depthL_get:∀ {ds:List D} {j:Nat} {d:D},ds[j]?=some d→d.depth≤D.depthL ds
 | [],_,_,e=>by simp at e
 | d :: ds,0,d',e=>by simp at e;subst e;unfold D.depthL;exact Nat.le_max_left _ _
 | d :: ds,j+1,d',e=>by unfold D.depthL;exact Nat.le_trans (D.depthL_get (j:=j) (by simpa using e)) (Nat.le_max_right _ _)
section
variable {X:Cx} {pins:List (Addr×Obj)} {σ:St} {H:Hp} {s:Shared}
theorem call_dict_copy:CallR X (.type "dict") (fun xs H Q=>∃ a kvs,xs=[.ref a]∧H a=some (.dK kvs)∧∀ p,H p=none→Q (.ref p) (upd H p (.dK kvs))):=by
 intro pins s σ H xs us Q I r h
 obtain ⟨a,kvs,rfl,ha,q⟩:=h
 obtain ⟨u,rfl,ru⟩:=vals1 r
 cases ru
 exact d_copyOf I (.inl ha) fun p s' hn I'=>⟨.ref p,_,I',rfl,q p hn⟩
end
section
variable {prog:Program} {w:World} {A:Around} {E:Value→Shared→Prop}
end
theorem op_fdivB {X:Cx}:OpR X (binaryOp .FloorDiv) (rI (fun _ j=>0 < j∧j < 2 ^ 200) fun i j=>.int (i / j)):=opI fun i j _ _ _ _ _ hc q=>by
 refine floordiv_int (by omega) ?_ (.inl (PyProof.noPylong_of_log2 ?_))
 ·rw [Int.fdiv_eq_ediv_of_nonneg _ (by omega)]
  exact q
 ·have h0:j.natAbs≠0:=by omega
  exact Nat.lt_trans ((Nat.log2_lt h0).mpr (show j.natAbs < 2 ^ 200 by omega)) (by decide)
theorem call_all {X:Cx} (hc:X.calm=true):CallR X (.builtin "all") (fun xs H Q=>∃ (p:Addr) (ys:List Bool),xs=[.ref p]∧SqL X.K H p (ys.map V.bl)∧Q (.bl (ys.all id)) H):=by
 intro pins s σ H xs us Q I r h
 obtain ⟨p,ys,rfl,hq,q⟩:=h
 obtain ⟨u,rfl,ru⟩:=vals1 r
 cases ru
 obtain ⟨its,rv,hp,hz⟩:=I.list hq
 refine call_all_walk (wpAny_pyIter_list hp.isList ?_)
 have hne:p≠s.heap.objs.size:=by
  obtain ⟨o,ho,_⟩:=hp.isList
  exact Nat.ne_of_lt (Heap.lt_size ho)
 have hl:=rv.length
 rw [List.length_map] at hl
 refine ⟨_,_,_,_,_,_,fun i=>ys.getD i false,rfl,Walks.list (A:=X.A.in1) (show X.A.in1.handled=none from I.ok.hd hc) s.heap.objs.size p hne its.toArray,⟨⟨_,Heap.get?_push_size _ rfl,rfl,rfl⟩,hp.isList.at fun o e=>Heap.get?_push_of_some _ e⟩,?_,?_⟩
 ·intro i v s1 Q1 E1 hv hq1
  have hv':its[i]?=some v:=by simpa using hv
  have hi:i < its.length:=(List.getElem?_eq_some_iff.mp hv').1
  have ey:(ys.map V.bl)[i]?=some (.bl (ys[i]'(by omega))):=by rw [List.getElem?_map,List.getElem?_eq_getElem (by omega)];rfl
  obtain ⟨w,hw,rw'⟩:=rv.get ey
  rw [hv'] at hw;cases hw
  cases rw'
  have:ys.getD i false=ys[i]'(by omega):=by rw [List.getD_eq_getElem?_getD,List.getElem?_eq_getElem (by omega)];rfl
  have hq2:Q1 (ys.getD i false) s1:=hq1
  rw [this] at hq2
  exact wpAny_truthy_bool hq2
 ·intro h' tk hk
  have e:((List.range its.toArray.size).all fun i=>ys.getD i false)=ys.all id:=by
   have el:its.toArray.size=ys.length:=by simp;omega
   rw [el]
   apply Bool.eq_iff_iff.mpr
   rw [List.all_eq_true,List.all_eq_true]
   constructor
   ·intro h x hx
    obtain ⟨i,hi,rfl⟩:=List.mem_iff_getElem.mp hx
    have:=h i (List.mem_range.mpr hi)
    rw [List.getD_eq_getElem?_getD,List.getElem?_eq_getElem hi] at this
    exact this
   ·intro h i hi
    have hi:=List.mem_range.mp hi
    rw [List.getD_eq_getElem?_getD,List.getElem?_eq_getElem hi]
    exact h _ (List.getElem_mem hi)
  rw [e]
  exact ⟨.bl (ys.all id),H,I.kept (t':=tk) fun b o e=>hk b o (by simp;exact Nat.ne_of_lt (Heap.lt_size e)) (Heap.get?_push_of_some _ e),rfl,q⟩
theorem call_isinst {X:Cx}:CallR X (.builtin "isinstance") (fun xs H Q=>∃ x t T b,xs=[x,.ty T]∧TyOf X.K H x t∧PySem.W.kitOne X.K t (.type T)=some b∧Q (.bl b) H):=by
 intro pins s σ H xs us Q I r h
 obtain ⟨x,t,T,b,rfl,ty,e,q⟩:=h
 obtain ⟨u,v,rfl,ru,rv⟩:=vals2 r
 cases rv
 exact isinst_ok I ru ty e fun tk=>⟨.bl b,H,I.tok _,rfl,q⟩
theorem kit_tt (K:PySem.W.Frag):PySem.W.kitOne K (.type "tuple") (.type "tuple")=some true:=rfl
theorem kit_ii (K:PySem.W.Frag):PySem.W.kitOne K (.type "int") (.type "int")=some true:=rfl
theorem kit_ib (K:PySem.W.Frag):PySem.W.kitOne K (.type "int") (.type "bool")=some false:=rfl
def plainE:Expr→Bool
 | .Starred _ _=>false
 | _=>true
theorem se_plain {e:Expr} (h:plainE e=true) (rest:List Expr) (env:Env):starEach (e :: rest) env=(false,eval e env) :: starEach rest env:=by
 cases e <;> first | rfl | cases h
theorem se_any (pos:Pos) (env:Env):∀ es:List Expr,es.all plainE=true→(backTo pos (starEach es env)).any (·.1)=false
 | [],_=>rfl
 | e :: es,h=>by
  rw [List.all_cons,Bool.and_eq_true] at h
  rw [se_plain h.1]
  have ih:=se_any pos env es h.2
  show (false || (backTo pos (starEach es env)).any (·.1))=false
  rw [ih]
  rfl
theorem pa_c {X:Cx} {e:Expr} {es:List Expr} {te:TE} {t:TA} (ha:PE X e te) (hr:PA X es t) (hp:plainE e=true:=by rfl):PA X (e :: es) (tCons te t):=pa_cons ha hr (se_plain hp es X.env)
theorem pe_cB {X:Cx} {x:Str} {p pos:Pos} {e:Expr} {es:List Expr} {t:TA} {id:String} {r:List V→Hp→VK→Prop} (hc:CallR X (.builtin id) r) (hg:Gl X x) (hm:X.mg x=none) (hv:bootBuiltins x=some (.builtin id)) (ha:PA X (e :: es) t) (hp:(e :: es).all plainE=true:=by rfl) (hn:x≠"__name__":=by decide) (hdb:(x == ("__debug__" : Str))=false:=by decide) :
  PE X (.Call (.Name x p) (e :: es) [] pos) (tCB r t):=by
 rw [List.all_cons,Bool.and_eq_true] at hp
 exact pe_callB hc hg hm hv ha hn hdb (se_plain hp.1 es X.env) (se_any pos X.env es hp.2)
theorem pe_cT {X:Cx} {x:Str} {p pos:Pos} {e:Expr} {es:List Expr} {t:TA} {T:String} {r:List V→Hp→VK→Prop} (hc:CallR X (.type T) r) (hg:Gl X x) (hm:X.mg x=none) (hv:bootBuiltins x=some (.type T)) (ha:PA X (e :: es) t) (hp:(e :: es).all plainE=true:=by rfl) (hn:x≠"__name__":=by decide) (hdb:(x == ("__debug__" : Str))=false:=by decide) :
  PE X (.Call (.Name x p) (e :: es) [] pos) (tCB r t):=by
 rw [List.all_cons,Bool.and_eq_true] at hp
 exact pe_callTy hc hg hm hv ha hn hdb (se_plain hp.1 es X.env) (se_any pos X.env es hp.2)
structure Fn (P:Program) (w:World) (K:PySem.W.Frag) (mg:Str→Option Value) (base:Heap) (k:Nat) (x:Str) (ps:List Str) (sp:Sp):Prop where
 ex:∃ f fd,FnOk P w K mg base CX0 k f fd ps sp∧Binds K fd ps []∧PySem.W.keepIn K (.ref f)=true∧mg x=some (.ref f)
theorem pe_fn {X:Cx} {k k':Nat} {x:Str} {ps:List Str} {sp:Sp} {e:Expr} {es:List Expr} {t:TA} {p pos:Pos} (F:Fn X.prog X.w X.K X.mg X.base k x ps sp) (hr:Room k' X.A) (ha:PA X (e :: es) t) (hk:k≤k':=by decide) (hg:Gl X x:=by rfl)
  (hd:(x == ("__debug__" : Str))=false:=by decide) (hp:(e :: es).all plainE=true:=by rfl):PE X (.Call (.Name x p) (e :: es) [] pos) (tCall sp [] E0 t):=by
 obtain ⟨f,fd,G,b,kp,m⟩:=F.ex
 rw [List.all_cons,Bool.and_eq_true] at hp
 exact pe_call G (hr.mono hk) hg m kp b .nil pass0 ha hd (se_plain hp.1 es X.env) (se_any pos X.env es hp.2)
theorem Fn.mk' {P:Program} {w:World} {K:PySem.W.Frag} {mg:Str→Option Value} {base:Heap} {k:Nat} {x:Str} {ps:List Str} {sp:Sp} {st:Stmt} {f:Addr} {fd:FuncData} (F:Fun K x x st f fd) (b:Binds K fd ps []) (m:mg x=some (.ref f)) (G:FnOk P w K mg base CX0 k f fd ps sp):Fn P w K mg base k x ps sp:=⟨f,fd,G,b,F.kp,m⟩
theorem comp_ok {X:Cx} {scope:Scope} {fr:List Nat} {sc:Scope} {N:List Str} (h1:X.env.scope=sc) (h2:X.N=N) (h:scope.kind=.function∧(∀ y∈scope.names,y.2≠.cell)∧(∀ y∈scope.names,y.2=.local→scope.names.lookup y.1=some .local)∧
  (∀ y∈scope.names,y.2=.free→sc.names.lookup y.1=some .cell∨sc.names.lookup y.1=some .free)∧∀ j∈fr,scope.names.lookup (N.getD j (Str.ofString ""))=some .free):CompOk X scope fr:=by
 obtain ⟨a,b,c,d,e⟩:=h
 exact ⟨a,b,c,by rw [h1];exact d,by rw [h2];exact e⟩
theorem bt_len:bootBuiltins "len" = some (.builtin "len"):=by decide +kernel
theorem bt_max:bootBuiltins "max" = some (.builtin "max"):=by decide +kernel
theorem bt_min:bootBuiltins "min" = some (.builtin "min"):=by decide +kernel
theorem bt_all:bootBuiltins "all" = some (.builtin "all"):=by decide +kernel
theorem bt_isinstance:bootBuiltins "isinstance" = some (.builtin "isinstance"):=by decide +kernel
theorem bt_sorted:bootBuiltins "sorted" = some (.builtin "sorted"):=by decide +kernel
theorem bt_int:bootBuiltins "int" = some (.type "int"):=by decide +kernel
theorem bt_bool:bootBuiltins "bool" = some (.type "bool"):=by decide +kernel
theorem bt_tuple:bootBuiltins "tuple" = some (.type "tuple"):=by decide +kernel
theorem bt_list:bootBuiltins "list" = some (.type "list"):=by decide +kernel
theorem bt_dict:bootBuiltins "dict" = some (.type "dict"):=by decide +kernel
theorem bt_set:bootBuiltins "set" = some (.type "set"):=by decide +kernel
structure Free0 (mg:Str→Option Value):Prop where
 len_:mg "len" = none
 max_:mg "max" = none
 min_:mg "min" = none
 all_:mg "all" = none
 isinstance_:mg "isinstance" = none
 abs_:mg "abs" = none
 sorted_:mg "sorted" = none
 int_:mg "int" = none
 str_:mg "str" = none
 bool_:mg "bool" = none
 tuple_:mg "tuple" = none
 list_:mg "list" = none
 dict_:mg "dict" = none
 range_:mg "range" = none
 set_:mg "set" = none
theorem ix_listK {X:Cx} {K:PySem.W.Frag} (h:X.K=K:=by rfl):IxR X (rIxL K):=by subst h;exact ix_list
theorem ix_tupK {X:Cx} {K:PySem.W.Frag} (h:X.K=K:=by rfl):IxR X (rIxT K):=by subst h;exact ix_tup
theorem pg_tupK {X:Cx} {K:PySem.W.Frag} {pos:Pos} {es:List Expr} {k:Nat} {t:TGs} {n:Nat} (hc:X.calm=true) (h:PGs X es t) (hK:X.K=K:=by rfl)
  (hn:(assignEach es X.env).length=n:=by rfl) (hst:(assignEach es X.env).findIdx? (·.1)=none:=by rfl):PG X (.Tuple es k pos) (gTup K n t):=by subst hK;exact pg_tup hc h hn hst
structure QS (X:Cx) (st:Stmt) (t:TS):Prop where
 h:PS X st t
structure QSs (X:Cx) (st:List Stmt) (t:TS):Prop where
 h:PSs X st t
theorem qs {X:Cx} {st:Stmt} {t:TS} (h:PS X st t):QS X st t:=⟨h⟩
theorem qss_cons {X:Cx} {st:Stmt} {rest:List Stmt} {t u:TS} (h1:QS X st t) (h2:QSs X rest u):QSs X (st :: rest) (tSeq t u):=⟨pss_cons h1.h h2.h⟩
theorem qss_one {X:Cx} {st:Stmt} {t:TS} (h1:QS X st t):QSs X [st] t:=⟨pss_one h1.h⟩
open PySem PySem.Spec PyProof.Rows
theorem Same.sqT {K:PySem.W.Frag} {H H':Hp} {a:Addr} {xs:List V} (e:Same H H') (h:SqT K H a xs):SqT K H' a xs:=by
 rcases h with (h | ⟨o,h⟩) | h
 ·exact .inl (.inl (e _ _ h))
 ·exact .inl (.inr ⟨o,e _ _ h⟩)
 ·exact .inr h
theorem ints_are:∀ {ns:List Int} {its:List Value},Vals (ns.map V.int) its→IntsAre its ns
 | [],_,r=>by cases r;exact .nil
 | n :: ns,_,r=>by
  cases r with
  | cons h r=>
   obtain ⟨t,rfl⟩:=h
   exact .cons n t (ints_are r)
theorem op_add_list {X:Cx}:OpR X (binaryOp .Add) (fun x y H Q=>∃ a b xs ys,x=.ref a∧y=.ref b∧SqL X.K H a xs∧SqL X.K H b ys∧xs.length+ys.length≤sizeLine∧∀ l,H l=none→Q (.ref l) (upd H l (.lst (xs++ys)))):=by
 intro pins s σ H x y v u Q I rx ry h
 obtain ⟨a,b,xs,ys,rfl,rfl,ha,hb,hz,q⟩:=h
 cases rx;cases ry
 obtain ⟨its,rv,⟨⟨c1,d1,t1,l1⟩,n1,o1,z1,z2,z3⟩,hz1⟩:=I.list ha
 obtain ⟨its2,rv2,⟨⟨c2,d2,t2,l2⟩,n2,o2,y1,y2,y3⟩,hz2⟩:=I.list hb
 simp only at z1 z2 z3 y1 y2 y3
 subst z1 z2 z3 y1 y2 y3
 have h1:=rv.length
 have h2:=rv2.length
 refine concat_meets ⟨_,o1,rfl⟩ ⟨_,o2,rfl⟩ noFill_list_add seq_list_add PySem.F.slot_list_add PySem.F.entry_list_add (PySem.F.args_list_add_2 _ _)
  (list_addW a b its.toArray its2.toArray n1 n2 none none l1 l2 (by simp only [List.size_toArray];omega)) ⟨o1,o2,?_⟩
 have e:its.toArray++its2.toArray=(its++its2).toArray:=by simp
 rw [e]
 refine ⟨.ref s.heap.objs.size,_,I.laid (t':=s.toks) (fun b u hb=>Heap.get?_push_of_some _ hb) (Nat.le_refl _) (show ObjOk X.prog X.w _ _ _ (.lst (xs++ys)) from ⟨?_,its++its2,0,rv.append rv2,Heap.get?_push_size _ rfl⟩),rfl,q _ (I.hok.fresh (Nat.le_refl _))⟩
 rw [List.length_append]
 exact hz
end L2
namespace Tim
open PySem PyProof.Rows
def gallop':Bool→Keyed→Array Keyed→Nat→Nat→Nat→StateT SortSt Sem (Option Nat):=sortPriv% PySem.Builtin.gallop
def setMinGallop':Nat→StateT SortSt Sem Unit:=sortPriv% PySem.Builtin.setMinGallop
def beyond' (left:Bool) (key:Keyed) (arr:Array Keyed) (base:Nat) (i:Nat):StateT SortSt Sem (Option Bool):=do
 let x ← elem' arr (base+i)
 if left then lt' x key else return (← lt' key x).map (!·)
abbrev GT:Type:=Option (Option Nat)×Nat×Nat
def gtail (left:Bool) (key:Keyed) (arr:Array Keyed) (base n lo hi:Nat):StateT SortSt Sem (Option Nat):=do
 let r ← forIn [0:n] ((none,lo,hi):GT) fun _ c=>
  if c.2.1 ≥ c.2.2 then pure (.done (none,c.2.1,c.2.2)) else do
   match ← beyond' left key arr base (c.2.1+(c.2.2 - c.2.1) / 2) with
   | some yes=>if yes=true then pure (.yield (none,c.2.1+(c.2.2 - c.2.1) / 2+1,c.2.2)) else pure (.yield (none,c.2.1,c.2.1+(c.2.2 - c.2.1) / 2))
   | _=>pure (.done (some none,c.2.1,c.2.2))
 match r.1 with
 | some r=>pure r
 | none=>pure (some r.2.2)
def gup (left:Bool) (key:Keyed) (arr:Array Keyed) (base n hint:Nat):StateT SortSt Sem (Option Nat):=do
 let r ← forIn [0:n] ((none,0,1):GT) fun _ c=>
  if c.2.2 ≥ n - hint then pure (.done (none,c.2.1,c.2.2)) else do
   match ← beyond' left key arr base (hint+c.2.2) with
   | some yes=>if (!yes)=true then pure (.done (none,c.2.1,c.2.2)) else pure (.yield (none,c.2.2,2 * c.2.2+1))
   | _=>pure (.done (some none,c.2.1,c.2.2))
 match r.1 with
 | some r=>pure r
 | none=>gtail left key arr base n (hint+r.2.1+1) (hint+min r.2.2 (n - hint))
def gdown (left:Bool) (key:Keyed) (arr:Array Keyed) (base n hint:Nat):StateT SortSt Sem (Option Nat):=do
 let r ← forIn [0:n] ((none,0,1):GT) fun _ c=>
  if c.2.2 ≥ hint+1 then pure (.done (none,c.2.1,c.2.2)) else do
   match ← beyond' left key arr base (hint - c.2.2) with
   | some yes=>if yes=true then pure (.done (none,c.2.1,c.2.2)) else pure (.yield (none,c.2.2,2 * c.2.2+1))
   | _=>pure (.done (some none,c.2.1,c.2.2))
 match r.1 with
 | some r=>pure r
 | none=>gtail left key arr base n (hint+1 - min r.2.2 (hint+1)) (hint - r.2.1)
theorem gallop'_eq (left:Bool) (key:Keyed) (arr:Array Keyed) (base n hint:Nat):gallop' left key arr base n hint=(beyond' left key arr base hint >>= fun o=>match o with
  | some right=>if right=true then gup left key arr base n hint else gdown left key arr base n hint
  | _=>pure none):=by
 have e0:gallop' left key arr base n hint=(beyond' left key arr base hint >>= (_:Option Bool→StateT SortSt Sem (Option Nat))):=rfl
 rw [e0]
 congr 1
 funext o
 cases o with
 | none=>rfl
 | some right=>
  dsimp only
  congr 1
  ·unfold gup
   congr 1
   funext c
   obtain ⟨c1,c2,c3⟩:=c
   cases c1 with
   | some r=>rfl
   | none=>
    dsimp only
    unfold gtail
    congr 1
    funext d
    obtain ⟨d1,d2,d3⟩:=d
    cases d1 <;> rfl
  ·unfold gdown
   congr 1
   funext c
   obtain ⟨c1,c2,c3⟩:=c
   cases c1 with
   | some r=>rfl
   | none=>
    dsimp only
    unfold gtail
    congr 1
    funext d
    obtain ⟨d1,d2,d3⟩:=d
    cases d1 <;> rfl
section
variable {prog:Program} {w:World} {A:Around} {E:Value→Shared→Prop} {s:Shared} {κ:KeyKind}
def kq (κ:KeyKind) (p:Keyed):κ.α:=(κ.keyOf p.1).getD κ.dflt
def HasKey (κ:KeyKind) (p:Keyed):Prop:=∃ a,κ.keyOf p.1=some a
theorem wpS_lt {st:SortSt} {x y:Keyed} {Q:Option Bool→SortSt→Prop} (hO:κ.OneLt) (hk:kindOf st=oneType') (hx:HasKey κ x) (hy:HasKey κ y) (h:Q (some (κ.blt (kq κ x) (kq κ y))) st):wpS (model prog w) A E s (lt' x y) Q st:=by
 obtain ⟨a,ha⟩:=hx
 obtain ⟨b,hb⟩:=hy
 rw [lt'_eq]
 refine wpS_bind (wpS_get ?_)
 rw [hk,keyLt'_oneType]
 have e1:kq κ x=a:=by unfold kq;rw [ha];rfl
 have e2:kq κ y=b:=by unfold kq;rw [hb];rfl
 rw [e1,e2] at h
 refine wpS_bind (wpS_lift (wpAny_attempt (hO prog w A _ s x.1 y.1 a b ha hb ⟨rfl,?_⟩)))
 exact wpS_pure h
def bey (κ:KeyKind) (left:Bool) (key x:Keyed):Bool:=if left then κ.blt (kq κ x) (kq κ key) else !(κ.blt (kq κ key) (kq κ x))
theorem wpS_beyond {st:SortSt} {left:Bool} {key:Keyed} {arr:Array Keyed} {base i:Nat} {Q:Option Bool→SortSt→Prop} (hO:κ.OneLt) (hk:kindOf st=oneType') (hx:HasKey κ key) (hi:base+i < arr.size) (hy:HasKey κ arr[base+i])
  (h:Q (some (bey κ left key arr[base+i])) st):wpS (model prog w) A E s (beyond' left key arr base i) Q st:=by
 unfold beyond'
 rw [elem'_eq,getElem?_pos arr (base+i) hi]
 refine wpS_bind (wpS_pure ?_)
 cases left with
 | true=>
  simp only [if_true]
  exact wpS_lt hO hk hy hx h
 | false=>
  simp only [Bool.false_eq_true,if_false]
  refine wpS_bind (wpS_lt hO hk hx hy ?_)
  exact wpS_pure h
def Turn (b:Nat→Bool) (n k:Nat):Prop:=k≤n∧(∀ i,i < k→b i=true)∧∀ i,k≤i→i < n→b i=false
theorem wpS_gallop {st:SortSt} {left:Bool} {key:Keyed} {arr:Array Keyed} {base n hint:Nat} {Q:Option Nat→SortSt→Prop} (hO:κ.OneLt) (hk:kindOf st=oneType') (hx:HasKey κ key) (hn:base+n≤arr.size) (hh:hint < n) (hy:∀ i (h:i < arr.size),HasKey κ arr[i])
  (b:Nat→Bool) (hb:∀ i (h:base+i < arr.size),i < n→b i=bey κ left key arr[base+i]) (mono:∀ i j,i≤j→j < n→b j=true→b i=true) (h:∀ k,Turn b n k→Q (some k) st):wpS (model prog w) A E s (gallop' left key arr base n hint) Q st:=by
 have ask:∀ {Q:Option Bool→SortSt→Prop} (i:Nat),i < n→Q (some (b i)) st→wpS (model prog w) A E s (beyond' left key arr base i) Q st:=fun {Q} i hi q=>
  wpS_beyond hO hk hx (by omega) (hy _ (by omega)) (by rw [← hb i (by omega) hi];exact q)
 have fin3:∀ (lo hi:Nat),lo≤hi→hi≤n→(∀ i,i < lo→b i=true)→(∀ i,hi≤i→i < n→b i=false)→
   wpS (model prog w) A E s (gtail left key arr base n lo hi) Q st:=by
  intro lo hi h1 h2 h3 h4
  unfold gtail
  refine wpS_bind (wpS_mono (wpS_forRange (I:=fun x c st'=>st'=st∧∃ l r,c=(none,l,r)∧l≤r∧r≤n∧r - l≤n - x∧(∀ i,i < l→b i=true)∧(∀ i,r≤i→i < n→b i=false))
   (Q:=fun c st'=>st'=st∧∃ r,c=(none,r,r)∧Turn b n r) ?step ?fin ⟨rfl,lo,hi,rfl,h1,h2,by omega,h3,h4⟩) ?post)
  case fin=>
   rintro c st' ⟨rfl,l,r,rfl,g1,g2,g3,g4,g5⟩
   have:l=r:=by omega
   subst this
   exact ⟨rfl,l,rfl,g2,g4,g5⟩
  case step=>
   rintro x c st' _ hxn ⟨rfl,l,r,rfl,g1,g2,g3,g4,g5⟩
   dsimp only
   by_cases hge:l ≥ r
   ·rw [if_pos hge]
    have:l=r:=by omega
    subst this
    exact wpS_pure ⟨rfl,l,rfl,g2,g4,g5⟩
   ·rw [if_neg hge]
    refine wpS_bind (ask (l+(r - l) / 2) (by omega) ?_)
    dsimp only
    cases hbo:b (l+(r - l) / 2) with
    | true=>
     simp only [if_true]
     exact wpS_pure ⟨rfl,_,_,rfl,by omega,g2,by omega,fun i hi=>mono i _ (by omega) (by omega) hbo,g5⟩
    | false=>
     simp only [Bool.false_eq_true,if_false]
     refine wpS_pure ⟨rfl,_,_,rfl,by omega,by omega,by omega,g4,fun i hi hin=>?_⟩
     cases e:b i with
     | false=>rfl
     | true=>
      have:=mono (l+(r - l) / 2) i hi hin e
      rw [hbo] at this
      cases this
  case post=>
   rintro c st' ⟨rfl,r,rfl,g⟩
   exact wpS_pure (h r g)
 rw [gallop'_eq]
 refine wpS_bind (ask hint hh ?_)
 dsimp only
 cases hbh:b hint with
 | true=>
  simp only [if_true]
  unfold gup
  refine wpS_bind (wpS_mono (wpS_forRange (I:=fun x c st'=>st'=st∧∃ l o,c=(none,l,o)∧l < o∧x+1≤o∧hint+l < n∧b (hint+l)=true)
   (Q:=fun c st'=>st'=st∧∃ l o,c=(none,l,o)∧l < o∧hint+l < n∧b (hint+l)=true∧(n≤hint+o∨b (hint+o)=false)) ?step ?fin ⟨rfl,0,1,rfl,by omega,by omega,by omega,hbh⟩) ?post)
  case fin=>
   rintro c st' ⟨rfl,l,o,rfl,h1,h2,h3,h4⟩
   exact ⟨rfl,l,o,rfl,h1,h3,h4,.inl (by omega)⟩
  case step=>
   rintro x c st' _ hxn ⟨rfl,l,o,rfl,h1,h2,h3,h4⟩
   dsimp only
   by_cases hge:o ≥ n - hint
   ·rw [if_pos hge]
    exact wpS_pure ⟨rfl,l,o,rfl,h1,h3,h4,.inl (by omega)⟩
   ·rw [if_neg hge]
    refine wpS_bind (ask (hint+o) (by omega) ?_)
    dsimp only
    cases hbo:b (hint+o) with
    | true=>
     simp only [Bool.not_true,Bool.false_eq_true,if_false]
     exact wpS_pure ⟨rfl,o,2 * o+1,rfl,by omega,by omega,by omega,hbo⟩
    | false=>
     simp only [Bool.not_false,if_true]
     exact wpS_pure ⟨rfl,l,o,rfl,h1,h3,h4,.inr hbo⟩
  case post=>
   rintro c st' ⟨rfl,l,o,rfl,h1,h3,h4,h5⟩
   dsimp only
   refine fin3 (hint+l+1) (hint+min o (n - hint)) (by omega) (by omega) (fun i hi=>mono i (hint+l) (by omega) (by omega) h4) (fun i hi hin=>?_)
   rcases h5 with h5 | h5
   ·omega
   ·cases e:b i with
    | false=>rfl
    | true=>
     have:=mono (hint+o) i (by omega) hin e
     rw [h5] at this
     cases this
 | false=>
  simp only [Bool.false_eq_true,if_false]
  unfold gdown
  refine wpS_bind (wpS_mono (wpS_forRange (I:=fun x c st'=>st'=st∧∃ l o,c=(none,l,o)∧l < o∧x+1≤o∧l≤hint∧b (hint - l)=false)
   (Q:=fun c st'=>st'=st∧∃ l o,c=(none,l,o)∧l < o∧l≤hint∧b (hint - l)=false∧(hint < o∨b (hint - o)=true)) ?step ?fin ⟨rfl,0,1,rfl,by omega,by omega,by omega,hbh⟩) ?post)
  case fin=>
   rintro c st' ⟨rfl,l,o,rfl,h1,h2,h3,h4⟩
   exact ⟨rfl,l,o,rfl,h1,h3,h4,.inl (by omega)⟩
  case step=>
   rintro x c st' _ hxn ⟨rfl,l,o,rfl,h1,h2,h3,h4⟩
   dsimp only
   by_cases hge:o ≥ hint+1
   ·rw [if_pos hge]
    exact wpS_pure ⟨rfl,l,o,rfl,h1,h3,h4,.inl (by omega)⟩
   ·rw [if_neg hge]
    refine wpS_bind (ask (hint - o) (by omega) ?_)
    dsimp only
    cases hbo:b (hint - o) with
    | true=>
     simp only [if_true]
     exact wpS_pure ⟨rfl,l,o,rfl,h1,h3,h4,.inr hbo⟩
    | false=>
     simp only [Bool.false_eq_true,if_false]
     exact wpS_pure ⟨rfl,o,2 * o+1,rfl,by omega,by omega,by omega,hbo⟩
  case post=>
   rintro c st' ⟨rfl,l,o,rfl,h1,h3,h4,h5⟩
   dsimp only
   refine fin3 (hint+1 - min o (hint+1)) (hint - l) (by omega) (by omega) (fun i hi=>?_) (fun i hi hin=>?_)
   ·rcases h5 with h5 | h5
    ·omega
    ·exact mono i (hint - o) (by omega) (by omega) h5
   ·cases e:b i with
    | false=>rfl
    | true=>
     have:=mono (hint - l) i (by omega) hin e
     rw [h4] at this
     cases this
end
open PySem PyProof.Rows
def mergeLo':Array Keyed→Array Keyed→StateT SortSt Sem (Array Keyed):=sortPriv% PySem.Builtin.mergeLo
def mergeHi':Array Keyed→Array Keyed→StateT SortSt Sem (Array Keyed):=sortPriv% PySem.Builtin.mergeHi
abbrev setG (st:SortSt) (g:Nat):SortSt:=SortSt.mk' (kindOf st) (arrOf st) (pendingOf st) g (failedOf st)
theorem setMinGallop'_eq (g:Nat):setMinGallop' g=modify fun s=>setG s g:=rfl
abbrev SL (κ:KeyKind) (l:List Keyed):Prop:=l.Pairwise fun p q=>κ.kle (kq κ p) (kq κ q)
abbrev Le (κ:KeyKind) (p q:Keyed):Prop:=κ.kle (kq κ p) (kq κ q)
section
variable {κ:KeyKind} {A B L:List Keyed} {ia ib:Nat}
structure LoI (κ:KeyKind) (A B L:List Keyed) (ia ib:Nat):Prop where
 perm:L.Perm (A.take ia++B.take ib)
 srt:SL κ L
 ba:∀ x∈L,∀ y∈A.drop ia,Le κ x y
 bb:∀ x∈L,∀ y∈B.drop ib,Le κ x y
theorem drop_cons' {l:List Keyed} {i:Nat} (h:i < l.length):l.drop i=l[i] :: l.drop (i+1):=List.drop_eq_getElem_cons h
theorem LoI.pushA (I:LoI κ A B L ia ib) (sa:SL κ A) (hi:ia < A.length) (h:∀ y∈B.drop ib,Le κ A[ia] y):LoI κ A B (L++[A[ia]]) (ia+1) ib:=by
 have hm:A[ia]∈A.drop ia:=by rw [drop_cons' hi];exact List.mem_cons_self
 refine ⟨?_,?_,fun x hx y hy=>?_,fun x hx y hy=>?_⟩
 ·rw [List.take_succ,List.getElem?_eq_getElem hi]
  refine (I.perm.append_right _).trans ?_
  show (A.take ia++B.take ib++[A[ia]]).Perm (A.take ia++[A[ia]]++B.take ib)
  rw [List.append_assoc,List.append_assoc]
  exact List.perm_append_comm.append_left _
 ·exact List.pairwise_append.mpr ⟨I.srt,List.pairwise_singleton _ _,fun x hx y hy=>by
   cases List.mem_singleton.mp hy
   exact I.ba x hx _ hm⟩
 ·rcases List.mem_append.mp hx with hx | hx
  ·exact I.ba x hx y (by rw [drop_cons' hi];exact List.mem_cons_of_mem _ hy)
  ·cases List.mem_singleton.mp hx
   have:=sa.drop (i:=ia)
   rw [drop_cons' hi] at this
   exact (List.pairwise_cons.mp this).1 y hy
 ·rcases List.mem_append.mp hx with hx | hx
  ·exact I.bb x hx y hy
  ·cases List.mem_singleton.mp hx
   exact h y hy
theorem LoI.swap (I:LoI κ A B L ia ib):LoI κ B A L ib ia:=⟨I.perm.trans List.perm_append_comm,I.srt,I.bb,I.ba⟩
theorem LoI.pushB (I:LoI κ A B L ia ib) (sb:SL κ B) (hi:ib < B.length) (h:∀ y∈A.drop ia,Le κ B[ib] y):LoI κ A B (L++[B[ib]]) ia (ib+1):=(I.swap.pushA sb hi h).swap
theorem LoI.runA (I:LoI κ A B L ia ib) (sa:SL κ A):∀ k,ia+k≤A.length→(∀ i (h:i < A.length),ia≤i→i < ia+k→∀ y∈B.drop ib,Le κ A[i] y)→LoI κ A B (L++(A.drop ia).take k) (ia+k) ib
 | 0,_,_=>by
  rw [List.take_zero,List.append_nil]
  exact I
 | k+1,hk,h=>by
  have ih:=LoI.runA I sa k (by omega) fun i hi h1 h2=>h i hi h1 (by omega)
  have hi:ia+k < A.length:=by omega
  have:=ih.pushA sa hi (h _ hi (by omega) (by omega))
  rw [List.append_assoc] at this
  rw [List.take_succ,List.getElem?_drop,List.getElem?_eq_getElem hi]
  exact this
theorem LoI.runB (I:LoI κ A B L ia ib) (sb:SL κ B) (k:Nat) (hk:ib+k≤B.length) (h:∀ i (h:i < B.length),ib≤i→i < ib+k→∀ y∈A.drop ia,Le κ B[i] y):LoI κ A B (L++(B.drop ib).take k) ia (ib+k):=(I.swap.runA sb k hk h).swap
def MGood (κ:KeyKind) (A B M:List Keyed):Prop:=M.Perm (A++B)∧SL κ M
theorem LoI.done (I:LoI κ A B L ia ib) (sa:SL κ A) (sb:SL κ B) (h:∀ x∈A.drop ia,∀ y∈B.drop ib,Le κ x y):MGood κ A B (L++A.drop ia++B.drop ib):=by
 refine ⟨?_,?_⟩
 ·have e1:=List.take_append_drop ia A
  have e2:=List.take_append_drop ib B
  have h1:(L++A.drop ia++B.drop ib).Perm ((A.take ia++B.take ib)++(A.drop ia++B.drop ib)):=by
   rw [List.append_assoc]
   exact I.perm.append_right _
  refine h1.trans ?_
  have h2:((A.take ia++B.take ib)++(A.drop ia++B.drop ib)).Perm ((A.take ia++A.drop ia)++(B.take ib++B.drop ib)):=by
   rw [List.append_assoc,List.append_assoc]
   refine List.Perm.append_left _ ?_
   rw [← List.append_assoc,← List.append_assoc]
   exact List.perm_append_comm.append_right _
  rw [e1,e2] at h2
  exact h2
 ·refine List.pairwise_append.mpr ⟨List.pairwise_append.mpr ⟨I.srt,sa.drop,I.ba⟩,sb.drop,fun x hx y hy=>?_⟩
  rcases List.mem_append.mp hx with hx | hx
  ·exact I.bb x hx y hy
  ·exact h x hx y hy
theorem LoI.last (I:LoI κ A B L ia ib) (sa:SL κ A) (sb:SL κ B) (h:∀ x∈B.drop ib,∀ y∈A.drop ia,Le κ x y):MGood κ A B (L++B.drop ib++A.drop ia):=by
 obtain ⟨h1,h2⟩:=I.swap.done sb sa h
 exact ⟨h1.trans List.perm_append_comm,h2⟩
end
theorem ext_list {a:Array Keyed} {i j:Nat}:(a.extract i j).toList=(a.toList.drop i).take (j - i):=by
 simp
theorem ext_all {a:Array Keyed} {i:Nat}:(a.extract i a.size).toList=a.toList.drop i:=by
 rw [ext_list,List.take_of_length_le (by rw [List.length_drop];simp)]
abbrev LoT:Type:=Option (Array Keyed)×Array Keyed×Nat×Nat×Nat×Nat×Nat
abbrev doneLo (a b out:Array Keyed) (ia ib:Nat):Array Keyed:=out++a.extract ia a.size++b.extract ib b.size
abbrev lastLo (a b out:Array Keyed) (ia ib:Nat):Array Keyed:=out++b.extract ib b.size++a.extract ia a.size
def loEnd (a b out:Array Keyed) (ia ib mg ac bc:Nat):StateT SortSt Sem (ForInStep LoT):=do
 let x ← elem' a ia
 if ia+1+1 == a.size then return .done (some (lastLo a b (out.push x) (ia+1) ib),out.push x,ia+1,ib,mg,ac,bc)
 else if (decide (ac < 7) && decide (bc < 7))=true then return .done (none,out.push x,ia+1,ib,mg,ac,bc)
 else return .yield (none,out.push x,ia+1,ib,mg,ac,bc)
def loMid2 (a b out:Array Keyed) (ia ib mg ac k:Nat):StateT SortSt Sem (ForInStep LoT):=
 if k > 0 then
  if ib+k == b.size then return .done (some (doneLo a b (out++b.extract ib (ib+k)) ia (ib+k)),out++b.extract ib (ib+k),ia,ib+k,mg,ac,k)
  else loEnd a b (out++b.extract ib (ib+k)) ia (ib+k) mg ac k
 else loEnd a b out ia ib mg ac k
def loMid1 (a b out:Array Keyed) (ia ib mg ac bc:Nat):StateT SortSt Sem (ForInStep LoT):=do
 let y ← elem' b ib
 if ib+1 == b.size then return .done (some (doneLo a b (out.push y) ia (ib+1)),out.push y,ia,ib+1,mg,ac,bc)
 else do
  let x ← elem' a ia
  let r ← gallop' true x b (ib+1) (b.size - (ib+1)) 0
  match r with
  | some k=>loMid2 a b (out.push y) ia (ib+1) mg ac k
  | _=>return .done (some (doneLo a b (out.push y) ia (ib+1)),out.push y,ia,ib+1,mg,ac,bc)
def loGal (a b out:Array Keyed) (ia ib mg ac bc:Nat):StateT SortSt Sem (ForInStep LoT):=do
 setMinGallop' mg
 let y ← elem' b ib
 let r ← gallop' false y a ia (a.size - ia) 0
 match r with
 | some k=>
  if k > 0 then
   if ia+k+1 == a.size then return .done (some (lastLo a b (out++a.extract ia (ia+k)) (ia+k) ib),out++a.extract ia (ia+k),ia+k,ib,mg,k,bc)
   else if ia+k == a.size then return .done (some (doneLo a b (out++a.extract ia (ia+k)) (ia+k) ib),out++a.extract ia (ia+k),ia+k,ib,mg,k,bc)
   else loMid1 a b (out++a.extract ia (ia+k)) (ia+k) ib mg k bc
  else loMid1 a b out ia ib mg k bc
 | _=>return .done (some (doneLo a b out ia ib),out,ia,ib,mg,ac,bc)
abbrev LoT1:Type:=Option (Array Keyed)×Array Keyed×Nat×Nat×Nat×Nat
def loOne (a b:Array Keyed) (mg:Nat) (c:LoT1):StateT SortSt Sem (ForInStep LoT1):=do
 let y ← elem' b c.2.2.2.1
 let x ← elem' a c.2.2.1
 let r ← lt' y x
 match r with
 | some bWins=>
  if bWins=true then do
   let y ← elem' b c.2.2.2.1
   if c.2.2.2.1+1 == b.size then return .done (some (doneLo a b (c.2.1.push y) c.2.2.1 (c.2.2.2.1+1)),c.2.1.push y,c.2.2.1,c.2.2.2.1+1,0,c.2.2.2.2.2+1)
   else if c.2.2.2.2.2+1 ≥ mg then return .done (none,c.2.1.push y,c.2.2.1,c.2.2.2.1+1,0,c.2.2.2.2.2+1)
   else return .yield (none,c.2.1.push y,c.2.2.1,c.2.2.2.1+1,0,c.2.2.2.2.2+1)
  else do
   let x ← elem' a c.2.2.1
   if c.2.2.1+1+1 == a.size then return .done (some (lastLo a b (c.2.1.push x) (c.2.2.1+1) c.2.2.2.1),c.2.1.push x,c.2.2.1+1,c.2.2.2.1,c.2.2.2.2.1+1,0)
   else if c.2.2.2.2.1+1 ≥ mg then return .done (none,c.2.1.push x,c.2.2.1+1,c.2.2.2.1,c.2.2.2.2.1+1,0)
   else return .yield (none,c.2.1.push x,c.2.2.1+1,c.2.2.2.1,c.2.2.2.2.1+1,0)
 | _=>return .done (some (doneLo a b c.2.1 c.2.2.1 c.2.2.2.1),c.2.1,c.2.2.1,c.2.2.2.1,c.2.2.2.2.1,c.2.2.2.2.2)
abbrev LoT0:Type:=Option (Array Keyed)×Array Keyed×Nat×Nat×Nat
def loTurn (a b:Array Keyed) (c:LoT0):StateT SortSt Sem (ForInStep LoT0):=do
 let d ← forIn [0:a.size+b.size] ((none,c.2.1,c.2.2.1,c.2.2.2.1,0,0):LoT1) fun _ d=>loOne a b c.2.2.2.2 d
 match d.1 with
 | some r=>return .done (some r,d.2.1,d.2.2.1,d.2.2.2.1,c.2.2.2.2)
 | none=>do
  rule "list.sort.gallop"
  let e ← forIn [0:a.size+b.size] ((none,d.2.1,d.2.2.1,d.2.2.2.1,c.2.2.2.2+1,d.2.2.2.2.1,d.2.2.2.2.2):LoT) fun _ e=>
   if e.2.2.2.2.1 > 1 then loGal a b e.2.1 e.2.2.1 e.2.2.2.1 (e.2.2.2.2.1 - 1) e.2.2.2.2.2.1 e.2.2.2.2.2.2
   else loGal a b e.2.1 e.2.2.1 e.2.2.2.1 e.2.2.2.2.1 e.2.2.2.2.2.1 e.2.2.2.2.2.2
  match e.1 with
  | some r=>return .done (some r,e.2.1,e.2.2.1,e.2.2.2.1,e.2.2.2.2.1)
  | none=>do
   setMinGallop' (e.2.2.2.2.1+1)
   return .yield (none,e.2.1,e.2.2.1,e.2.2.2.1,e.2.2.2.2.1+1)
set_option maxHeartbeats 4000000 in
theorem mergeLo'_eq (a b:Array Keyed):mergeLo' a b=(do
 rule "list.sort.merge-lo"
 let y ← elem' b 0
 if 1 == b.size then return doneLo a b #[y] 0 1
 else if 0+1 == a.size then return lastLo a b #[y] 0 1
 else do
  let s ← get
  let c ← forIn [0:a.size+b.size] ((none,#[y],0,1,gallopOf s):LoT0) fun _ c=>loTurn a b c
  match c.1 with
  | some r=>pure r
  | none=>unsupported "internal:list.sort.merge-bound"):=by
 have e0:mergeLo' a b=((_:StateT SortSt Sem Unit) >>= (_:Unit→StateT SortSt Sem (Array Keyed))):=rfl
 rw [e0]
 congr 1;funext u
 dsimp only
 congr 1;funext y
 congr 1
 congr 1
 congr 1;funext s
 congr 1
 rotate_left
 ·funext c
  obtain ⟨c1,c2,c3,c4,c5⟩:=c
  cases c1 <;> rfl
 congr 1
 funext x c
 unfold loTurn
 congr 1
 funext d
 obtain ⟨d1,d2,d3,d4,d5,d6⟩:=d
 cases d1 with
 | some r=>rfl
 | none=>
  dsimp only
  congr 1;funext _
  congr 1
  funext e
  obtain ⟨e1,e2,e3,e4,e5,e6,e7⟩:=e
  cases e1 <;> rfl
section
variable {prog:Program} {w:World} {A:Around} {E:Value→Shared→Prop} {s:Shared} {κ:KeyKind} {a b:Array Keyed}
theorem mem_drop {l:Array Keyed} {i:Nat} {y:Keyed} (h:y∈l.toList.drop i):∃ j,∃ h:j < l.size,i≤j∧y=l[j]:=by
 obtain ⟨n,hn,rfl⟩:=List.mem_iff_getElem.mp h
 rw [List.length_drop] at hn
 refine ⟨i+n,by simp at hn;omega,by omega,?_⟩
 rw [List.getElem_drop,Array.getElem_toList]
theorem sl_le {l:Array Keyed} (h:SL κ l.toList) {i j:Nat} (hi:i < l.size) (hj:j < l.size) (hij:i≤j):Le κ l[i] l[j]:=by
 rcases Nat.lt_or_ge i j with k | k
 ·have:=List.pairwise_iff_getElem.mp h i j (by simpa using hi) (by simpa using hj) k
  rw [Array.getElem_toList,Array.getElem_toList] at this
  exact this
 ·have:i=j:=by omega
  subst this
  exact KeyOrd.kle_refl _
structure MC (κ:KeyKind) (a b:Array Keyed):Prop where
 ka:∀ i (h:i < a.size),HasKey κ a[i]
 kb:∀ i (h:i < b.size),HasKey κ b[i]
 sa:SL κ a.toList
 sb:SL κ b.toList
 last:∀ j (h:j < b.size) (h':a.size - 1 < a.size),Le κ b[j] a[a.size - 1]
structure Alive (κ:KeyKind) (a b:Array Keyed) (N:Nat) (out:Array Keyed) (ia ib:Nat):Prop where
 inv:LoI κ a.toList b.toList out.toList ia ib
 la:ia+1 < a.size
 lb:ib < b.size
 many:N≤ia+ib
def PL (κ:KeyKind) (a b:Array Keyed) (st:SortSt) (N:Nat) (r:ForInStep LoT) (st':SortSt):Prop:=(∃ g,st'=setG st g)∧match r with
 | .done c=>(match c.1 with | some m=>MGood κ a.toList b.toList m.toList | none=>Alive κ a b N c.2.1 c.2.2.1 c.2.2.2.1)
 | .yield c=>c.1=none∧Alive κ a b N c.2.1 c.2.2.1 c.2.2.2.1
theorem done_list {out:Array Keyed} {ia ib:Nat}:(doneLo a b out ia ib).toList=out.toList++a.toList.drop ia++b.toList.drop ib:=by
 unfold doneLo
 rw [Array.toList_append,Array.toList_append,ext_all,ext_all]
theorem last_list {out:Array Keyed} {ia ib:Nat}:(lastLo a b out ia ib).toList=out.toList++b.toList.drop ib++a.toList.drop ia:=by
 unfold lastLo
 rw [Array.toList_append,Array.toList_append,ext_all,ext_all]
theorem MC.fin {out:Array Keyed} {ia ib:Nat} (C:MC κ a b) (I:LoI κ a.toList b.toList out.toList ia ib) (h:ia=a.size∨ib=b.size):MGood κ a.toList b.toList (doneLo a b out ia ib).toList:=by
 rw [done_list]
 refine I.done C.sa C.sb fun x hx y hy=>?_
 rcases h with rfl | rfl
 ·rw [List.drop_eq_nil_of_le (by simp)] at hx;cases hx
 ·rw [List.drop_eq_nil_of_le (by simp)] at hy;cases hy
theorem MC.fin2 {out:Array Keyed} {ia ib:Nat} (C:MC κ a b) (I:LoI κ a.toList b.toList out.toList ia ib) (h:ia+1=a.size):MGood κ a.toList b.toList (lastLo a b out ia ib).toList:=by
 rw [last_list]
 refine I.last C.sa C.sb fun x hx y hy=>?_
 obtain ⟨j,hj,_,rfl⟩:=mem_drop hx
 obtain ⟨i,hi,h1,rfl⟩:=mem_drop hy
 have:i=a.size - 1:=by omega
 subst this
 exact C.last j hj hi
theorem push_toList {out:Array Keyed} {x:Keyed}:(out.push x).toList=out.toList++[x]:=by simp
theorem MC.pushA {out:Array Keyed} {ia ib:Nat} (C:MC κ a b) (I:LoI κ a.toList b.toList out.toList ia ib) (hi:ia < a.size) (h:∀ j (hj:j < b.size),ib≤j→Le κ a[ia] b[j]):LoI κ a.toList b.toList (out.push a[ia]).toList (ia+1) ib:=by
 have:=I.pushA C.sa (by simpa using hi) fun y hy=>by
  obtain ⟨j,hj,h1,rfl⟩:=mem_drop hy
  rw [Array.getElem_toList]
  exact h j hj h1
 rw [Array.getElem_toList] at this
 rw [push_toList]
 exact this
theorem MC.pushB {out:Array Keyed} {ia ib:Nat} (C:MC κ a b) (I:LoI κ a.toList b.toList out.toList ia ib) (hi:ib < b.size) (h:∀ j (hj:j < a.size),ia≤j→Le κ b[ib] a[j]):LoI κ a.toList b.toList (out.push b[ib]).toList ia (ib+1):=by
 have:=I.pushB C.sb (by simpa using hi) fun y hy=>by
  obtain ⟨j,hj,h1,rfl⟩:=mem_drop hy
  rw [Array.getElem_toList]
  exact h j hj h1
 rw [Array.getElem_toList] at this
 rw [push_toList]
 exact this
theorem MC.runA {out:Array Keyed} {ia ib k:Nat} (C:MC κ a b) (I:LoI κ a.toList b.toList out.toList ia ib) (hk:ia+k≤a.size) (h:∀ i (hi:i < a.size),ia≤i→i < ia+k→∀ j (hj:j < b.size),ib≤j→Le κ a[i] b[j]):LoI κ a.toList b.toList (out++a.extract ia (ia+k)).toList (ia+k) ib:=by
 have:=I.runA C.sa k (by simpa using hk) fun i hi h1 h2 y hy=>by
  obtain ⟨j,hj,h3,rfl⟩:=mem_drop hy
  rw [Array.getElem_toList]
  exact h i (by simpa using hi) h1 h2 j hj h3
 rw [Array.toList_append,ext_list,Nat.add_sub_cancel_left]
 exact this
theorem MC.runB {out:Array Keyed} {ia ib k:Nat} (C:MC κ a b) (I:LoI κ a.toList b.toList out.toList ia ib) (hk:ib+k≤b.size) (h:∀ i (hi:i < b.size),ib≤i→i < ib+k→∀ j (hj:j < a.size),ia≤j→Le κ b[i] a[j]):LoI κ a.toList b.toList (out++b.extract ib (ib+k)).toList ia (ib+k):=by
 have:=I.runB C.sb k (by simpa using hk) fun i hi h1 h2 y hy=>by
  obtain ⟨j,hj,h3,rfl⟩:=mem_drop hy
  rw [Array.getElem_toList]
  exact h i (by simpa using hi) h1 h2 j hj h3
 rw [Array.toList_append,ext_list,Nat.add_sub_cancel_left]
 exact this
variable {st:SortSt} {N:Nat}
theorem wpS_elem {l:Array Keyed} {i:Nat} {Q:Keyed→SortSt→Prop} (hi:i < l.size) (h:Q l[i] st):wpS (model prog w) A E s (elem' l i) Q st:=by
 rw [elem'_eq,getElem?_pos l i hi]
 exact wpS_pure h
theorem wpS_gal {left:Bool} {key:Keyed} {arr:Array Keyed} {base n hint:Nat} {Q:Option Nat→SortSt→Prop} (hO:κ.OneLt) (hk:kindOf st=oneType') (hx:HasKey κ key) (hn:base+n≤arr.size) (hh:hint < n) (hy:∀ i (h:i < arr.size),HasKey κ arr[i])
  (hs:∀ i j (hi:i < arr.size) (hj:j < arr.size),base≤i→i≤j→j < base+n→Le κ arr[i] arr[j])
  (h:∀ k,k≤n→(∀ i (hi:i < arr.size),base≤i→i < base+k→bey κ left key arr[i]=true)→(∀ i (hi:i < arr.size),base+k≤i→i < base+n→bey κ left key arr[i]=false)→Q (some k) st):wpS (model prog w) A E s (gallop' left key arr base n hint) Q st:=by
 refine wpS_gallop (κ:=κ) hO hk hx hn hh hy (fun i=>if h:base+i < arr.size then bey κ left key arr[base+i] else false) (fun i hi _=>by rw [dif_pos hi]) (fun i j hij hj hb'=>?_) fun k hk=>?_
 ·rw [dif_pos (by omega)] at hb' ⊢
  have l1:=hs (base+i) (base+j) (by omega) (by omega) (by omega) (by omega) (by omega)
  cases left with
  | true=>exact KeyOrd.klt_of_kle_of_klt l1 (show κ.klt _ _ from hb')
  | false=>
   have hb2:κ.blt (kq κ key) (kq κ arr[base+j])=false:=by simpa [bey] using hb'
   have:κ.blt (kq κ key) (kq κ arr[base+i])=false:=KeyOrd.kle_trans l1 (show κ.kle _ _ from hb2)
   simpa [bey] using this
 ·obtain ⟨k1,k2,k3⟩:=hk
  refine h k k1 (fun i hi g1 g2=>?_) fun i hi g1 g2=>?_
  ·have:=k2 (i - base) (by omega)
   dsimp only at this
   have e:base+(i - base)=i:=by omega
   simp only [e] at this
   rw [dif_pos hi] at this
   exact this
  ·have:=k3 (i - base) (by omega) (by omega)
   dsimp only at this
   have e:base+(i - base)=i:=by omega
   simp only [e] at this
   rw [dif_pos hi] at this
   exact this
theorem bey_tt {key x:Keyed} (h:bey κ true key x=true):Le κ x key:=KeyOrd.kle_of_klt (show κ.klt _ _ from h)
theorem bey_tf {key x:Keyed} (h:bey κ true key x=false):Le κ key x:=h
theorem bey_ft {key x:Keyed} (h:bey κ false key x=true):Le κ x key:=by
 have:κ.blt (kq κ key) (kq κ x)=false:=by simpa [bey] using h
 exact this
theorem bey_ff {key x:Keyed} (h:bey κ false key x=false):κ.klt (kq κ key) (kq κ x):=by
 have:κ.blt (kq κ key) (kq κ x)=true:=by simpa [bey] using h
 exact this
theorem wp_loEnd (C:MC κ a b) {out:Array Keyed} {ia ib mg ac bc g:Nat} (I:LoI κ a.toList b.toList out.toList ia ib) (ha:ia+1 < a.size) (hb:ib < b.size) (hN:N≤ia+1+ib) (h:∀ j (hj:j < b.size),ib≤j→Le κ a[ia] b[j]) :
  wpS (model prog w) A E s (loEnd a b out ia ib mg ac bc) (PL κ a b st N) (setG st g):=by
 unfold loEnd
 refine wpS_bind (wpS_elem (by omega) ?_)
 have I2:=C.pushA I (by omega) h
 by_cases h1:ia+1+1=a.size
 ·rw [if_pos (by simpa using h1)]
  exact wpS_pure ⟨⟨g,rfl⟩,C.fin2 I2 h1⟩
 ·rw [if_neg (by simpa using h1)]
  split
  ·exact wpS_pure ⟨⟨g,rfl⟩,I2,(by show ia+1+1 < a.size;omega),hb,hN⟩
  ·exact wpS_pure ⟨⟨g,rfl⟩,rfl,I2,(by show ia+1+1 < a.size;omega),hb,hN⟩
theorem wp_loMid2 (C:MC κ a b) {out:Array Keyed} {ia ib mg ac k g:Nat} (I:LoI κ a.toList b.toList out.toList ia ib) (ha:ia+1 < a.size) (hb:ib < b.size) (hN:N≤ia+1+ib) (hk:ib+k≤b.size)
  (hlt:∀ i (hi:i < b.size),ib≤i→i < ib+k→Le κ b[i] a[ia]) (hge:∀ j (hj:j < b.size),ib+k≤j→Le κ a[ia] b[j]) :
  wpS (model prog w) A E s (loMid2 a b out ia ib mg ac k) (PL κ a b st N) (setG st g):=by
 unfold loMid2
 by_cases h0:k > 0
 ·rw [if_pos h0]
  have I2:=C.runB I hk fun i hi h1 h2 j hj h3=>KeyOrd.kle_trans (hlt i hi h1 h2) (sl_le C.sa (by omega) hj h3)
  by_cases h1:ib+k=b.size
  ·rw [if_pos (by simpa using h1)]
   exact wpS_pure ⟨⟨g,rfl⟩,C.fin I2 (.inr h1)⟩
  ·rw [if_neg (by simpa using h1)]
   exact wp_loEnd C I2 ha (by omega) (by omega) hge
 ·rw [if_neg h0]
  have:k=0:=by omega
  subst this
  exact wp_loEnd C I ha hb hN hge
theorem wp_loMid1 (hO:κ.OneLt) (hkd:kindOf st=oneType') (C:MC κ a b) {out:Array Keyed} {ia ib mg ac bc g:Nat} (I:LoI κ a.toList b.toList out.toList ia ib) (ha:ia+1 < a.size) (hb:ib < b.size) (hN:N≤ia+ib) (h:∀ j (hj:j < a.size),ia≤j→Le κ b[ib] a[j]) :
  wpS (model prog w) A E s (loMid1 a b out ia ib mg ac bc) (PL κ a b st N) (setG st g):=by
 unfold loMid1
 refine wpS_bind (wpS_elem hb ?_)
 have I2:=C.pushB I hb h
 by_cases h1:ib+1=b.size
 ·rw [if_pos (by simpa using h1)]
  exact wpS_pure ⟨⟨g,rfl⟩,C.fin I2 (.inr h1)⟩
 ·rw [if_neg (by simpa using h1)]
  have ha':ia < a.size:=by omega
  refine wpS_bind (wpS_elem ha' ?_)
  refine wpS_bind (wpS_gal (κ:=κ) hO hkd (C.ka _ ha') (by omega) (by omega) C.kb (fun i j hi hj _ hij _=>sl_le C.sb hi hj hij) fun k k1 k2 k3=>?_)
  exact wp_loMid2 C I2 ha (by omega) (by omega) (by omega) (fun i hi g1 g2=>bey_tt (k2 i hi g1 g2)) fun j hj g1=>bey_tf (k3 j hj g1 (by omega))
theorem wp_loGal (hO:κ.OneLt) (hkd:kindOf st=oneType') (C:MC κ a b) {out:Array Keyed} {ia ib mg ac bc g:Nat} (L:Alive κ a b N out ia ib):wpS (model prog w) A E s (loGal a b out ia ib mg ac bc) (PL κ a b st N) (setG st g):=by
 obtain ⟨I,ha,hb,hN⟩:=L
 unfold loGal
 rw [setMinGallop'_eq]
 refine wpS_bind (wpS_modify ?_)
 refine wpS_bind (wpS_elem hb ?_)
 refine wpS_bind (wpS_gal (κ:=κ) hO hkd (C.kb _ hb) (by omega) (by omega) C.ka (fun i j hi hj _ hij _=>sl_le C.sa hi hj hij) fun k k1 k2 k3=>?_)
 ·have le:∀ i (hi:i < a.size),ia≤i→i < ia+k→Le κ a[i] b[ib]:=fun i hi g1 g2=>bey_ft (k2 i hi g1 g2)
  have gt:∀ i (hi:i < a.size),ia+k≤i→Le κ b[ib] a[i]:=fun i hi g1=>KeyOrd.kle_of_klt (bey_ff (k3 i hi g1 (by omega)))
  dsimp only
  by_cases h0:k > 0
  ·rw [if_pos h0]
   have I2:=C.runA I (k:=k) (by omega) fun i hi g1 g2 j hj g3=>KeyOrd.kle_trans (le i hi g1 g2) (sl_le C.sb hb hj g3)
   by_cases h1:ia+k+1=a.size
   ·rw [if_pos (by simpa using h1)]
    exact wpS_pure ⟨⟨mg,rfl⟩,C.fin2 I2 h1⟩
   ·rw [if_neg (by simpa using h1)]
    by_cases h2:ia+k=a.size
    ·rw [if_pos (by simpa using h2)]
     exact wpS_pure ⟨⟨mg,rfl⟩,C.fin I2 (.inl h2)⟩
    ·rw [if_neg (by simpa using h2)]
     exact wp_loMid1 (st:=st) (g:=mg) hO hkd C I2 (by omega) hb (by omega) gt
  ·rw [if_neg h0]
   have:k=0:=by omega
   subst this
   exact wp_loMid1 (st:=st) (g:=mg) hO hkd C I ha hb hN gt
theorem Alive.le {M:Nat} {out:Array Keyed} {ia ib:Nat} (h:Alive κ a b N out ia ib) (hm:M≤N):Alive κ a b M out ia ib:=⟨h.inv,h.la,h.lb,Nat.le_trans hm h.many⟩
def PL1 (κ:KeyKind) (a b:Array Keyed) (st:SortSt) (N:Nat) (r:ForInStep LoT1) (st':SortSt):Prop:=st'=st∧match r with
 | .done c=>(match c.1 with | some m=>MGood κ a.toList b.toList m.toList | none=>Alive κ a b N c.2.1 c.2.2.1 c.2.2.2.1)
 | .yield c=>c.1=none∧Alive κ a b N c.2.1 c.2.2.1 c.2.2.2.1
theorem wp_loOne (hO:κ.OneLt) (hkd:kindOf st=oneType') (C:MC κ a b) {mg:Nat} {c:LoT1} (L:Alive κ a b N c.2.1 c.2.2.1 c.2.2.2.1):wpS (model prog w) A E s (loOne a b mg c) (PL1 κ a b st (N+1)) st:=by
 obtain ⟨r,out,ia,ib,ac,bc⟩:=c
 obtain ⟨I,ha,hb,hN⟩:=L
 dsimp only at I ha hb hN
 unfold loOne
 dsimp only
 have ha':ia < a.size:=by omega
 refine wpS_bind (wpS_elem hb ?_)
 refine wpS_bind (wpS_elem ha' ?_)
 refine wpS_bind (wpS_lt hO hkd (C.kb _ hb) (C.ka _ ha') ?_)
 dsimp only
 cases hw:κ.blt (kq κ b[ib]) (kq κ a[ia]) with
 | true=>
  simp only [if_true]
  refine wpS_bind (wpS_elem hb ?_)
  have I2:=C.pushB I hb fun j hj h1=>KeyOrd.kle_trans (KeyOrd.kle_of_klt (show κ.klt _ _ from hw)) (sl_le C.sa ha' hj h1)
  by_cases h1:ib+1=b.size
  ·rw [if_pos (by simpa using h1)]
   exact wpS_pure ⟨rfl,C.fin I2 (.inr h1)⟩
  ·rw [if_neg (by simpa using h1)]
   split
   ·exact wpS_pure ⟨rfl,I2,ha,(by show ib+1 < b.size;omega),(by show N+1≤ia+(ib+1);omega)⟩
   ·exact wpS_pure ⟨rfl,rfl,I2,ha,(by show ib+1 < b.size;omega),(by show N+1≤ia+(ib+1);omega)⟩
 | false=>
  simp only [Bool.false_eq_true,if_false]
  refine wpS_bind (wpS_elem ha' ?_)
  have I2:=C.pushA I ha' fun j hj h1=>KeyOrd.kle_trans (show κ.kle _ _ from hw) (sl_le C.sb hb hj h1)
  by_cases h1:ia+1+1=a.size
  ·rw [if_pos (by simpa using h1)]
   exact wpS_pure ⟨rfl,C.fin2 I2 h1⟩
  ·rw [if_neg (by simpa using h1)]
   split
   ·exact wpS_pure ⟨rfl,I2,(by show ia+1+1 < a.size;omega),hb,(by show N+1≤ia+1+ib;omega)⟩
   ·exact wpS_pure ⟨rfl,rfl,I2,(by show ia+1+1 < a.size;omega),hb,(by show N+1≤ia+1+ib;omega)⟩
def PL0 (κ:KeyKind) (a b:Array Keyed) (st:SortSt) (N:Nat) (r:ForInStep LoT0) (st':SortSt):Prop:=(∃ g,st'=setG st g)∧match r with
 | .done c=>∃ m,c.1=some m∧MGood κ a.toList b.toList m.toList
 | .yield c=>c.1=none∧Alive κ a b N c.2.1 c.2.2.1 c.2.2.2.1
theorem wp_loTurn (hO:κ.OneLt) (hkd:kindOf st=oneType') (C:MC κ a b) {c:LoT0} {g:Nat} (L:Alive κ a b N c.2.1 c.2.2.1 c.2.2.2.1):wpS (model prog w) A E s (loTurn a b c) (PL0 κ a b st (N+1)) (setG st g):=by
 obtain ⟨r,out,ia,ib,mg⟩:=c
 dsimp only at L
 unfold loTurn
 dsimp only
 have htot:0 < a.size+b.size:=by have:=L.lb;omega
 refine wpS_bind (wpS_mono (wpS_forRange (I:=fun (x:Nat) (d:LoT1) (st':SortSt)=>st'=setG st g∧d.1=none∧Alive κ a b (N+min x 1) d.2.1 d.2.2.1 d.2.2.2.1)
  (Q:=fun (d:LoT1) (st':SortSt)=>st'=setG st g∧match d.1 with | some m=>MGood κ a.toList b.toList m.toList | none=>Alive κ a b (N+1) d.2.1 d.2.2.1 d.2.2.2.1) ?step ?fin ⟨rfl,rfl,L⟩) ?post)
 case fin=>
  rintro d st' ⟨rfl,hd,L'⟩
  refine ⟨rfl,?_⟩
  rw [hd]
  exact L'.le (by omega)
 case step=>
  rintro x d st' _ hx ⟨rfl,hd,L'⟩
  refine wpS_mono (wp_loOne (st:=setG st g) hO hkd C L') fun r st2 hr=>?_
  obtain ⟨rfl,hr⟩:=hr
  cases r with
  | done e=>
   refine ⟨rfl,?_⟩
   dsimp only at hr ⊢
   cases he:e.1 with
   | some m=>rw [he] at hr;exact hr
   | none=>rw [he] at hr;exact Alive.le hr (by omega)
  | yield e=>exact ⟨rfl,hr.1,hr.2.le (by omega)⟩
 case post=>
  rintro ⟨d1,d2,d3,d4,d5,d6⟩ st' ⟨rfl,hd⟩
  cases d1 with
  | some m=>exact wpS_pure ⟨⟨g,rfl⟩,m,rfl,hd⟩
  | none=>
   dsimp only at hd ⊢
   refine wpS_bind (wpS_lift (wpAny_rule ⟨rfl,?_⟩))
   refine wpS_bind (wpS_mono (wpS_forRange (I:=fun (x:Nat) (e:LoT) (st':SortSt)=>(∃ g',st'=setG st g')∧e.1=none∧Alive κ a b (N+1) e.2.1 e.2.2.1 e.2.2.2.1)
    (Q:=fun (e:LoT) (st':SortSt)=>(∃ g',st'=setG st g')∧match e.1 with | some m=>MGood κ a.toList b.toList m.toList | none=>Alive κ a b (N+1) e.2.1 e.2.2.1 e.2.2.2.1) ?step2 ?fin2 ⟨⟨g,rfl⟩,rfl,hd⟩) ?post2)
   case fin2=>
    rintro e st' ⟨hg,he,L'⟩
    refine ⟨hg,?_⟩
    rw [he]
    exact L'
   case step2=>
    rintro x e st' _ hx ⟨⟨g',rfl⟩,he,L'⟩
    split
    all_goals
     refine wpS_mono (wp_loGal (st:=st) hO hkd C L') fun r st2 hr=>?_
     obtain ⟨hg,hr⟩:=hr
     cases r with
     | done e=>exact ⟨hg,hr⟩
     | yield e=>exact ⟨hg,hr⟩
   case post2=>
    rintro ⟨e1,e2,e3,e4,e5,e6,e7⟩ st' ⟨⟨g',rfl⟩,he⟩
    cases e1 with
    | some m=>exact wpS_pure ⟨⟨g',rfl⟩,m,rfl,he⟩
    | none=>
     dsimp only at he ⊢
     rw [setMinGallop'_eq]
     exact wpS_bind (wpS_modify (wpS_pure ⟨⟨_,rfl⟩,rfl,he⟩))
theorem wpS_mergeLo {Q:Array Keyed→SortSt→Prop} (hO:κ.OneLt) (hkd:kindOf st=oneType') (C:MC κ a b) (ha:0 < a.size) (hb:0 < b.size) (h1:∀ i (h:i < a.size),Le κ b[0] a[i])
  (h:∀ m g,MGood κ a.toList b.toList m.toList→Q m (setG st g)):wpS (model prog w) A E s (mergeLo' a b) Q st:=by
 rw [mergeLo'_eq]
 refine wpS_bind (wpS_lift (wpAny_rule ⟨rfl,?_⟩))
 refine wpS_bind (wpS_elem hb ?_)
 have I:LoI κ a.toList b.toList (#[b[0]]:Array Keyed).toList 0 1:=by
  have I0:LoI κ a.toList b.toList (#[]:Array Keyed).toList 0 0:=⟨List.Perm.refl _,List.Pairwise.nil,fun x hx=>(by cases hx),fun x hx=>(by cases hx)⟩
  exact C.pushB I0 hb fun j hj _=>h1 j hj
 by_cases hb1:1=b.size
 ·rw [if_pos (by simpa using hb1)]
  exact wpS_pure (h _ (gallopOf st) (C.fin I (.inr hb1)))
 ·rw [if_neg (by simpa using hb1)]
  by_cases ha1:0+1=a.size
  ·rw [if_pos (by simpa using ha1)]
   exact wpS_pure (h _ (gallopOf st) (C.fin2 I ha1))
  ·rw [if_neg (by simpa using ha1)]
   refine wpS_bind (wpS_get ?_)
   refine wpS_bind (wpS_mono (wpS_forRange (I:=fun (x:Nat) (c:LoT0) (st':SortSt)=>(∃ g,st'=setG st g)∧c.1=none∧Alive κ a b x c.2.1 c.2.2.1 c.2.2.2.1)
    (Q:=fun (c:LoT0) (st':SortSt)=>(∃ g,st'=setG st g)∧∃ m,c.1=some m∧MGood κ a.toList b.toList m.toList) ?step ?fin ⟨⟨gallopOf st,rfl⟩,rfl,I,(by show 0+1 < a.size;omega),(by show 1 < b.size;omega),Nat.zero_le _⟩) ?post)
   case fin=>
    rintro c st' ⟨hg,hc,L⟩
    have:=L.many
    have:=L.la
    have:=L.lb
    omega
   case step=>
    rintro x c st' _ hx ⟨⟨g,rfl⟩,hc,L⟩
    refine wpS_mono (wp_loTurn (st:=st) hO hkd C L) fun r st2 hr=>?_
    obtain ⟨hg,hr⟩:=hr
    cases r with
    | done e=>exact ⟨hg,hr⟩
    | yield e=>exact ⟨hg,hr⟩
   case post=>
    rintro ⟨c1,c2⟩ st' ⟨⟨g,rfl⟩,m,hm,hg⟩
    dsimp only at hm
    subst hm
    exact wpS_pure (h m g hg)
end
open PySem PyProof.Rows
section
variable {κ:KeyKind} {A B L:List Keyed} {na nb:Nat}
structure HiI (κ:KeyKind) (A B L:List Keyed) (na nb:Nat):Prop where
 perm:L.Perm (A.drop na++B.drop nb)
 srt:L.Pairwise fun p q=>Le κ q p
 ba:∀ x∈L,∀ y∈A.take na,Le κ y x
 bb:∀ x∈L,∀ y∈B.take nb,Le κ y x
theorem HiI.swap (I:HiI κ A B L na nb):HiI κ B A L nb na:=⟨I.perm.trans List.perm_append_comm,I.srt,I.bb,I.ba⟩
theorem HiI.pushA (I:HiI κ A B L (na+1) nb) (sa:SL κ A) (hi:na < A.length) (h:∀ y∈B.take nb,Le κ y A[na]):HiI κ A B (L++[A[na]]) na nb:=by
 have et:A.take (na+1)=A.take na++[A[na]]:=by rw [List.take_succ,List.getElem?_eq_getElem hi];rfl
 refine ⟨?_,?_,fun x hx y hy=>?_,fun x hx y hy=>?_⟩
 ·rw [drop_cons' hi]
  refine (I.perm.append_right _).trans ?_
  exact List.perm_append_comm
 ·exact List.pairwise_append.mpr ⟨I.srt,List.pairwise_singleton _ _,fun x hx y hy=>by
   cases List.mem_singleton.mp hy
   exact I.ba x hx _ (by rw [et];exact List.mem_append_right _ (List.mem_singleton.mpr rfl))⟩
 ·rcases List.mem_append.mp hx with hx | hx
  ·exact I.ba x hx y (by rw [et];exact List.mem_append_left _ hy)
  ·cases List.mem_singleton.mp hx
   have:=sa.take (i:=na+1)
   rw [et] at this
   exact (List.pairwise_append.mp this).2.2 y hy _ (by simp)
 ·rcases List.mem_append.mp hx with hx | hx
  ·exact I.bb x hx y hy
  ·cases List.mem_singleton.mp hx
   exact h y hy
theorem HiI.runA (sa:SL κ A) {at_:Nat}:∀ k {L:List Keyed},HiI κ A B L (at_+k) nb→at_+k≤A.length→(∀ i (h:i < A.length),at_≤i→i < at_+k→∀ y∈B.take nb,Le κ y A[i])→HiI κ A B (L++((A.drop at_).take k).reverse) at_ nb
 | 0,L,I,_,_=>by
  rw [List.take_zero,List.reverse_nil,List.append_nil]
  exact I
 | k+1,L,I,hk,h=>by
  have hi:at_+k < A.length:=by omega
  have I2:HiI κ A B (L++[A[at_+k]]) (at_+k) nb:=HiI.pushA I sa hi (h _ hi (by omega) (by omega))
  have ih:=HiI.runA sa k I2 (by omega) fun i hi h1 h2=>h i hi h1 (by omega)
  rw [List.append_assoc] at ih
  rw [List.take_succ,List.getElem?_drop,List.getElem?_eq_getElem hi,List.reverse_append]
  exact ih
theorem HiI.done (I:HiI κ A B L na nb) (sa:SL κ A) (sb:SL κ B) (h:∀ x∈A.take na,∀ y∈B.take nb,Le κ x y):MGood κ A B (A.take na++B.take nb++L.reverse):=by
 refine ⟨?_,?_⟩
 ·have e1:=List.take_append_drop na A
  have e2:=List.take_append_drop nb B
  have h1:(A.take na++B.take nb++L.reverse).Perm ((A.take na++B.take nb)++(A.drop na++B.drop nb)):=((List.reverse_perm L).trans I.perm).append_left _
  refine h1.trans ?_
  have h2:((A.take na++B.take nb)++(A.drop na++B.drop nb)).Perm ((A.take na++A.drop na)++(B.take nb++B.drop nb)):=by
   rw [List.append_assoc,List.append_assoc]
   refine List.Perm.append_left _ ?_
   rw [← List.append_assoc,← List.append_assoc]
   exact List.perm_append_comm.append_right _
  rw [e1,e2] at h2
  exact h2
 ·refine List.pairwise_append.mpr ⟨List.pairwise_append.mpr ⟨sa.take,sb.take,h⟩,List.pairwise_reverse.mpr I.srt,fun x hx y hy=>?_⟩
  have hy':=List.mem_reverse.mp hy
  rcases List.mem_append.mp hx with hx | hx
  ·exact I.ba y hy' x hx
  ·exact I.bb y hy' x hx
theorem HiI.first (I:HiI κ A B L na nb) (sa:SL κ A) (sb:SL κ B) (h:∀ x∈B.take nb,∀ y∈A.take na,Le κ x y):MGood κ A B (B.take nb++A.take na++L.reverse):=by
 obtain ⟨h1,h2⟩:=I.swap.done sb sa h
 exact ⟨h1.trans List.perm_append_comm,h2⟩
end
abbrev doneHi (a b out:Array Keyed) (na nb:Nat):Array Keyed:=a.extract 0 na++b.extract 0 nb++out.reverse
abbrev firstHi (a b out:Array Keyed) (na nb:Nat):Array Keyed:=b.extract 0 nb++a.extract 0 na++out.reverse
abbrev HiT:Type:=Option (Array Keyed)×Nat×Nat×Array Keyed×Nat×Nat×Nat
abbrev HiT1:Type:=Option (Array Keyed)×Nat×Nat×Array Keyed×Nat×Nat
abbrev HiT0:Type:=Option (Array Keyed)×Nat×Nat×Array Keyed×Nat
def hiEnd (a b:Array Keyed) (na nb:Nat) (out:Array Keyed) (mg ac bc:Nat):StateT SortSt Sem (ForInStep HiT):=do
 let x ← elem' a (na - 1)
 if na - 1 == 0 then return .done (some (doneHi a b (out.push x) (na - 1) nb),na - 1,nb,out.push x,mg,ac,bc)
 else if (decide (ac < 7) && decide (bc < 7))=true then return .done (none,na - 1,nb,out.push x,mg,ac,bc)
 else return .yield (none,na - 1,nb,out.push x,mg,ac,bc)
def hiMid2 (a b:Array Keyed) (na nb:Nat) (out:Array Keyed) (mg ac at_:Nat):StateT SortSt Sem (ForInStep HiT):=
 if nb - at_ > 0 then
  if at_ == 1 then return .done (some (firstHi a b (out++(b.extract at_ nb).reverse) na at_),na,at_,out++(b.extract at_ nb).reverse,mg,ac,nb - at_)
  else if at_ == 0 then return .done (some (doneHi a b (out++(b.extract at_ nb).reverse) na at_),na,at_,out++(b.extract at_ nb).reverse,mg,ac,nb - at_)
  else hiEnd a b na at_ (out++(b.extract at_ nb).reverse) mg ac (nb - at_)
 else hiEnd a b na nb out mg ac (nb - at_)
def hiMid1 (a b:Array Keyed) (na nb:Nat) (out:Array Keyed) (mg ac bc:Nat):StateT SortSt Sem (ForInStep HiT):=do
 let y ← elem' b (nb - 1)
 if nb - 1 == 1 then return .done (some (firstHi a b (out.push y) na (nb - 1)),na,nb - 1,out.push y,mg,ac,bc)
 else do
  let x ← elem' a (na - 1)
  let r ← gallop' true x b 0 (nb - 1) (nb - 1 - 1)
  match r with
  | some at_=>hiMid2 a b na (nb - 1) (out.push y) mg ac at_
  | _=>return .done (some (doneHi a b (out.push y) na (nb - 1)),na,nb - 1,out.push y,mg,ac,bc)
def hiGal (a b:Array Keyed) (na nb:Nat) (out:Array Keyed) (mg ac bc:Nat):StateT SortSt Sem (ForInStep HiT):=do
 setMinGallop' mg
 let y ← elem' b (nb - 1)
 let r ← gallop' false y a 0 na (na - 1)
 match r with
 | some at_=>
  if na - at_ > 0 then
   if at_ == 0 then return .done (some (doneHi a b (out++(a.extract at_ na).reverse) at_ nb),at_,nb,out++(a.extract at_ na).reverse,mg,na - at_,bc)
   else hiMid1 a b at_ nb (out++(a.extract at_ na).reverse) mg (na - at_) bc
  else hiMid1 a b na nb out mg (na - at_) bc
 | _=>return .done (some (doneHi a b out na nb),na,nb,out,mg,ac,bc)
def hiOne (a b:Array Keyed) (mg:Nat) (c:HiT1):StateT SortSt Sem (ForInStep HiT1):=do
 let y ← elem' b (c.2.2.1 - 1)
 let x ← elem' a (c.2.1 - 1)
 let r ← lt' y x
 match r with
 | some aWins=>
  if aWins=true then do
   let x ← elem' a (c.2.1 - 1)
   if c.2.1 - 1 == 0 then return .done (some (doneHi a b (c.2.2.2.1.push x) (c.2.1 - 1) c.2.2.1),c.2.1 - 1,c.2.2.1,c.2.2.2.1.push x,c.2.2.2.2.1+1,0)
   else if c.2.2.2.2.1+1 ≥ mg then return .done (none,c.2.1 - 1,c.2.2.1,c.2.2.2.1.push x,c.2.2.2.2.1+1,0)
   else return .yield (none,c.2.1 - 1,c.2.2.1,c.2.2.2.1.push x,c.2.2.2.2.1+1,0)
  else do
   let y ← elem' b (c.2.2.1 - 1)
   if c.2.2.1 - 1 == 1 then return .done (some (firstHi a b (c.2.2.2.1.push y) c.2.1 (c.2.2.1 - 1)),c.2.1,c.2.2.1 - 1,c.2.2.2.1.push y,0,c.2.2.2.2.2+1)
   else if c.2.2.2.2.2+1 ≥ mg then return .done (none,c.2.1,c.2.2.1 - 1,c.2.2.2.1.push y,0,c.2.2.2.2.2+1)
   else return .yield (none,c.2.1,c.2.2.1 - 1,c.2.2.2.1.push y,0,c.2.2.2.2.2+1)
 | _=>return .done (some (doneHi a b c.2.2.2.1 c.2.1 c.2.2.1),c.2.1,c.2.2.1,c.2.2.2.1,c.2.2.2.2.1,c.2.2.2.2.2)
def hiTurn (a b:Array Keyed) (c:HiT0):StateT SortSt Sem (ForInStep HiT0):=do
 let d ← forIn [0:a.size+b.size] ((none,c.2.1,c.2.2.1,c.2.2.2.1,0,0):HiT1) fun _ d=>hiOne a b c.2.2.2.2 d
 match d.1 with
 | some r=>return .done (some r,d.2.1,d.2.2.1,d.2.2.2.1,c.2.2.2.2)
 | none=>do
  rule "list.sort.gallop"
  let e ← forIn [0:a.size+b.size] ((none,d.2.1,d.2.2.1,d.2.2.2.1,c.2.2.2.2+1,d.2.2.2.2.1,d.2.2.2.2.2):HiT) fun _ e=>
   if e.2.2.2.2.1 > 1 then hiGal a b e.2.1 e.2.2.1 e.2.2.2.1 (e.2.2.2.2.1 - 1) e.2.2.2.2.2.1 e.2.2.2.2.2.2
   else hiGal a b e.2.1 e.2.2.1 e.2.2.2.1 e.2.2.2.2.1 e.2.2.2.2.2.1 e.2.2.2.2.2.2
  match e.1 with
  | some r=>return .done (some r,e.2.1,e.2.2.1,e.2.2.2.1,e.2.2.2.2.1)
  | none=>do
   setMinGallop' (e.2.2.2.2.1+1)
   return .yield (none,e.2.1,e.2.2.1,e.2.2.2.1,e.2.2.2.2.1+1)
set_option maxHeartbeats 4000000 in
theorem mergeHi'_eq (a b:Array Keyed):mergeHi' a b=(do
 rule "list.sort.merge-hi"
 let y ← elem' a (a.size - 1)
 if a.size - 1 == 0 then return doneHi a b #[y] (a.size - 1) b.size
 else if b.size == 1 then return firstHi a b #[y] (a.size - 1) b.size
 else do
  let s ← get
  let c ← forIn [0:a.size+b.size] ((none,a.size - 1,b.size,#[y],gallopOf s):HiT0) fun _ c=>hiTurn a b c
  match c.1 with
  | some r=>pure r
  | none=>unsupported "internal:list.sort.merge-bound"):=by
 have e0:mergeHi' a b=((_:StateT SortSt Sem Unit) >>= (_:Unit→StateT SortSt Sem (Array Keyed))):=rfl
 rw [e0]
 congr 1;funext u
 dsimp only
 congr 1;funext y
 congr 1
 congr 1
 congr 1;funext s
 congr 1
 rotate_left
 ·funext c
  obtain ⟨c1,c2,c3,c4,c5⟩:=c
  cases c1 <;> rfl
 congr 1
 funext x c
 unfold hiTurn
 congr 1
 funext d
 obtain ⟨d1,d2,d3,d4,d5,d6⟩:=d
 cases d1 with
 | some r=>rfl
 | none=>
  dsimp only
  congr 1;funext _
  congr 1
  funext e
  obtain ⟨e1,e2,e3,e4,e5,e6,e7⟩:=e
  cases e1 <;> rfl
section
variable {prog:Program} {w:World} {A:Around} {E:Value→Shared→Prop} {s:Shared} {κ:KeyKind} {a b:Array Keyed}
theorem mem_take {l:Array Keyed} {n:Nat} {y:Keyed} (h:y∈l.toList.take n):∃ j,∃ h:j < l.size,j < n∧y=l[j]:=by
 obtain ⟨i,hi,rfl⟩:=List.mem_iff_getElem.mp h
 rw [List.length_take] at hi
 refine ⟨i,by simp at hi;omega,by omega,?_⟩
 rw [List.getElem_take,Array.getElem_toList]
theorem ext_take {l:Array Keyed} {n:Nat}:(l.extract 0 n).toList=l.toList.take n:=by
 rw [ext_list,List.drop_zero,Nat.sub_zero]
theorem doneHi_list {out:Array Keyed} {na nb:Nat}:(doneHi a b out na nb).toList=a.toList.take na++b.toList.take nb++out.toList.reverse:=by
 unfold doneHi
 rw [Array.toList_append,Array.toList_append,ext_take,ext_take,Array.toList_reverse]
theorem firstHi_list {out:Array Keyed} {na nb:Nat}:(firstHi a b out na nb).toList=b.toList.take nb++a.toList.take na++out.toList.reverse:=by
 unfold firstHi
 rw [Array.toList_append,Array.toList_append,ext_take,ext_take,Array.toList_reverse]
structure MD (κ:KeyKind) (a b:Array Keyed):Prop where
 ka:∀ i (h:i < a.size),HasKey κ a[i]
 kb:∀ i (h:i < b.size),HasKey κ b[i]
 sa:SL κ a.toList
 sb:SL κ b.toList
 first:∀ i (h:i < a.size) (h':0 < b.size),Le κ b[0] a[i]
structure AliveH (κ:KeyKind) (a b:Array Keyed) (N:Nat) (out:Array Keyed) (na nb:Nat):Prop where
 inv:HiI κ a.toList b.toList out.toList na nb
 la:0 < na
 la2:na≤a.size
 lb:1 < nb
 lb2:nb≤b.size
 many:N+na+nb≤a.size+b.size
theorem MD.fin {out:Array Keyed} {na nb:Nat} (C:MD κ a b) (I:HiI κ a.toList b.toList out.toList na nb) (h:na=0∨nb=0):MGood κ a.toList b.toList (doneHi a b out na nb).toList:=by
 rw [doneHi_list]
 refine I.done C.sa C.sb fun x hx y hy=>?_
 rcases h with rfl | rfl
 ·cases hx
 ·cases hy
theorem MD.fin2 {out:Array Keyed} {na nb:Nat} (C:MD κ a b) (I:HiI κ a.toList b.toList out.toList na nb) (h:nb=1):MGood κ a.toList b.toList (firstHi a b out na nb).toList:=by
 rw [firstHi_list]
 refine I.first C.sa C.sb fun x hx y hy=>?_
 obtain ⟨j,hj,g1,rfl⟩:=mem_take hx
 obtain ⟨i,hi,g2,rfl⟩:=mem_take hy
 have:j=0:=by omega
 subst this
 exact C.first i hi hj
theorem MD.pushA {out:Array Keyed} {na nb:Nat} (C:MD κ a b) (I:HiI κ a.toList b.toList out.toList na nb) (h0:0 < na) (hi:na - 1 < a.size) (h:∀ j (hj:j < b.size),j < nb→Le κ b[j] a[na - 1]):HiI κ a.toList b.toList (out.push a[na - 1]).toList (na - 1) nb:=by
 obtain ⟨n,rfl⟩:∃ n,na=n+1:=⟨na - 1,by omega⟩
 have:=I.pushA C.sa (by simpa using hi) fun y hy=>by
  obtain ⟨j,hj,h1,rfl⟩:=mem_take hy
  rw [Array.getElem_toList]
  exact h j hj h1
 rw [Array.getElem_toList] at this
 rw [push_toList]
 exact this
theorem MD.pushB {out:Array Keyed} {na nb:Nat} (C:MD κ a b) (I:HiI κ a.toList b.toList out.toList na nb) (h0:0 < nb) (hi:nb - 1 < b.size) (h:∀ j (hj:j < a.size),j < na→Le κ a[j] b[nb - 1]):HiI κ a.toList b.toList (out.push b[nb - 1]).toList na (nb - 1):=by
 obtain ⟨n,rfl⟩:∃ n,nb=n+1:=⟨nb - 1,by omega⟩
 have:=I.swap.pushA C.sb (by simpa using hi) fun y hy=>by
  obtain ⟨j,hj,h1,rfl⟩:=mem_take hy
  rw [Array.getElem_toList]
  exact h j hj h1
 rw [Array.getElem_toList] at this
 rw [push_toList]
 exact this.swap
theorem MD.runA {out:Array Keyed} {na nb at_:Nat} (C:MD κ a b) (I:HiI κ a.toList b.toList out.toList na nb) (hk:at_≤na) (hn:na≤a.size) (h:∀ i (hi:i < a.size),at_≤i→i < na→∀ j (hj:j < b.size),j < nb→Le κ b[j] a[i]):HiI κ a.toList b.toList (out++(a.extract at_ na).reverse).toList at_ nb:=by
 obtain ⟨k,rfl⟩:∃ k,na=at_+k:=⟨na - at_,by omega⟩
 have:=HiI.runA C.sa k I (by simpa using hn) fun i hi h1 h2 y hy=>by
  obtain ⟨j,hj,h3,rfl⟩:=mem_take hy
  rw [Array.getElem_toList]
  exact h i (by simpa using hi) h1 h2 j hj h3
 rw [Array.toList_append,Array.toList_reverse,ext_list,Nat.add_sub_cancel_left]
 exact this
theorem MD.runB {out:Array Keyed} {na nb at_:Nat} (C:MD κ a b) (I:HiI κ a.toList b.toList out.toList na nb) (hk:at_≤nb) (hn:nb≤b.size) (h:∀ i (hi:i < b.size),at_≤i→i < nb→∀ j (hj:j < a.size),j < na→Le κ a[j] b[i]):HiI κ a.toList b.toList (out++(b.extract at_ nb).reverse).toList na at_:=by
 obtain ⟨k,rfl⟩:∃ k,nb=at_+k:=⟨nb - at_,by omega⟩
 have:=HiI.runA C.sb k I.swap (by simpa using hn) fun i hi h1 h2 y hy=>by
  obtain ⟨j,hj,h3,rfl⟩:=mem_take hy
  rw [Array.getElem_toList]
  exact h i (by simpa using hi) h1 h2 j hj h3
 rw [Array.toList_append,Array.toList_reverse,ext_list,Nat.add_sub_cancel_left]
 exact this.swap
variable {st:SortSt} {N:Nat}
def PH (κ:KeyKind) (a b:Array Keyed) (st:SortSt) (N:Nat) (r:ForInStep HiT) (st':SortSt):Prop:=(∃ g,st'=setG st g)∧match r with
 | .done c=>(match c.1 with | some m=>MGood κ a.toList b.toList m.toList | none=>AliveH κ a b N c.2.2.2.1 c.2.1 c.2.2.1)
 | .yield c=>c.1=none∧AliveH κ a b N c.2.2.2.1 c.2.1 c.2.2.1
theorem wp_hiEnd (C:MD κ a b) {out:Array Keyed} {na nb mg ac bc g:Nat} (I:HiI κ a.toList b.toList out.toList na nb) (ha:0 < na) (ha2:na≤a.size) (hb:1 < nb) (hb2:nb≤b.size) (hN:N+na+nb≤a.size+b.size+1) (h:∀ j (hj:j < b.size),j < nb→Le κ b[j] (a[na - 1]'(by omega))) :
  wpS (model prog w) A E s (hiEnd a b na nb out mg ac bc) (PH κ a b st N) (setG st g):=by
 unfold hiEnd
 refine wpS_bind (wpS_elem (by omega) ?_)
 have I2:=C.pushA I ha (by omega) h
 by_cases h1:na - 1=0
 ·rw [if_pos (by simpa using h1)]
  exact wpS_pure ⟨⟨g,rfl⟩,C.fin I2 (.inl h1)⟩
 ·rw [if_neg (by simpa using h1)]
  have L:AliveH κ a b N (out.push (a[na - 1]'(by omega))) (na - 1) nb:=⟨I2,by omega,by omega,hb,hb2,by omega⟩
  split
  ·exact wpS_pure ⟨⟨g,rfl⟩,L⟩
  ·exact wpS_pure ⟨⟨g,rfl⟩,rfl,L⟩
theorem wp_hiMid2 (C:MD κ a b) {out:Array Keyed} {na nb mg ac at_ g:Nat} (I:HiI κ a.toList b.toList out.toList na nb) (ha:0 < na) (ha2:na≤a.size) (hb:1 < nb) (hb2:nb≤b.size) (hN:N+na+nb≤a.size+b.size+1) (hk:at_≤nb)
  (hlt:∀ i (hi:i < b.size),i < at_→Le κ b[i] (a[na - 1]'(by omega))) (hge:∀ j (hj:j < b.size),at_≤j→j < nb→Le κ (a[na - 1]'(by omega)) b[j]) :
  wpS (model prog w) A E s (hiMid2 a b na nb out mg ac at_) (PH κ a b st N) (setG st g):=by
 unfold hiMid2
 by_cases h0:nb - at_ > 0
 ·rw [if_pos h0]
  have I2:=C.runB I (at_:=at_) (by omega) hb2 fun i hi h1 h2 j hj h3=>KeyOrd.kle_trans (sl_le C.sa hj (by omega) (by omega)) (hge i hi h1 h2)
  by_cases h1:at_=1
  ·rw [if_pos (by simpa using h1)]
   exact wpS_pure ⟨⟨g,rfl⟩,C.fin2 I2 h1⟩
  ·rw [if_neg (by simpa using h1)]
   by_cases h2:at_=0
   ·rw [if_pos (by simpa using h2)]
    exact wpS_pure ⟨⟨g,rfl⟩,C.fin I2 (.inr h2)⟩
   ·rw [if_neg (by simpa using h2)]
    exact wp_hiEnd C I2 ha ha2 (by omega) (by omega) (by omega) fun j hj h3=>hlt j hj h3
 ·rw [if_neg h0]
  exact wp_hiEnd C I ha ha2 hb hb2 hN fun j hj h3=>hlt j hj (by omega)
theorem wp_hiMid1 (hO:κ.OneLt) (hkd:kindOf st=oneType') (C:MD κ a b) {out:Array Keyed} {na nb mg ac bc g:Nat} (I:HiI κ a.toList b.toList out.toList na nb) (ha:0 < na) (ha2:na≤a.size) (hb:1 < nb) (hb2:nb≤b.size) (hN:N+na+nb≤a.size+b.size)
  (h:∀ j (hj:j < a.size),j < na→Le κ a[j] (b[nb - 1]'(by omega))):wpS (model prog w) A E s (hiMid1 a b na nb out mg ac bc) (PH κ a b st N) (setG st g):=by
 unfold hiMid1
 refine wpS_bind (wpS_elem (by omega) ?_)
 have I2:=C.pushB I (by omega) (by omega) h
 by_cases h1:nb - 1=1
 ·rw [if_pos (by simpa using h1)]
  exact wpS_pure ⟨⟨g,rfl⟩,C.fin2 I2 h1⟩
 ·rw [if_neg (by simpa using h1)]
  refine wpS_bind (wpS_elem (by omega) ?_)
  refine wpS_bind (wpS_gal (κ:=κ) hO hkd (C.ka _ (by omega)) (by omega) (by omega) C.kb (fun i j hi hj _ hij _=>sl_le C.sb hi hj hij) fun k k1 k2 k3=>?_)
  exact wp_hiMid2 C I2 ha ha2 (by omega) (by omega) (by omega) k1 (fun i hi g2=>bey_tt (k2 i hi (Nat.zero_le _) (by omega))) fun j hj g1 g2=>bey_tf (k3 j hj (by omega) (by omega))
theorem wp_hiGal (hO:κ.OneLt) (hkd:kindOf st=oneType') (C:MD κ a b) {out:Array Keyed} {na nb mg ac bc g:Nat} (L:AliveH κ a b N out na nb):wpS (model prog w) A E s (hiGal a b na nb out mg ac bc) (PH κ a b st N) (setG st g):=by
 obtain ⟨I,ha,ha2,hb,hb2,hN⟩:=L
 unfold hiGal
 rw [setMinGallop'_eq]
 refine wpS_bind (wpS_modify ?_)
 refine wpS_bind (wpS_elem (by omega) ?_)
 refine wpS_bind (wpS_gal (κ:=κ) hO hkd (C.kb _ (by omega)) (by omega) (by omega) C.ka (fun i j hi hj _ hij _=>sl_le C.sa hi hj hij) fun k k1 k2 k3=>?_)
 have le:∀ i (hi:i < a.size),i < k→Le κ a[i] (b[nb - 1]'(by omega)):=fun i hi g2=>bey_ft (k2 i hi (Nat.zero_le _) (by omega))
 have gt:∀ i (hi:i < a.size),k≤i→i < na→Le κ (b[nb - 1]'(by omega)) a[i]:=fun i hi g1 g2=>KeyOrd.kle_of_klt (bey_ff (k3 i hi (by omega) (by omega)))
 dsimp only
 by_cases h0:na - k > 0
 ·rw [if_pos h0]
  have I2:=C.runA I (at_:=k) (by omega) ha2 fun i hi g1 g2 j hj g3=>KeyOrd.kle_trans (sl_le C.sb hj (by omega) (by omega)) (gt i hi g1 g2)
  by_cases h1:k=0
  ·rw [if_pos (by simpa using h1)]
   exact wpS_pure ⟨⟨mg,rfl⟩,C.fin I2 (.inl h1)⟩
  ·rw [if_neg (by simpa using h1)]
   exact wp_hiMid1 (st:=st) (g:=mg) hO hkd C I2 (by omega) (by omega) hb hb2 (by omega) fun j hj g1=>le j hj g1
 ·rw [if_neg h0]
  exact wp_hiMid1 (st:=st) (g:=mg) hO hkd C I ha ha2 hb hb2 hN fun j hj g1=>le j hj (by omega)
theorem AliveH.le {M:Nat} {out:Array Keyed} {na nb:Nat} (h:AliveH κ a b N out na nb) (hm:M≤N):AliveH κ a b M out na nb:=⟨h.inv,h.la,h.la2,h.lb,h.lb2,by have:=h.many;omega⟩
def PH1 (κ:KeyKind) (a b:Array Keyed) (st:SortSt) (N:Nat) (r:ForInStep HiT1) (st':SortSt):Prop:=st'=st∧match r with
 | .done c=>(match c.1 with | some m=>MGood κ a.toList b.toList m.toList | none=>AliveH κ a b N c.2.2.2.1 c.2.1 c.2.2.1)
 | .yield c=>c.1=none∧AliveH κ a b N c.2.2.2.1 c.2.1 c.2.2.1
theorem wp_hiOne (hO:κ.OneLt) (hkd:kindOf st=oneType') (C:MD κ a b) {mg:Nat} {c:HiT1} (L:AliveH κ a b N c.2.2.2.1 c.2.1 c.2.2.1):wpS (model prog w) A E s (hiOne a b mg c) (PH1 κ a b st (N+1)) st:=by
 obtain ⟨r,na,nb,out,ac,bc⟩:=c
 obtain ⟨I,ha,ha2,hb,hb2,hN⟩:=L
 dsimp only at I ha ha2 hb hb2 hN
 unfold hiOne
 dsimp only
 have ha':na - 1 < a.size:=by omega
 have hb':nb - 1 < b.size:=by omega
 refine wpS_bind (wpS_elem hb' ?_)
 refine wpS_bind (wpS_elem ha' ?_)
 refine wpS_bind (wpS_lt hO hkd (C.kb _ hb') (C.ka _ ha') ?_)
 dsimp only
 cases hw:κ.blt (kq κ b[nb - 1]) (kq κ a[na - 1]) with
 | true=>
  simp only [if_true]
  refine wpS_bind (wpS_elem ha' ?_)
  have I2:=C.pushA I ha ha' fun j hj h1=>KeyOrd.kle_trans (sl_le C.sb hj hb' (by omega)) (KeyOrd.kle_of_klt (show κ.klt _ _ from hw))
  by_cases h1:na - 1=0
  ·rw [if_pos (by simpa using h1)]
   exact wpS_pure ⟨rfl,C.fin I2 (.inl h1)⟩
  ·rw [if_neg (by simpa using h1)]
   have L2:AliveH κ a b (N+1) (out.push a[na - 1]) (na - 1) nb:=⟨I2,by omega,by omega,hb,hb2,by omega⟩
   split
   ·exact wpS_pure ⟨rfl,L2⟩
   ·exact wpS_pure ⟨rfl,rfl,L2⟩
 | false=>
  simp only [Bool.false_eq_true,if_false]
  refine wpS_bind (wpS_elem hb' ?_)
  have I2:=C.pushB I (by omega) hb' fun j hj h1=>KeyOrd.kle_trans (sl_le C.sa hj ha' (by omega)) (show κ.kle _ _ from hw)
  by_cases h1:nb - 1=1
  ·rw [if_pos (by simpa using h1)]
   exact wpS_pure ⟨rfl,C.fin2 I2 h1⟩
  ·rw [if_neg (by simpa using h1)]
   have L2:AliveH κ a b (N+1) (out.push b[nb - 1]) na (nb - 1):=⟨I2,ha,ha2,by omega,by omega,by omega⟩
   split
   ·exact wpS_pure ⟨rfl,L2⟩
   ·exact wpS_pure ⟨rfl,rfl,L2⟩
def PH0 (κ:KeyKind) (a b:Array Keyed) (st:SortSt) (N:Nat) (r:ForInStep HiT0) (st':SortSt):Prop:=(∃ g,st'=setG st g)∧match r with
 | .done c=>∃ m,c.1=some m∧MGood κ a.toList b.toList m.toList
 | .yield c=>c.1=none∧AliveH κ a b N c.2.2.2.1 c.2.1 c.2.2.1
theorem wp_hiTurn (hO:κ.OneLt) (hkd:kindOf st=oneType') (C:MD κ a b) {c:HiT0} {g:Nat} (L:AliveH κ a b N c.2.2.2.1 c.2.1 c.2.2.1):wpS (model prog w) A E s (hiTurn a b c) (PH0 κ a b st (N+1)) (setG st g):=by
 obtain ⟨r,na,nb,out,mg⟩:=c
 dsimp only at L
 unfold hiTurn
 dsimp only
 have htot:0 < a.size+b.size:=by have:=L.lb;have:=L.lb2;omega
 refine wpS_bind (wpS_mono (wpS_forRange (I:=fun (x:Nat) (d:HiT1) (st':SortSt)=>st'=setG st g∧d.1=none∧AliveH κ a b (N+min x 1) d.2.2.2.1 d.2.1 d.2.2.1)
  (Q:=fun (d:HiT1) (st':SortSt)=>st'=setG st g∧match d.1 with | some m=>MGood κ a.toList b.toList m.toList | none=>AliveH κ a b (N+1) d.2.2.2.1 d.2.1 d.2.2.1) ?step ?fin ⟨rfl,rfl,L⟩) ?post)
 case fin=>
  rintro d st' ⟨rfl,hd,L'⟩
  refine ⟨rfl,?_⟩
  rw [hd]
  exact L'.le (by omega)
 case step=>
  rintro x d st' _ hx ⟨rfl,hd,L'⟩
  refine wpS_mono (wp_hiOne (st:=setG st g) hO hkd C L') fun r st2 hr=>?_
  obtain ⟨rfl,hr⟩:=hr
  cases r with
  | done e=>
   refine ⟨rfl,?_⟩
   dsimp only at hr ⊢
   cases he:e.1 with
   | some m=>rw [he] at hr;exact hr
   | none=>rw [he] at hr;exact AliveH.le hr (by omega)
  | yield e=>exact ⟨rfl,hr.1,hr.2.le (by omega)⟩
 case post=>
  rintro ⟨d1,d2,d3,d4,d5,d6⟩ st' ⟨rfl,hd⟩
  cases d1 with
  | some m=>exact wpS_pure ⟨⟨g,rfl⟩,m,rfl,hd⟩
  | none=>
   dsimp only at hd ⊢
   refine wpS_bind (wpS_lift (wpAny_rule ⟨rfl,?_⟩))
   refine wpS_bind (wpS_mono (wpS_forRange (I:=fun (x:Nat) (e:HiT) (st':SortSt)=>(∃ g',st'=setG st g')∧e.1=none∧AliveH κ a b (N+1) e.2.2.2.1 e.2.1 e.2.2.1)
    (Q:=fun (e:HiT) (st':SortSt)=>(∃ g',st'=setG st g')∧match e.1 with | some m=>MGood κ a.toList b.toList m.toList | none=>AliveH κ a b (N+1) e.2.2.2.1 e.2.1 e.2.2.1) ?step2 ?fin2 ⟨⟨g,rfl⟩,rfl,hd⟩) ?post2)
   case fin2=>
    rintro e st' ⟨hg,he,L'⟩
    refine ⟨hg,?_⟩
    rw [he]
    exact L'
   case step2=>
    rintro x e st' _ hx ⟨⟨g',rfl⟩,he,L'⟩
    split
    all_goals
     refine wpS_mono (wp_hiGal (st:=st) hO hkd C L') fun r st2 hr=>?_
     obtain ⟨hg,hr⟩:=hr
     cases r with
     | done e=>exact ⟨hg,hr⟩
     | yield e=>exact ⟨hg,hr⟩
   case post2=>
    rintro ⟨e1,e2,e3,e4,e5,e6,e7⟩ st' ⟨⟨g',rfl⟩,he⟩
    cases e1 with
    | some m=>exact wpS_pure ⟨⟨g',rfl⟩,m,rfl,he⟩
    | none=>
     dsimp only at he ⊢
     rw [setMinGallop'_eq]
     exact wpS_bind (wpS_modify (wpS_pure ⟨⟨_,rfl⟩,rfl,he⟩))
theorem wpS_mergeHi {Q:Array Keyed→SortSt→Prop} (hO:κ.OneLt) (hkd:kindOf st=oneType') (C:MD κ a b) (ha:0 < a.size) (hb:0 < b.size) (h1:∀ j (h:j < b.size),Le κ b[j] (a[a.size - 1]'(by omega)))
  (h:∀ m g,MGood κ a.toList b.toList m.toList→Q m (setG st g)):wpS (model prog w) A E s (mergeHi' a b) Q st:=by
 rw [mergeHi'_eq]
 refine wpS_bind (wpS_lift (wpAny_rule ⟨rfl,?_⟩))
 refine wpS_bind (wpS_elem (by omega) ?_)
 have I:HiI κ a.toList b.toList (#[a[a.size - 1]'(by omega)]:Array Keyed).toList (a.size - 1) b.size:=by
  have I0:HiI κ a.toList b.toList (#[]:Array Keyed).toList a.size b.size:=⟨by rw [List.drop_eq_nil_of_le (by simp),List.drop_eq_nil_of_le (by simp)];exact List.Perm.refl _,List.Pairwise.nil,fun x hx=>(by cases hx),fun x hx=>(by cases hx)⟩
  exact C.pushA I0 ha (by omega) fun j hj _=>h1 j hj
 by_cases hb1:a.size - 1=0
 ·rw [if_pos (by simpa using hb1)]
  exact wpS_pure (h _ (gallopOf st) (C.fin I (.inl hb1)))
 ·rw [if_neg (by simpa using hb1)]
  by_cases ha1:b.size=1
  ·rw [if_pos (by simpa using ha1)]
   exact wpS_pure (h _ (gallopOf st) (C.fin2 I ha1))
  ·rw [if_neg (by simpa using ha1)]
   refine wpS_bind (wpS_get ?_)
   refine wpS_bind (wpS_mono (wpS_forRange (I:=fun (x:Nat) (c:HiT0) (st':SortSt)=>(∃ g,st'=setG st g)∧c.1=none∧AliveH κ a b x c.2.2.2.1 c.2.1 c.2.2.1)
    (Q:=fun (c:HiT0) (st':SortSt)=>(∃ g,st'=setG st g)∧∃ m,c.1=some m∧MGood κ a.toList b.toList m.toList) ?step ?fin ⟨⟨gallopOf st,rfl⟩,rfl,I,(by show 0 < a.size - 1;omega),(by show a.size - 1≤a.size;omega),(by show 1 < b.size;omega),Nat.le_refl _,(by show 0+(a.size - 1)+b.size≤_;omega)⟩) ?post)
   case fin=>
    rintro c st' ⟨hg,hc,L⟩
    have:=L.many
    have:=L.la
    have:=L.lb
    omega
   case step=>
    rintro x c st' _ hx ⟨⟨g,rfl⟩,hc,L⟩
    refine wpS_mono (wp_hiTurn (st:=st) hO hkd C L) fun r st2 hr=>?_
    obtain ⟨hg,hr⟩:=hr
    cases r with
    | done e=>exact ⟨hg,hr⟩
    | yield e=>exact ⟨hg,hr⟩
   case post=>
    rintro ⟨c1,c2⟩ st' ⟨⟨g,rfl⟩,m,hm,hg⟩
    dsimp only at hm
    subst hm
    exact wpS_pure (h m g hg)
end
open PySem PyProof.Rows
def writeAt (sa:Nat) (M:List Keyed) (arr:Array Keyed):Array Keyed:=M.zipIdx.foldl (fun a (p,j)=>a.setIfInBounds (sa+j) p) arr
def mAt3 (arr:Array Keyed) (sa na sb nb:Nat):StateT SortSt Sem Bool:=do
 let m ← if na≤nb then mergeLo' (arr.extract sa sb) (arr.extract sb (sb+nb)) else mergeHi' (arr.extract sa sb) (arr.extract sb (sb+nb))
 modify fun s=>setArr s (writeAt sa m.toList (arrOf s))
 return (failedOf (← get)).isNone
def mAt2 (arr:Array Keyed) (sa na sb nb:Nat):StateT SortSt Sem Bool:=
 if (na == 0)=true then pure true else do
  let x ← elem' arr (sa+na - 1)
  match ← gallop' true x arr sb nb (nb - 1) with
  | some m=>if (m == 0)=true then pure true else mAt3 arr sa na sb m
  | _=>pure false
def mAt1 (arr:Array Keyed) (sa na sb nb:Nat):StateT SortSt Sem Bool:=do
 let y ← elem' arr sb
 match ← gallop' false y arr sa na 0 with
 | some k=>mAt2 arr (sa+k) (na - k) sb nb
 | _=>pure false
theorem write_go (sa:Nat):∀ (M:List Keyed) (n:Nat) (arr:Array Keyed),sa+n+M.length≤arr.size→
  ((M.zipIdx n).foldl (fun a (p,j)=>a.setIfInBounds (sa+j) p) arr).toList=arr.toList.take (sa+n)++M++arr.toList.drop (sa+n+M.length)
 | [],n,arr,h=>by simp
 | x :: M,n,arr,h=>by
  rw [List.length_cons] at h
  rw [List.zipIdx_cons,List.foldl_cons]
  have ih:=write_go sa M (n+1) (arr.setIfInBounds (sa+n) x) (by rw [Array.size_setIfInBounds];omega)
  have hl:sa+n < arr.toList.length:=by rw [Array.length_toList];omega
  have e:(arr.setIfInBounds (sa+n) x).toList=(arr.toList.take (sa+n)++[x])++arr.toList.drop (sa+n+1):=by
   rw [Array.toList_setIfInBounds,List.set_eq_take_append_cons_drop,if_pos hl,List.append_assoc]
   rfl
  have l1:(arr.toList.take (sa+n)++[x]).length=sa+n+1:=by
   rw [List.length_append,List.length_take]
   show min _ _+1=_
   omega
  rw [ih,e]
  have e1:sa+(n+1)=sa+n+1:=rfl
  rw [e1,List.take_left' l1,List.drop_append,l1]
  have e2:List.drop (sa+n+1+M.length) (arr.toList.take (sa+n)++[x])=[]:=List.drop_eq_nil_of_le (by omega)
  have e3:sa+n+1+M.length - (sa+n+1)=M.length:=by omega
  rw [e2,e3,List.drop_drop,List.length_cons]
  have e4:sa+n+1+M.length=sa+n+(M.length+1):=by omega
  rw [e4]
  simp
theorem write_list {sa:Nat} {M:List Keyed} {arr:Array Keyed} (h:sa+M.length≤arr.size):(writeAt sa M arr).toList=arr.toList.take sa++M++arr.toList.drop (sa+M.length):=write_go sa M 0 arr h
theorem write_at {sa:Nat} {M:List Keyed} {arr:Array Keyed} (h:sa+M.length≤arr.size) (k:Nat):(writeAt sa M arr)[k]?=if sa≤k∧k < sa+M.length then M[k - sa]? else arr[k]?:=by
 rw [← Array.getElem?_toList,write_list h]
 have hl:(arr.toList.take sa).length=sa:=by rw [List.length_take,Array.length_toList];omega
 by_cases h1:k < sa
 ·rw [if_neg (by omega),List.append_assoc,List.getElem?_append_left (by omega),List.getElem?_take,if_pos h1,Array.getElem?_toList]
 ·by_cases h2:k < sa+M.length
  ·rw [if_pos ⟨by omega,h2⟩,List.append_assoc,List.getElem?_append_right (by omega),hl,List.getElem?_append_left (by omega)]
  ·rw [if_neg (by omega),List.append_assoc,List.getElem?_append_right (by omega),hl,List.getElem?_append_right (by omega),List.getElem?_drop,Array.getElem?_toList]
   congr 1
   omega
theorem write_perm {sa:Nat} {M:List Keyed} {arr:Array Keyed} (h:sa+M.length≤arr.size) (hp:M.Perm ((arr.toList.drop sa).take M.length)):(writeAt sa M arr).Perm arr:=by
 rw [Array.perm_iff_toList_perm,write_list h]
 have e:arr.toList=arr.toList.take sa++(arr.toList.drop sa).take M.length++arr.toList.drop (sa+M.length):=by
  rw [List.append_assoc,← List.drop_drop,List.take_append_drop,List.take_append_drop]
 refine List.Perm.trans ?_ (List.Perm.of_eq e.symm)
 exact (hp.append_left _).append_right _
section
variable {prog:Program} {w:World} {A:Around} {E:Value→Shared→Prop} {s:Shared} {κ:KeyKind} {st:SortSt} {arr:Array Keyed}
def Seg (κ:KeyKind) (arr:Array Keyed) (lo hi:Nat):Prop:=∀ i j,lo≤i→i≤j→j < hi→κ.kle (KK κ arr i) (KK κ arr j)
theorem KK_at {i:Nat} (h:i < arr.size):KK κ arr i=kq κ arr[i]:=by
 unfold KK kq
 rw [getElem?_pos arr i h]
theorem seg_sl {lo hi:Nat} (h:Seg κ arr lo hi) (hh:hi≤arr.size):SL κ (arr.extract lo hi).toList:=by
 refine List.pairwise_iff_getElem.mpr ?_
 intro i j hi' hj' hij
 have e1:(arr.extract lo hi).toList.length=hi - lo:=by simp;omega
 rw [Array.getElem_toList,Array.getElem_toList,Array.getElem_extract,Array.getElem_extract]
 have:=h (lo+i) (lo+j) (by omega) (by omega) (by omega)
 rw [KK_at (by omega),KK_at (by omega)] at this
 exact this
theorem wpS_set {Q:PUnit→SortSt→Prop} {st st2:SortSt} (h:Q ⟨⟩ st2):wpS (model prog w) A E s (set st2:StateT SortSt Sem PUnit) Q st:=by
 unfold wpS;rw [StateT.run_set];exact wpAny_pure ⟨rfl,h⟩
abbrev stOf (st:SortSt) (arr:Array Keyed) (pend:Array (Nat×Nat×Nat)) (g:Nat):SortSt:=SortSt.mk' (kindOf st) arr pend g (failedOf st)
theorem wpS_mergeAt {Q:Bool→SortSt→Prop} {i sa na pw nb pw':Nat} (hO:κ.OneLt) (hk:kindOf st=oneType') (hf:failedOf st=none) (hy:∀ i (h:i < (arrOf st).size),HasKey κ (arrOf st)[i]) (hp1:(pendingOf st)[i]?=some (sa,na,pw)) (hp2:(pendingOf st)[i+1]?=some (sa+na,nb,pw'))
  (h0:0 < na) (h1:0 < nb) (hz:sa+na+nb≤(arrOf st).size) (S1:Seg κ (arrOf st) sa (sa+na)) (S2:Seg κ (arrOf st) (sa+na) (sa+na+nb))
  (h:∀ arr' g,arr'.Perm (arrOf st)→Seg κ arr' sa (sa+na+nb)→(∀ k,k < sa∨sa+na+nb≤k→arr'[k]?=(arrOf st)[k]?)→Q true (stOf st arr' (((pendingOf st).setIfInBounds i (sa,na+nb,pw)).eraseIdxIfInBounds (i+1)) g)) :
  wpS (model prog w) A E s (mergeAt' i) Q st:=by
 have e0:mergeAt' i=((get:StateT SortSt Sem SortSt) >>= (_:SortSt→StateT SortSt Sem Bool)):=rfl
 rw [e0]
 refine wpS_bind (wpS_get ?_)
 rw [hp1,hp2]
 show wpS _ _ _ _ (set (setPending st (((pendingOf st).setIfInBounds i (sa,na+nb,pw)).eraseIdxIfInBounds (i+1))) >>= fun _=>mAt1 (arrOf st) sa na (sa+na) nb) Q st
 refine wpS_bind (wpS_set ?_)
 unfold mAt1
 refine wpS_bind (wpS_elem (by omega) ?_)
 generalize hP:((pendingOf st).setIfInBounds i (sa,na+nb,pw)).eraseIdxIfInBounds (i+1)=P at *
 have seg1:∀ i j (hi:i < (arrOf st).size) (hj:j < (arrOf st).size),sa≤i→i≤j→j < sa+na→Le κ (arrOf st)[i] (arrOf st)[j]:=fun i j hi hj g1 g2 g3=>by
  have:=S1 i j g1 g2 g3
  rw [KK_at hi,KK_at hj] at this
  exact this
 have seg2:∀ i j (hi:i < (arrOf st).size) (hj:j < (arrOf st).size),sa+na≤i→i≤j→j < sa+na+nb→Le κ (arrOf st)[i] (arrOf st)[j]:=fun i j hi hj g1 g2 g3=>by
  have:=S2 i j g1 g2 g3
  rw [KK_at hi,KK_at hj] at this
  exact this
 refine wpS_bind (wpS_gal (st:=setPending st P) (κ:=κ) hO hk (hy _ (by omega)) (by omega) h0 hy seg1 fun k k1 k2 k3=>?_)
 have kk:∀ i (hi:i < (arrOf st).size),KK κ (arrOf st) i=kq κ (arrOf st)[i]:=fun i hi=>KK_at hi
 have F1:∀ i,sa≤i→i < sa+k→κ.kle (KK κ (arrOf st) i) (KK κ (arrOf st) (sa+na)):=fun i g1 g2=>by
  rw [kk i (by omega),kk (sa+na) (by omega)]
  exact bey_ft (k2 i (by omega) g1 g2)
 show wpS _ _ _ _ (mAt2 (arrOf st) (sa+k) (na - k) (sa+na) nb) Q _
 unfold mAt2
 by_cases hk0:na - k=0
 ·rw [if_pos (by simpa using hk0)]
  refine wpS_pure (h (arrOf st) (gallopOf st) (Array.Perm.refl _) (fun i j g1 g2 g3=>?_) fun _ _=>rfl)
  by_cases hj:j < sa+na
  ·exact S1 i j g1 g2 hj
  ·by_cases hi:i < sa+na
   ·exact KeyOrd.kle_trans (F1 i g1 (by omega)) (S2 (sa+na) j (by omega) (by omega) g3)
   ·exact S2 i j (by omega) g2 g3
 ·rw [if_neg (by simpa using hk0)]
  have eix:sa+k+(na - k) - 1=sa+na - 1:=by omega
  rw [eix]
  refine wpS_bind (wpS_elem (by omega) ?_)
  refine wpS_bind (wpS_gal (st:=setPending st P) (κ:=κ) hO hk (hy _ (by omega)) (by omega) (by omega) hy seg2 fun m m1 m2 m3=>?_)
  have F2:∀ j,sa+na+m≤j→j < sa+na+nb→κ.kle (KK κ (arrOf st) (sa+na - 1)) (KK κ (arrOf st) j):=fun j g1 g2=>by
   rw [kk j (by omega),kk (sa+na - 1) (by omega)]
   exact bey_tf (m3 j (by omega) g1 g2)
  dsimp only
  by_cases hm0:m=0
  ·rw [if_pos (by simpa using hm0)]
   refine wpS_pure (h (arrOf st) (gallopOf st) (Array.Perm.refl _) (fun i j g1 g2 g3=>?_) fun _ _=>rfl)
   by_cases hj:j < sa+na
   ·exact S1 i j g1 g2 hj
   ·by_cases hi:i < sa+na
    ·exact KeyOrd.kle_trans (S1 i (sa+na - 1) g1 (by omega) (by omega)) (F2 j (by omega) g3)
    ·exact S2 i j (by omega) g2 g3
  ·rw [if_neg (by simpa using hm0)]
   unfold mAt3
   have sx:((arrOf st).extract (sa+k) (sa+na)).size=na - k:=by simp;omega
   have sy:((arrOf st).extract (sa+na) (sa+na+m)).size=m:=by simp;omega
   have SX:SL κ ((arrOf st).extract (sa+k) (sa+na)).toList:=seg_sl (fun i j g1 g2 g3=>S1 i j (by omega) g2 g3) (by omega)
   have SY:SL κ ((arrOf st).extract (sa+na) (sa+na+m)).toList:=seg_sl (fun i j g1 g2 g3=>S2 i j g1 g2 (by omega)) (by omega)
   have fin:∀ (M:Array Keyed) (g:Nat),MGood κ ((arrOf st).extract (sa+k) (sa+na)).toList ((arrOf st).extract (sa+na) (sa+na+m)).toList M.toList→Q true (stOf st (writeAt (sa+k) M.toList (arrOf st)) P g):=by
    rintro M g ⟨hperm,hsl⟩
    have hlen:M.toList.length=na - k+m:=by
     rw [hperm.length_eq,List.length_append,Array.length_toList,Array.length_toList,sx,sy]
    have hb:sa+k+M.toList.length≤(arrOf st).size:=by omega
    have eXY:((arrOf st).extract (sa+k) (sa+na)).toList++((arrOf st).extract (sa+na) (sa+na+m)).toList=((arrOf st).toList.drop (sa+k)).take M.toList.length:=by
     rw [ext_list,ext_list,hlen,List.take_add,List.drop_drop]
     have e1:sa+na - (sa+k)=na - k:=by omega
     have e2:sa+na+m - (sa+na)=m:=by omega
     have e3:sa+k+(na - k)=sa+na:=by omega
     rw [e1,e2,e3]
    rw [eXY] at hperm
    have zone:∀ i,sa+k≤i→i < sa+na+m→∃ p,sa+k≤p∧p < sa+na+m∧KK κ (writeAt (sa+k) M.toList (arrOf st)) i=KK κ (arrOf st) p:=fun i g1 g2=>by
     have hi:i - (sa+k) < M.toList.length:=by omega
     have hw:=write_at hb i
     rw [if_pos ⟨g1,by omega⟩,List.getElem?_eq_getElem hi] at hw
     have hmem:=hperm.mem_iff.mp (List.getElem_mem hi)
     obtain ⟨q,hq,eq⟩:=List.mem_iff_getElem.mp hmem
     have hq':q < M.toList.length:=by
      have:=hq
      rw [List.length_take] at this
      omega
     refine ⟨sa+k+q,by omega,by omega,KK_congr ?_⟩
     rw [hw,← eq,List.getElem_take,List.getElem_drop,Array.getElem_toList,getElem?_pos (arrOf st) (sa+k+q) (by omega)]
    have off:∀ i,i < sa+k∨sa+na+m≤i→(writeAt (sa+k) M.toList (arrOf st))[i]?=(arrOf st)[i]?:=fun i g1=>by
     rw [write_at hb,if_neg (by omega)]
    have offK:∀ i,i < sa+k∨sa+na+m≤i→KK κ (writeAt (sa+k) M.toList (arrOf st)) i=KK κ (arrOf st) i:=fun i g1=>KK_congr (off i g1)
    refine h _ g (write_perm hb hperm) (fun i j g1 g2 g3=>?_) fun i g1=>off i (by omega)
    by_cases zi:i < sa+k
    ·rw [offK i (.inl zi)]
     by_cases zj:j < sa+k
     ·rw [offK j (.inl zj)]
      exact S1 i j g1 g2 (by omega)
     ·by_cases zj2:j < sa+na+m
      ·obtain ⟨p,p1,p2,ep⟩:=zone j (by omega) zj2
       rw [ep]
       by_cases hp:p < sa+na
       ·exact S1 i p g1 (by omega) hp
       ·exact KeyOrd.kle_trans (F1 i g1 zi) (S2 (sa+na) p (by omega) (by omega) (by omega))
      ·rw [offK j (.inr (by omega))]
       exact KeyOrd.kle_trans (F1 i g1 zi) (S2 (sa+na) j (by omega) (by omega) g3)
    ·by_cases zi2:i < sa+na+m
     ·by_cases zj2:j < sa+na+m
      ·have hi:i - (sa+k) < M.toList.length:=by omega
       have hj:j - (sa+k) < M.toList.length:=by omega
       have wi:=write_at hb i
       have wj:=write_at hb j
       rw [if_pos ⟨by omega,by omega⟩,List.getElem?_eq_getElem hi] at wi
       rw [if_pos ⟨by omega,by omega⟩,List.getElem?_eq_getElem hj] at wj
       have ki:KK κ (writeAt (sa+k) M.toList (arrOf st)) i=kq κ (M.toList[i - (sa+k)]):=by unfold KK kq;rw [wi]
       have kj:KK κ (writeAt (sa+k) M.toList (arrOf st)) j=kq κ (M.toList[j - (sa+k)]):=by unfold KK kq;rw [wj]
       rw [ki,kj]
       rcases Nat.lt_or_ge i j with hlt | hge
       ·exact List.pairwise_iff_getElem.mp hsl _ _ hi hj (by omega)
       ·have:i=j:=by omega
        subst this
        exact KeyOrd.kle_refl _
      ·obtain ⟨p,p1,p2,ep⟩:=zone i (by omega) zi2
       rw [ep,offK j (.inr (by omega))]
       by_cases hp:p < sa+na
       ·exact KeyOrd.kle_trans (S1 p (sa+na - 1) (by omega) (by omega) (by omega)) (F2 j (by omega) g3)
       ·exact S2 p j (by omega) (by omega) g3
     ·rw [offK i (.inr (by omega)),offK j (.inr (by omega))]
      exact S2 i j (by omega) g2 g3
   have kX:∀ i (h:i < ((arrOf st).extract (sa+k) (sa+na)).size),HasKey κ ((arrOf st).extract (sa+k) (sa+na))[i]:=fun i hi=>by
    rw [Array.getElem_extract];exact hy _ _
   have kY:∀ i (h:i < ((arrOf st).extract (sa+na) (sa+na+m)).size),HasKey κ ((arrOf st).extract (sa+na) (sa+na+m))[i]:=fun i hi=>by
    rw [Array.getElem_extract];exact hy _ _
   have lastF:∀ j (hj:j < ((arrOf st).extract (sa+na) (sa+na+m)).size) (h':((arrOf st).extract (sa+k) (sa+na)).size - 1 < ((arrOf st).extract (sa+k) (sa+na)).size),Le κ ((arrOf st).extract (sa+na) (sa+na+m))[j] ((arrOf st).extract (sa+k) (sa+na))[((arrOf st).extract (sa+k) (sa+na)).size - 1]:=fun j hj h'=>by
    rw [Array.getElem_extract,Array.getElem_extract]
    have e:sa+k+(((arrOf st).extract (sa+k) (sa+na)).size - 1)=sa+na - 1:=by omega
    have:=bey_tt (m2 (sa+na+j) (by omega) (by omega) (by omega))
    simp only [e]
    exact this
   have firstF:∀ i (hi:i < ((arrOf st).extract (sa+k) (sa+na)).size) (h':0 < ((arrOf st).extract (sa+na) (sa+na+m)).size),Le κ ((arrOf st).extract (sa+na) (sa+na+m))[0] ((arrOf st).extract (sa+k) (sa+na))[i]:=fun i hi h'=>by
    rw [Array.getElem_extract,Array.getElem_extract]
    exact KeyOrd.kle_of_klt (bey_ff (k3 (sa+k+i) (by omega) (by omega) (by omega)))
   split
   ·refine wpS_bind (wpS_mergeLo (st:=setPending st P) hO hk ⟨kX,kY,SX,SY,lastF⟩ (by omega) (by omega) (fun i hi=>firstF i hi (by omega)) fun M g hM=>?_)
    refine wpS_bind (wpS_modify ?_)
    refine wpS_bind (wpS_get ?_)
    refine wpS_pure ?_
    have:=fin M g hM
    have ef:(failedOf (stOf st (writeAt (sa+k) M.toList (arrOf st)) P g)).isNone=true:=by show (failedOf st).isNone=true;rw [hf];rfl
    show Q (failedOf (stOf st (writeAt (sa+k) M.toList (arrOf st)) P g)).isNone _
    rw [ef]
    exact this
   ·refine wpS_bind (wpS_mergeHi (st:=setPending st P) hO hk ⟨kX,kY,SX,SY,firstF⟩ (by omega) (by omega) (fun j hj=>lastF j hj (by omega)) fun M g hM=>?_)
    refine wpS_bind (wpS_modify ?_)
    refine wpS_bind (wpS_get ?_)
    refine wpS_pure ?_
    have:=fin M g hM
    have ef:(failedOf (stOf st (writeAt (sa+k) M.toList (arrOf st)) P g)).isNone=true:=by show (failedOf st).isNone=true;rw [hf];rfl
    show Q (failedOf (stOf st (writeAt (sa+k) M.toList (arrOf st)) P g)).isNone _
    rw [ef]
    exact this
end
open PySem PyProof.Rows
def ascL (lo a nrem:Nat):StateT SortSt Sem AscSt:=
 forIn [a:nrem] ((none,a):AscSt) fun _ c=>do
  let x ← ltAt' (lo+c.snd) (lo+c.snd - 1)
  match x with
  | some smaller=>if smaller=true then pure (ForInStep.done (none,c.snd)) else pure (ForInStep.yield (none,c.snd+1))
  | _=>pure (ForInStep.done (some none,c.snd))
def tailL (lo n nrem:Nat):StateT SortSt Sem (Option Nat):=do
 reverseSlice' lo (lo+n)
 let c ← ascL lo n nrem
 match c.fst with
 | some r=>pure r
 | none=>pure (some c.snd)
def descL (lo n nrem:Nat):StateT SortSt Sem DescSt:=
 forIn [n:nrem] ((none,n,0):DescSt) fun _ c=>do
  let x ← ltAt' (lo+c.snd.fst) (lo+c.snd.fst - 1)
  match x with
  | some smaller=>
   if smaller=true then
    if c.snd.snd > 0 then do
     reverseSlice' (lo+c.snd.fst - (c.snd.snd+1)) (lo+c.snd.fst)
     pure (ForInStep.yield (none,c.snd.fst+1,0))
    else pure (ForInStep.yield (none,c.snd.fst+1,0))
   else do
    let x ← ltAt' (lo+c.snd.fst - 1) (lo+c.snd.fst)
    match x with
    | some larger=>
     if larger=true then pure (ForInStep.done (none,c.snd.fst,c.snd.snd))
     else pure (ForInStep.yield (none,c.snd.fst+1,c.snd.snd+1))
    | _=>pure (ForInStep.done (some none,c.snd.fst,c.snd.snd))
  | _=>pure (ForInStep.done (some none,c.snd.fst,c.snd.snd))
def partL (lo n nrem:Nat):StateT SortSt Sem (Option Nat):=do
 liftM (rule "list.sort.descending-run")
 let c ← descL lo (n+1) nrem
 match c.fst with
 | some r=>pure r
 | none=>
  if c.snd.snd > 0 then do
   reverseSlice' (lo+c.snd.fst - (c.snd.snd+1)) (lo+c.snd.fst)
   tailL lo c.snd.fst nrem
  else tailL lo c.snd.fst nrem
theorem countRunL_eq (lo nrem:Nat):countRun' lo nrem=(do
  let c ← ascL lo 1 nrem
  match c.fst with
  | some r=>pure r
  | none=>
   if (c.snd == nrem)=true then pure (some c.snd)
   else if c.snd > 1 then do
    let x ← ltAt' lo (lo+c.snd - 1)
    match x with
    | some rose=>if rose=true then pure (some c.snd) else do
      reverseSlice' lo (lo+c.snd)
      partL lo c.snd nrem
    | _=>pure none
   else partL lo c.snd nrem):=by
 rw [countRun'_eq]
 dsimp only
 unfold partL tailL descL ascL
 congr 1
 funext c
 obtain ⟨r,n⟩:=c
 cases r with
 | some r=>rfl
 | none=>
  dsimp only
  split
  ·rfl
  ·split
   ·congr 1
    funext x
    cases x with
    | none=>rfl
    | some rose=>
     dsimp only
     split
     ·rfl
     ·congr 1
      funext _r
      congr 1
      funext u1
      congr 1
      congr 1
      funext d
      obtain ⟨d1,d2,d3⟩:=d
      cases d1 with
      | some _=>rfl
      | none=>
       dsimp only
       split
       ·congr 1
        funext u2
        congr 1
        funext u3
        congr 1
        funext e
        obtain ⟨e1,e2⟩:=e
        cases e1 <;> rfl
       ·congr 1
        funext u3
        congr 1
        funext e
        obtain ⟨e1,e2⟩:=e
        cases e1 <;> rfl
   ·congr 1
    funext u1
    congr 1
    congr 1
    funext d
    obtain ⟨d1,d2,d3⟩:=d
    cases d1 with
    | some _=>rfl
    | none=>
     dsimp only
     split
     ·congr 1
      funext u2
      congr 1
      funext u3
      congr 1
      funext e
      obtain ⟨e1,e2⟩:=e
      cases e1 <;> rfl
     ·congr 1
      funext u3
      congr 1
      funext e
      obtain ⟨e1,e2⟩:=e
      cases e1 <;> rfl
section
variable {prog:Program} {w:World} {A:Around} {E:Value→Shared→Prop} {s:Shared} {a₀ ar0:Array Keyed} {κ:KeyKind} {P:Array (Nat×Nat×Nat)} {lo:Nat}
structure TB (a₀:Array Keyed) (P:Array (Nat×Nat×Nat)) (lo:Nat) (ar0:Array Keyed) (st:SortSt):Prop where
 perm:(arrOf st).Perm a₀
 kind:kindOf st=oneType'
 failed:failedOf st=none
 pend:pendingOf st=P
 low:∀ k,k < lo→(arrOf st)[k]?=ar0[k]?
theorem TB.size {st:SortSt} (h:TB a₀ P lo ar0 st):(arrOf st).size=a₀.size:=h.perm.size_eq
theorem TB.setArr {st:SortSt} (h:TB a₀ P lo ar0 st) {xs:Array Keyed} (hp:xs.Perm (arrOf st)) (hl:∀ k,k < lo→xs[k]?=(arrOf st)[k]?):TB a₀ P lo ar0 (setArr st xs):=
 ⟨hp.trans h.perm,h.kind,h.failed,h.pend,fun k hk=>(hl k hk).trans (h.low k hk)⟩
theorem TB.mir {st:SortSt} (h:TB a₀ P lo ar0 st) {i j:Nat} (hi:lo≤i) (hj:j≤a₀.size):TB a₀ P lo ar0 (PyProof.Rows.setArr st (mirror (arrOf st) i j ((j - i) / 2))):=
 h.setArr (mirror_perm _ _ _ _) fun k hk=>by rw [getElem?_mirror_all (by rw [h.size];exact hj),if_neg (by omega)]
theorem TB.key {st:SortSt} (T:TB a₀ P lo ar0 st) (keys:KeysOf κ a₀) {i:Nat} (below:i < a₀.size):∃ li:i < (arrOf st).size,HasKey κ ((arrOf st)[i]):=
 ⟨by rw [T.size];exact below,keys _ ((Array.perm_iff_toList_perm.mp T.perm).mem_iff.mp (Array.getElem_mem_toList _))⟩
theorem wpS_ltT {st:SortSt} {i j:Nat} {Q:Option Bool→SortSt→Prop} (hO:κ.OneLt) (T:TB a₀ P lo ar0 st) (keys:KeysOf κ a₀) (bi:i < a₀.size) (bj:j < a₀.size) (q:Q (some (κ.blt (KK κ (arrOf st) i) (KK κ (arrOf st) j))) st) :
  wpS (model prog w) A E s (ltAt' i j) Q st:=by
 obtain ⟨li,u,ku⟩:=T.key keys bi
 obtain ⟨lj,v,kv⟩:=T.key keys bj
 rw [KK_at li,KK_at lj] at q
 unfold kq at q
 rw [ku,kv] at q
 exact wpS_ltAtK (p:=(arrOf st)[i].2) (q:=(arrOf st)[j].2) hO T.kind (getElem?_pos _ i li) (getElem?_pos _ j lj) ku kv q
def Dsg (κ:KeyKind) (arr:Array Keyed) (lo hi:Nat):Prop:=∀ i j,lo≤i→i≤j→j < hi→κ.kle (KK κ arr j) (KK κ arr i)
theorem grown {R:Nat→Nat→Prop} (refl:∀ i,R i i) (trans:∀ i j k,R i j→R j k→R i k) {lo top:Nat} (low:lo < top) (old:∀ i j,lo≤i→i≤j→j < top→R i j) (new:R (top - 1) top):∀ i j,lo≤i→i≤j→j < top+1→R i j:=fun i j a b c=>by
 rcases Nat.lt_or_ge j top with d | d
 ·exact old i j a b d
 have ej:j=top:=by omega
 rcases Nat.lt_or_ge i j with f | f
 ·rw [ej];exact trans _ _ _ (old i (top - 1) a (by omega) (by omega)) new
 ·rw [show i=j by omega];exact refl j
theorem Seg.grow {arr:Array Keyed} {lo top:Nat} (low:lo < top) (g:Seg κ arr lo top) (n:κ.kle (KK κ arr (top - 1)) (KK κ arr top)):Seg κ arr lo (top+1):=
 grown (R:=fun i j=>κ.kle (KK κ arr i) (KK κ arr j)) (fun _=>KeyOrd.kle_refl _) (fun _ _ _=>KeyOrd.kle_trans) low g n
theorem Dsg.grow {arr:Array Keyed} {lo top:Nat} (low:lo < top) (g:Dsg κ arr lo top) (n:κ.kle (KK κ arr top) (KK κ arr (top - 1))):Dsg κ arr lo (top+1):=
 grown (R:=fun i j=>κ.kle (KK κ arr j) (KK κ arr i)) (fun _=>KeyOrd.kle_refl _) (fun _ _ _ a b=>KeyOrd.kle_trans b a) low g n
theorem Seg.one {arr:Array Keyed} {lo:Nat}:Seg κ arr lo (lo+1):=fun i j a b c=>by rw [show i=j by omega];exact KeyOrd.kle_refl _
theorem Dsg.one {arr:Array Keyed} {lo:Nat}:Dsg κ arr lo (lo+1):=fun i j a b c=>by rw [show i=j by omega];exact KeyOrd.kle_refl _
theorem Dsg.like {arr ys:Array Keyed} {lo hi:Nat} (g:Dsg κ arr lo hi) (e:∀ k,KK κ ys k=KK κ arr k):Dsg κ ys lo hi:=fun i j a b c=>by rw [e i,e j];exact g i j a b c
abbrev Found (a₀:Array Keyed) (κ:KeyKind) (P:Array (Nat×Nat×Nat)) (lo:Nat) (ar0:Array Keyed) (nrem:Nat) (Q:Option Nat→SortSt→Prop):Prop:=
 ∀ (m:Nat) (sn:SortSt),TB a₀ P lo ar0 sn→1≤m→m≤nrem→Seg κ (arrOf sn) lo (lo+m)→Q (some m) sn
theorem wpS_ascL {st:SortSt} {a nrem:Nat} {Q:AscSt→SortSt→Prop} (hO:κ.OneLt) (keys:KeysOf κ a₀) (room:lo+nrem≤a₀.size) (pos:0 < a) (le:a≤nrem) (T:TB a₀ P lo ar0 st) (G:Seg κ (arrOf st) lo (lo+a))
  (q:∀ n,a≤n→n≤nrem→Seg κ (arrOf st) lo (lo+n)→(n < nrem→κ.klt (KK κ (arrOf st) (lo+n)) (KK κ (arrOf st) (lo+n - 1)))→Q (none,n) st):wpS (model prog w) A E s (ascL lo a nrem) Q st:=by
 refine wpS_forRange (I:=fun n c sn=>sn=st∧c=(none,n)∧Seg κ (arrOf st) lo (lo+n)) (fun n c sn an bn J=>?_) (fun c sn J=>?_) ⟨rfl,rfl,G⟩
 ·obtain ⟨rfl,rfl,Gn⟩:=J
  refine wpS_bind (wpS_ltT hO T keys (i:=lo+n) (j:=lo+n - 1) (by omega) (by omega) ?_)
  cases c:κ.blt (KK κ (arrOf sn) (lo+n)) (KK κ (arrOf sn) (lo+n - 1)) with
  | true=>exact wpS_pure (q n an (Nat.le_of_lt bn) Gn fun _=>c)
  | false=>exact wpS_pure ⟨rfl,rfl,Seg.grow (top:=lo+n) (by omega) Gn c⟩
 ·obtain ⟨rfl,rfl,Gn⟩:=J
  have e:max a nrem=nrem:=by omega
  rw [e] at Gn ⊢
  exact q nrem le (Nat.le_refl _) Gn fun z=>absurd z (Nat.lt_irrefl _)
theorem wpS_tailL {st:SortSt} {n nrem:Nat} {Q:Option Nat→SortSt→Prop} (hO:κ.OneLt) (keys:KeysOf κ a₀) (room:lo+nrem≤a₀.size) (pos:0 < n) (le:n≤nrem) (T:TB a₀ P lo ar0 st) (D:Dsg κ (arrOf st) lo (lo+n))
  (q:Found a₀ κ P lo ar0 nrem Q):wpS (model prog w) A E s (tailL lo n nrem) Q st:=by
 have T1:=T.mir (i:=lo) (j:=lo+n) (Nat.le_refl _) (by omega)
 have z:lo+n≤(arrOf st).size:=by rw [T.size];omega
 refine wpS_bind (wpS_reverse (wpS_bind (wpS_ascL hO keys room pos le T1 (fun i j a b c=>?_) fun m am bm Gm _=>wpS_pure (q m _ T1 (by omega) bm Gm))))
 have em:=fun k=>KK_mirror (κ:=κ) (i:=lo) z k
 have ei:=em i
 have ej:=em j
 rw [if_pos ⟨a,by omega⟩] at ei
 rw [if_pos ⟨by omega,c⟩] at ej
 exact ei ▸ ej ▸ D (lo+(lo+n) - 1 - j) (lo+(lo+n) - 1 - i) (by omega) (by omega) (by omega)
def Flat (κ:KeyKind) (arr:Array Keyed) (top neq:Nat):Prop:=∀ k,top - (neq+1)≤k→k < top→KK κ arr k=KK κ arr (top - 1)
theorem wpS_descL {st:SortSt} {n nrem:Nat} {Q:DescSt→SortSt→Prop} (hO:κ.OneLt) (keys:KeysOf κ a₀) (room:lo+nrem≤a₀.size) (pos:0 < n) (le:n≤nrem) (T:TB a₀ P lo ar0 st) (D:Dsg κ (arrOf st) lo (lo+n))
  (q:∀ m neq sn,TB a₀ P lo ar0 sn→n≤m→m≤nrem→Dsg κ (arrOf sn) lo (lo+m)→neq < m→Flat κ (arrOf sn) (lo+m) neq→Q (none,m,neq) sn):wpS (model prog w) A E s (descL lo n nrem) Q st:=by
 have flat0:∀ (arr:Array Keyed) (t:Nat),Flat κ arr t 0:=fun arr t k a b=>by rw [show k=t - 1 by omega]
 refine wpS_forRange (I:=fun m c sn=>∃ neq,c=(none,m,neq)∧TB a₀ P lo ar0 sn∧Dsg κ (arrOf sn) lo (lo+m)∧neq < m∧Flat κ (arrOf sn) (lo+m) neq) (fun m c sn am bm J=>?_) (fun c sn J=>?_) ⟨0,rfl,T,D,pos,flat0 _ _⟩
 ·obtain ⟨neq,rfl,Tn,Dn,ln,fl⟩:=J
  have z:lo+m≤(arrOf sn).size:=by rw [Tn.size];omega
  refine wpS_bind (wpS_ltT hO Tn keys (i:=lo+m) (j:=lo+m - 1) (by omega) (by omega) ?_)
  cases c:κ.blt (KK κ (arrOf sn) (lo+m)) (KK κ (arrOf sn) (lo+m - 1)) with
  | true=>
   have D1:=Dsg.grow (top:=lo+m) (by omega) Dn (KeyOrd.kle_of_klt (show κ.klt _ _ from c))
   have T1:=Tn.mir (i:=lo+m - (neq+1)) (j:=lo+m) (by omega) (by omega)
   by_cases more:neq > 0
   ·show wpS _ _ _ _ (if neq > 0 then _ else _) _ _
    rw [if_pos more]
    exact wpS_bind (wpS_reverse (wpS_pure ⟨0,rfl,T1,D1.like (KK_mirror_equal z fl),by omega,flat0 _ _⟩))
   ·show wpS _ _ _ _ (if neq > 0 then _ else _) _ _
    rw [if_neg more]
    exact wpS_pure ⟨0,rfl,Tn,D1,by omega,flat0 _ _⟩
  | false=>
   show wpS _ _ _ _ (ltAt' (lo+m - 1) (lo+m) >>= _) _ _
   refine wpS_bind (wpS_ltT hO Tn keys (i:=lo+m - 1) (j:=lo+m) (by omega) (by omega) ?_)
   cases d:κ.blt (KK κ (arrOf sn) (lo+m - 1)) (KK κ (arrOf sn) (lo+m)) with
   | true=>exact wpS_pure (q m neq sn Tn am (by omega) Dn ln fl)
   | false=>
    have eq:KK κ (arrOf sn) (lo+m)=KK κ (arrOf sn) (lo+m - 1):=KeyOrd.kle_antisymm d c
    refine wpS_pure ⟨neq+1,rfl,Tn,Dsg.grow (top:=lo+m) (by omega) Dn d,by omega,fun k a b=>?_⟩
    show _=KK κ (arrOf sn) (lo+m)
    rcases Nat.lt_or_ge k (lo+m) with f | f
    ·rw [eq];exact fl k (by omega) f
    ·rw [show k=lo+m by omega]
 ·obtain ⟨neq,rfl,Tn,Dn,ln,fl⟩:=J
  have e:max n nrem=nrem:=by omega
  rw [e] at Dn ln fl ⊢
  exact q nrem neq sn Tn le (Nat.le_refl _) Dn ln fl
theorem wpS_partL {st:SortSt} {n nrem:Nat} {Q:Option Nat→SortSt→Prop} (hO:κ.OneLt) (keys:KeysOf κ a₀) (room:lo+nrem≤a₀.size) (le:n+1≤nrem) (T:TB a₀ P lo ar0 st) (D:Dsg κ (arrOf st) lo (lo+n+1))
  (q:Found a₀ κ P lo ar0 nrem Q):wpS (model prog w) A E s (partL lo n nrem) Q st:=by
 refine wpS_bind (wpS_lift (wpAny_rule ⟨rfl,wpS_bind (wpS_descL hO keys room (Nat.succ_pos n) le T D fun m neq sn Tn am bm Dn ln fl=>?_)⟩))
 have z:lo+m≤(arrOf sn).size:=by rw [Tn.size];omega
 have m0:0 < m:=by omega
 have T1:=Tn.mir (i:=lo+m - (neq+1)) (j:=lo+m) (by omega) (by omega)
 show wpS _ _ _ _ (if neq > 0 then _ else _) _ _
 split
 ·exact wpS_bind (wpS_reverse (wpS_tailL (n:=m) hO keys room m0 bm T1 (Dn.like (KK_mirror_equal z fl)) q))
 ·exact wpS_tailL (n:=m) hO keys room m0 bm Tn Dn q
theorem wpS_countL {st:SortSt} {nrem:Nat} {Q:Option Nat→SortSt→Prop} (hO:κ.OneLt) (keys:KeysOf κ a₀) (room:lo+nrem≤a₀.size) (pos:1≤nrem) (T:TB a₀ P lo ar0 st)
  (q:Found a₀ κ P lo ar0 nrem Q):wpS (model prog w) A E s (countRun' lo nrem) Q st:=by
 rw [countRunL_eq]
 refine wpS_bind (wpS_ascL hO keys room Nat.one_pos pos T Seg.one fun n an bn Gn ends=>?_)
 show wpS _ _ _ _ (if (n == nrem)=true then _ else if n > 1 then _ else _) _ _
 by_cases all:n=nrem
 ·rw [if_pos (beq_iff_eq.mpr all)]
  exact wpS_pure (q n st T an bn Gn)
 rw [if_neg (fun z=>all (beq_iff_eq.mp z))]
 have falls:=ends (by omega)
 have z:lo+n≤(arrOf st).size:=by rw [T.size];omega
 by_cases more:n > 1
 ·rw [if_pos more]
  refine wpS_bind (wpS_ltT hO T keys (i:=lo) (j:=lo+n - 1) (by omega) (by omega) ?_)
  cases c:κ.blt (KK κ (arrOf st) lo) (KK κ (arrOf st) (lo+n - 1)) with
  | true=>exact wpS_pure (q n st T an bn Gn)
  | false=>
   have alike:∀ k,lo≤k→k < lo+n→KK κ (arrOf st) k=KK κ (arrOf st) (lo+n - 1):=fun k a b=>
    KeyOrd.kle_antisymm (Gn k (lo+n - 1) a (by omega) (by omega)) (KeyOrd.kle_trans (show κ.kle _ _ from c) (Gn lo k (Nat.le_refl _) a b))
   have D0:Dsg κ (arrOf st) lo (lo+n):=fun i j a b d=>by rw [alike i a (by omega),alike j (by omega) d];exact KeyOrd.kle_refl _
   show wpS _ _ _ _ (reverseSlice' lo (lo+n) >>= _) _ _
   exact wpS_bind (wpS_reverse (wpS_partL hO keys room (by omega) (T.mir (Nat.le_refl _) (by omega)) ((D0.grow (by omega) (KeyOrd.kle_of_klt falls)).like (KK_mirror_equal z alike)) q))
 ·rw [if_neg more]
  have e:n=1:=by omega
  subst e
  exact wpS_partL hO keys room (by omega) T (Dsg.one.grow (by omega) (KeyOrd.kle_of_klt falls)) q
theorem wpS_binL {st:SortSt} {n ok:Nat} {Q:Bool→SortSt→Prop} (hO:κ.OneLt) (keys:KeysOf κ a₀) (room:lo+n≤a₀.size) (le:ok≤n) (T:TB a₀ P lo ar0 st) (G:Seg κ (arrOf st) lo (lo+ok))
  (q:∀ sn,TB a₀ P lo ar0 sn→Seg κ (arrOf sn) lo (lo+n)→Q true sn):wpS (model prog w) A E s (binarySort' lo n ok) Q st:=by
 rw [binarySort'_eq]
 refine wpS_bind (wpS_mono (wpS_forRange (I:=fun k c sn=>c=(none,())∧TB a₀ P lo ar0 sn∧Seg κ (arrOf sn) lo (lo+min k n)) (Q:=fun c sn=>c=(none,())∧TB a₀ P lo ar0 sn∧Seg κ (arrOf sn) lo (lo+n)) (fun k c sn ak bk J=>?_) (fun c sn J=>?_) ⟨rfl,T,fun i j a b c=>?_⟩) fun c sn J=>?_)
 ·obtain ⟨rfl,Tn,Gn⟩:=J
  have e:min k n=k:=by omega
  rw [e] at Gn
  have z:lo+k < (arrOf sn).size:=by rw [Tn.size];omega
  refine wpS_bind (wpS_mono (wpS_forRange (I:=fun y d sm=>sm=sn∧∃ l r,d=(none,l,r)∧l≤r∧r≤k∧r - l+y≤k∧(∀ i,lo≤i→i < lo+l→κ.kle (KK κ (arrOf sn) i) (KK κ (arrOf sn) (lo+k)))∧∀ i,lo+r≤i→i < lo+k→κ.klt (KK κ (arrOf sn) (lo+k)) (KK κ (arrOf sn) i))
   (Q:=fun d sm=>sm=sn∧∃ l,d=(none,l,l)∧l≤k∧(∀ i,lo≤i→i < lo+l→κ.kle (KK κ (arrOf sn) i) (KK κ (arrOf sn) (lo+k)))∧∀ i,lo+l≤i→i < lo+k→κ.klt (KK κ (arrOf sn) (lo+k)) (KK κ (arrOf sn) i))
   (fun y d sm ay bY J=>?_) (fun d sm J=>?_) ⟨rfl,0,k,rfl,Nat.zero_le _,Nat.le_refl _,by omega,fun i a b=>by omega,fun i a b=>by omega⟩) fun d sm J=>?_)
  ·obtain ⟨rfl,l,r,rfl,lr,rk,fuel,below,above⟩:=J
   show wpS _ _ _ _ (if l ≥ r then _ else _) _ _
   by_cases meet:l ≥ r
   ·rw [if_pos meet]
    have e:l=r:=by omega
    subst e
    exact wpS_pure ⟨rfl,l,rfl,rk,below,above⟩
   rw [if_neg meet]
   refine wpS_bind (wpS_ltT hO Tn keys (i:=lo+k) (j:=lo+(l+r) / 2) (by omega) (by omega) ?_)
   cases c:κ.blt (KK κ (arrOf sm) (lo+k)) (KK κ (arrOf sm) (lo+(l+r) / 2)) with
   | true=>exact wpS_pure ⟨rfl,l,(l+r) / 2,rfl,by omega,by omega,by omega,below,fun i a b=>KeyOrd.klt_of_klt_of_kle (show κ.klt _ _ from c) (Gn _ i (by omega) a b)⟩
   | false=>exact wpS_pure ⟨rfl,(l+r) / 2+1,r,rfl,by omega,rk,by omega,fun i a b=>KeyOrd.kle_trans (Gn i _ a (by omega) (by omega)) (show κ.kle _ _ from c),above⟩
  ·obtain ⟨rfl,l,r,rfl,lr,rk,fuel,below,above⟩:=J
   have e:l=r:=by omega
   subst e
   exact ⟨rfl,l,rfl,rk,below,above⟩
  ·obtain ⟨rfl,l,rfl,lk,below,above⟩:=J
   show wpS _ _ _ _ (moveDown' (lo+k) (lo+l) >>= fun _=>pure (ForInStep.yield (none,()))) _ _
   rw [moveDown'_eq]
   have steps:lo+k - (lo+l)≤lo+k:=Nat.sub_le _ _
   have land:lo+k - (lo+k - (lo+l))=lo+l:=by omega
   refine wpS_bind (wpS_modify (wpS_pure ⟨rfl,Tn.setArr (bubble_perm _ _ _) (fun i a=>?_),fun i j a b c=>?_⟩))
   ·rw [getElem?_bubble z _ steps,if_neg (by omega),if_neg (by omega)]
   have e1:min (k+1) n=k+1:=by omega
   rw [e1] at c
   have at_:=fun p=>KK_bubble (κ:=κ) z steps p
   rw [land] at at_
   have ki:=at_ i
   have kj:=at_ j
   show κ.kle (KK κ (bubble (arrOf sm) (lo+k) (lo+k - (lo+l))) i) (KK κ (bubble (arrOf sm) (lo+k) (lo+k - (lo+l))) j)
   rw [ki,kj]
   rcases Nat.lt_trichotomy i (lo+l) with f | f | f
   ·rw [if_neg (Nat.ne_of_lt f),if_neg (by omega)]
    rcases Nat.lt_trichotomy j (lo+l) with g | g | g
    ·rw [if_neg (Nat.ne_of_lt g),if_neg (by omega)]
     exact Gn i j a b (by omega)
    ·rw [if_pos g]
     exact below i a f
    ·rw [if_neg (Nat.ne_of_gt g),if_pos ⟨g,by omega⟩]
     exact Gn i (j - 1) a (by omega) (by omega)
   ·rw [if_pos f]
    rcases Nat.lt_or_ge i j with g | g
    ·rw [if_neg (by omega),if_pos (by omega)]
     exact KeyOrd.kle_of_klt (above (j - 1) (by omega) (by omega))
    ·rw [if_pos (by omega)]
     exact KeyOrd.kle_refl _
   ·rw [if_neg (Nat.ne_of_gt f),if_pos ⟨f,by omega⟩,if_neg (by omega),if_pos (by omega)]
    exact Gn (i - 1) (j - 1) (by omega) (by omega) (by omega)
 ·obtain ⟨rfl,Tn,Gn⟩:=J
  have e:min (max (max ok 1) n) n=n:=by omega
  rw [e] at Gn
  exact ⟨rfl,Tn,Gn⟩
 ·rcases Nat.eq_zero_or_pos ok with e | e
  ·rw [show i=j by omega];exact KeyOrd.kle_refl _
  ·exact G i j a b (by omega)
 ·obtain ⟨rfl,Tn,Gn⟩:=J
  exact wpS_pure (q sn Tn Gn)
end
open PySem PyProof.Rows
section
variable {prog:Program} {w:World} {A:Around} {E:Value→Shared→Prop} {s:Shared} {a₀:Array Keyed} {κ:KeyKind}
def Chain (κ:KeyKind) (arr:Array Keyed):Nat→List (Nat×Nat×Nat)→Nat→Prop
 | lo,[],hi=>lo=hi
 | lo,p :: r,hi=>p.1=lo∧0 < p.2.1∧Seg κ arr lo (lo+p.2.1)∧Chain κ arr (lo+p.2.1) r hi
theorem chain_append {arr:Array Keyed}:∀ {p q:List (Nat×Nat×Nat)} {lo hi:Nat},Chain κ arr lo (p++q) hi↔∃ mid,Chain κ arr lo p mid∧Chain κ arr mid q hi
 | [],q,lo,hi=>by
  show Chain κ arr lo q hi↔∃ mid,lo=mid∧Chain κ arr mid q hi
  constructor
  ·intro h;exact ⟨lo,rfl,h⟩
  ·rintro ⟨_,rfl,h⟩;exact h
 | x :: p,q,lo,hi=>by
  have ih:=chain_append (arr:=arr) (p:=p) (q:=q) (lo:=lo+x.2.1) (hi:=hi)
  show (x.1=lo∧0 < x.2.1∧Seg κ arr lo (lo+x.2.1)∧Chain κ arr (lo+x.2.1) (p++q) hi)↔∃ mid,(x.1=lo∧0 < x.2.1∧Seg κ arr lo (lo+x.2.1)∧Chain κ arr (lo+x.2.1) p mid)∧Chain κ arr mid q hi
  rw [ih]
  constructor
  ·rintro ⟨h1,h2,h3,mid,h4,h5⟩;exact ⟨mid,⟨h1,h2,h3,h4⟩,h5⟩
  ·rintro ⟨mid,⟨h1,h2,h3,h4⟩,h5⟩;exact ⟨h1,h2,h3,mid,h4,h5⟩
theorem chain_le {arr:Array Keyed}:∀ {p:List (Nat×Nat×Nat)} {lo hi:Nat},Chain κ arr lo p hi→lo+p.length≤hi
 | [],lo,hi,h=>by have:lo=hi:=h;simp;omega
 | x :: p,lo,hi,h=>by
  obtain ⟨_,h2,_,h4⟩:=h
  have:=chain_le h4
  rw [List.length_cons]
  omega
theorem chain_congr {arr arr':Array Keyed}:∀ {p:List (Nat×Nat×Nat)} {lo hi:Nat},(∀ k,lo≤k→k < hi→arr'[k]?=arr[k]?)→Chain κ arr lo p hi→Chain κ arr' lo p hi
 | [],lo,hi,_,h=>h
 | x :: p,lo,hi,e,h=>by
  obtain ⟨h1,h2,h3,h4⟩:=h
  have hl:=chain_le h4
  refine ⟨h1,h2,fun i j g1 g2 g3=>?_,chain_congr (fun k g1 g2=>e k (by omega) g2) h4⟩
  rw [KK_congr (e i g1 (by omega)),KK_congr (e j (by omega) (by omega))]
  exact h3 i j g1 g2 g3
structure SInv (κ:KeyKind) (a₀:Array Keyed) (hi:Nat) (st:SortSt):Prop where
 perm:(arrOf st).Perm a₀
 kind:kindOf st=oneType'
 failed:failedOf st=none
 chain:Chain κ (arrOf st) 0 (pendingOf st).toList hi
theorem split2 {α:Type} {l:List α} {i:Nat} (h:i+1 < l.length):l=l.take i++l[i] :: l[i+1] :: l.drop (i+2):=by
 have e1:=List.take_append_drop i l
 rw [List.drop_eq_getElem_cons (by omega),List.drop_eq_getElem_cons h] at e1
 exact e1.symm
theorem merged_list {α:Type} {P:Array α} {i:Nat} {v:α} (h:i+1 < P.size):((P.setIfInBounds i v).eraseIdxIfInBounds (i+1)).toList=P.toList.take i++v :: P.toList.drop (i+2):=by
 have hl:i+1 < P.toList.length:=by simpa using h
 have e:=split2 hl
 have e1:((P.setIfInBounds i v).eraseIdxIfInBounds (i+1)).toList=(P.toList.set i v).eraseIdx (i+1):=by
  simp
 rw [e1]
 have lt:(P.toList.take i).length=i:=by rw [List.length_take];omega
 have e2:P.toList.set i v=P.toList.take i++v :: P.toList[i+1] :: P.toList.drop (i+2):=by
  conv=>lhs;rw [e]
  rw [List.set_append_right _ _ (by omega),lt,Nat.sub_self]
  rfl
 rw [e2,List.eraseIdx_append_of_length_le (by omega),lt]
 have:i+1 - i=1:=by omega
 rw [this]
 rfl
theorem wpS_step {st:SortSt} {Q:Bool→SortSt→Prop} {i hi:Nat} (hO:κ.OneLt) (h0:KeysOf κ a₀) (S:SInv κ a₀ hi st) (hz:hi≤a₀.size) (h1:i+1 < (pendingOf st).size)
  (h:∀ st',SInv κ a₀ hi st'→(pendingOf st').size+1=(pendingOf st).size→(∀ k,hi≤k→(arrOf st')[k]?=(arrOf st)[k]?)→Q true st'):wpS (model prog w) A E s (mergeAt' i) Q st:=by
 have hl:i+1 < (pendingOf st).toList.length:=by simpa using h1
 have C:=S.chain
 have eP:=split2 hl
 rw [eP] at C
 obtain ⟨mid,c1,c2⟩:=chain_append.mp C
 obtain ⟨s1,l1,g1,c2⟩:=c2
 obtain ⟨s2,l2,g2,c3⟩:=c2
 have sz:(arrOf st).size=a₀.size:=S.perm.size_eq
 have hc3:=chain_le c3
 have ht:(pendingOf st)[i]?=some (mid,(pendingOf st).toList[i].2.1,(pendingOf st).toList[i].2.2):=by
  rw [← Array.getElem?_toList,List.getElem?_eq_getElem (by omega),← s1]
 have ht2:(pendingOf st)[i+1]?=some (mid+(pendingOf st).toList[i].2.1,(pendingOf st).toList[i+1].2.1,(pendingOf st).toList[i+1].2.2):=by
  rw [← Array.getElem?_toList,List.getElem?_eq_getElem hl,← s2]
 refine wpS_mergeAt hO S.kind S.failed (fun j hj=>?_) ht ht2 l1 l2 (by omega) g1 g2 fun arr' g hp hs ho=>?_
 ·exact h0 _ ((Array.perm_iff_toList_perm.mp S.perm).mem_iff.mp (by simp))
 ·have el:=merged_list (v:=(mid,(pendingOf st).toList[i].2.1+(pendingOf st).toList[i+1].2.1,(pendingOf st).toList[i].2.2)) h1
  refine h _ ⟨hp.trans S.perm,S.kind,S.failed,?_⟩ ?_ fun k hk=>ho k (.inr (by omega))
  ·show Chain κ arr' 0 _ hi
   show Chain κ arr' 0 (((pendingOf st).setIfInBounds i (mid,(pendingOf st).toList[i].2.1+(pendingOf st).toList[i+1].2.1,(pendingOf st).toList[i].2.2)).eraseIdxIfInBounds (i+1)).toList hi
   rw [el]
   have hmid:=chain_le c1
   refine chain_append.mpr ⟨mid,chain_congr (fun k _ g2=>ho k (.inl g2)) c1,rfl,?_,?_,?_⟩
   ·show 0 < _+_
    omega
   ·rw [← Nat.add_assoc]
    exact hs
   ·rw [← Nat.add_assoc]
    exact chain_congr (fun k g1 _=>ho k (.inr g1)) c3
  ·show (((pendingOf st).setIfInBounds i (mid,(pendingOf st).toList[i].2.1+(pendingOf st).toList[i+1].2.1,(pendingOf st).toList[i].2.2)).eraseIdxIfInBounds (i+1)).size+1=_
   rw [← Array.length_toList,el,List.length_append,List.length_cons,List.length_take,List.length_drop,Array.length_toList]
   omega
theorem chain_map {arr:Array Keyed}:∀ {p q:List (Nat×Nat×Nat)} {lo hi:Nat},p.map (fun z=>(z.1,z.2.1))=q.map (fun z=>(z.1,z.2.1))→Chain κ arr lo p hi→Chain κ arr lo q hi
 | [],[],_,_,_,h=>h
 | [],_ :: _,_,_,e,_=>by simp at e
 | _ :: _,[],_,_,e,_=>by simp at e
 | x :: p,y :: q,lo,hi,e,h=>by
  rw [List.map_cons,List.map_cons] at e
  injection e with e1 e2
  have e3:x.1=y.1:=(Prod.mk.inj e1).1
  have e4:x.2.1=y.2.1:=(Prod.mk.inj e1).2
  obtain ⟨h1,h2,h3,h4⟩:=h
  rw [e4] at h2 h3 h4
  exact ⟨e3.symm.trans h1,h2,h3,chain_map e2 h4⟩
theorem modify_map {P:Array (Nat×Nat×Nat)} {i:Nat} {f:Nat×Nat×Nat→Nat×Nat×Nat} (hf:∀ z,(f z).1=z.1∧(f z).2.1=z.2.1):P.toList.map (fun z=>(z.1,z.2.1))=(P.modify i f).toList.map (fun z=>(z.1,z.2.1)):=by
 refine List.ext_getElem? fun k=>?_
 rw [List.getElem?_map,List.getElem?_map,Array.getElem?_toList,Array.getElem?_toList,Array.getElem?_modify]
 split
 ·cases P[k]? with
  | none=>rfl
  | some z=>
   obtain ⟨h1,h2⟩:=hf z
   show some (z.1,z.2.1)=some ((f z).1,(f z).2.1)
   rw [h1,h2]
 ·rfl
theorem SInv.push {st:SortSt} {lo n:Nat} (S:SInv κ a₀ lo st) (h:Seg κ (arrOf st) lo (lo+n)) (hn:0 < n):SInv κ a₀ (lo+n) (setPending st ((pendingOf st).push (lo,n,0))):=by
 refine ⟨S.perm,S.kind,S.failed,?_⟩
 show Chain κ (arrOf st) 0 ((pendingOf st).push (lo,n,0)).toList (lo+n)
 rw [Array.toList_push]
 exact chain_append.mpr ⟨lo,S.chain,rfl,hn,h,rfl⟩
theorem wpS_sortAll {st:SortSt} {Q:Unit→SortSt→Prop} (hO:κ.OneLt) (h0:KeysOf κ a₀) (S:SInv κ a₀ 0 st) (h1:1≤a₀.size)
  (q:∀ sn,(arrOf sn).Perm a₀→failedOf sn=none→SortedToK κ (arrOf sn) a₀.size→Q () sn):wpS (model prog w) A E s sortRuns' Q st:=by
 rw [sortRuns'_eq]
 refine wpS_bind (wpS_get ?_)
 dsimp only
 rw [S.perm.size_eq]
 generalize minRun' a₀.size a₀.size 0=mr
 refine wpS_bind (wpS_mono (wpS_forRange (I:=fun (x:Nat) (c:Option Unit×Nat) (st':SortSt)=>c.1=none∧x≤c.2∧c.2≤a₀.size∧SInv κ a₀ c.2 st')
  (Q:=fun (c:Option Unit×Nat) (st':SortSt)=>c.1=none∧SInv κ a₀ a₀.size st') ?step ?fin ⟨rfl,Nat.le_refl _,Nat.zero_le _,S⟩) ?post)
 case fin=>
  rintro ⟨c1,lo⟩ st' ⟨hc,g1,g2,S'⟩
  dsimp only at hc g1 g2 S'
  have:lo=a₀.size:=by omega
  subst this
  exact ⟨hc,S'⟩
 case step=>
  rintro x ⟨c1,lo⟩ st' _ hx ⟨hc,g1,g2,S'⟩
  dsimp only at hc g1 g2 S' ⊢
  subst hc
  by_cases hge:lo ≥ a₀.size
  ·rw [if_pos hge]
   have:lo=a₀.size:=by omega
   subst this
   exact wpS_pure ⟨rfl,S'⟩
  ·rw [if_neg hge]
   have T0:TB a₀ (pendingOf st') lo (arrOf st') st':=⟨S'.perm,S'.kind,S'.failed,rfl,fun _ _=>rfl⟩
   refine wpS_bind (wpS_countL hO h0 (by omega) (by omega) T0 fun m st2 T2 hm1 hm2 hs2=>?_)
   dsimp only
   have back:∀ {st2:SortSt},TB a₀ (pendingOf st') lo (arrOf st') st2→SInv κ a₀ lo st2:=fun {st2} T2=>by
    refine ⟨T2.perm,T2.kind,T2.failed,?_⟩
    rw [T2.pend]
    exact chain_congr (fun k _ g=>T2.low k g) S'.chain
   split
   ·refine wpS_bind (wpS_lift (wpAny_rule ⟨rfl,?_⟩))
    refine wpS_bind (wpS_binL hO h0 (n:=min (a₀.size - lo) mr) (by omega) (by omega) T2 hs2 fun st3 T3 hs3=>?_)
    simp only [Bool.not_true,Bool.false_eq_true,if_false]
    have hn1:0 < min (a₀.size - lo) mr:=by omega
    have hn2:lo+min (a₀.size - lo) mr≤a₀.size:=by omega
    generalize min (a₀.size - lo) mr=n at *
    have S3:=back T3
    have G3:=hs3
    refine wpS_bind (wpS_get ?_)
    cases hbk:(pendingOf st3).back? with
    | none=>
     dsimp only
     exact wpS_bind (wpS_modify (wpS_pure ⟨rfl,by show x+1≤lo+n;omega,hn2,S3.push G3 hn1⟩))
    | some z=>
     obtain ⟨s1,n1,p1⟩:=z
     dsimp only
     generalize power' a₀.size (2 * s1+n1) (2 * s1+n1+n1+n) a₀.size=pw
     refine wpS_bind (wpS_mono (wpS_forRange (I:=fun (_:Nat) (c:Option Unit×Unit) (st4:SortSt)=>c=(none,())∧SInv κ a₀ lo st4∧Seg κ (arrOf st4) lo (lo+n))
      (Q:=fun (c:Option Unit×Unit) (st4:SortSt)=>c=(none,())∧SInv κ a₀ lo st4∧Seg κ (arrOf st4) lo (lo+n)) ?step2 (fun _ _ hh=>hh) ⟨rfl,S3,G3⟩) ?post2)
     case step2=>
      rintro y c st4 _ hy ⟨rfl,S4,G4⟩
      refine wpS_bind (wpS_get ?_)
      by_cases h2:(pendingOf st4).size > 1
      ·rw [if_pos h2,getElem?_pos (pendingOf st4) ((pendingOf st4).size - 2) (by omega)]
       generalize (pendingOf st4)[(pendingOf st4).size - 2]=z
       obtain ⟨z1,z2,z3⟩:=z
       dsimp only
       split
       ·exact wpS_pure ⟨rfl,S4,G4⟩
       ·refine wpS_bind (wpS_step hO h0 S4 (by omega) (by omega) fun st5 S5 _ ho=>?_)
        simp only [Bool.not_true,Bool.false_eq_true,if_false]
        refine wpS_pure ⟨rfl,S5,fun i j q1 q2 q3=>?_⟩
        rw [KK_congr (ho i q1),KK_congr (ho j (by omega))]
        exact G4 i j q1 q2 q3
      ·rw [if_neg h2]
       exact wpS_pure ⟨rfl,S4,G4⟩
     case post2=>
      rintro c st4 ⟨rfl,S4,G4⟩
      dsimp only
      refine wpS_bind (wpS_modify (wpS_bind (wpS_modify (wpS_pure ⟨rfl,by show x+1≤lo+n;omega,hn2,?_⟩))))
      refine SInv.push (st:=setPending st4 ((pendingOf st4).modify ((pendingOf st4).size - 1) fun z=>(z.1,z.2.1,pw))) ⟨S4.perm,S4.kind,S4.failed,?_⟩ G4 hn1
      exact chain_map (modify_map fun z=>⟨rfl,rfl⟩) S4.chain
   ·have hn1:0 < m:=by omega
    have hn2:lo+m≤a₀.size:=by omega
    have S3:=back T2
    have G3:=hs2
    refine wpS_bind (wpS_get ?_)
    cases hbk:(pendingOf st2).back? with
    | none=>
     dsimp only
     exact wpS_bind (wpS_modify (wpS_pure ⟨rfl,by show x+1≤lo+m;omega,hn2,S3.push G3 hn1⟩))
    | some z=>
     obtain ⟨s1,n1,p1⟩:=z
     dsimp only
     generalize power' a₀.size (2 * s1+n1) (2 * s1+n1+n1+m) a₀.size=pw
     refine wpS_bind (wpS_mono (wpS_forRange (I:=fun (_:Nat) (c:Option Unit×Unit) (st4:SortSt)=>c=(none,())∧SInv κ a₀ lo st4∧Seg κ (arrOf st4) lo (lo+m))
      (Q:=fun (c:Option Unit×Unit) (st4:SortSt)=>c=(none,())∧SInv κ a₀ lo st4∧Seg κ (arrOf st4) lo (lo+m)) ?step3 (fun _ _ hh=>hh) ⟨rfl,S3,G3⟩) ?post3)
     case step3=>
      rintro y c st4 _ hy ⟨rfl,S4,G4⟩
      refine wpS_bind (wpS_get ?_)
      by_cases h2:(pendingOf st4).size > 1
      ·rw [if_pos h2,getElem?_pos (pendingOf st4) ((pendingOf st4).size - 2) (by omega)]
       generalize (pendingOf st4)[(pendingOf st4).size - 2]=z
       obtain ⟨z1,z2,z3⟩:=z
       dsimp only
       split
       ·exact wpS_pure ⟨rfl,S4,G4⟩
       ·refine wpS_bind (wpS_step hO h0 S4 (by omega) (by omega) fun st5 S5 _ ho=>?_)
        simp only [Bool.not_true,Bool.false_eq_true,if_false]
        refine wpS_pure ⟨rfl,S5,fun i j q1 q2 q3=>?_⟩
        rw [KK_congr (ho i q1),KK_congr (ho j (by omega))]
        exact G4 i j q1 q2 q3
      ·rw [if_neg h2]
       exact wpS_pure ⟨rfl,S4,G4⟩
     case post3=>
      rintro c st4 ⟨rfl,S4,G4⟩
      dsimp only
      refine wpS_bind (wpS_modify (wpS_bind (wpS_modify (wpS_pure ⟨rfl,by show x+1≤lo+m;omega,hn2,?_⟩))))
      refine SInv.push (st:=setPending st4 ((pendingOf st4).modify ((pendingOf st4).size - 1) fun z=>(z.1,z.2.1,pw))) ⟨S4.perm,S4.kind,S4.failed,?_⟩ G4 hn1
      exact chain_map (modify_map fun z=>⟨rfl,rfl⟩) S4.chain
 case post=>
  rintro ⟨c1,lo⟩ st' ⟨hc,S'⟩
  dsimp only at hc ⊢
  subst hc
  dsimp only
  have hp:=chain_le S'.chain
  rw [Array.length_toList] at hp
  refine wpS_bind (wpS_mono (wpS_forRange (I:=fun (x:Nat) (c:Option Unit×Unit) (st4:SortSt)=>c=(none,())∧SInv κ a₀ a₀.size st4∧(pendingOf st4).size+x≤a₀.size)
   (Q:=fun (c:Option Unit×Unit) (st4:SortSt)=>c=(none,())∧SInv κ a₀ a₀.size st4∧(pendingOf st4).size≤1) ?step4 ?fin4 ⟨rfl,S',by omega⟩) ?post4)
  case fin4=>
   rintro c st4 ⟨rfl,S4,hz⟩
   exact ⟨rfl,S4,by omega⟩
  case step4=>
   rintro x c st4 _ hx ⟨rfl,S4,hz⟩
   refine wpS_bind (wpS_get ?_)
   by_cases h2:(pendingOf st4).size≤1
   ·rw [if_pos h2]
    exact wpS_pure ⟨rfl,S4,h2⟩
   ·rw [if_neg h2]
    have hix:∀ c:Prop,[Decidable c]→(if c then (pendingOf st4).size - 2 - 1 else (pendingOf st4).size - 2)+1 < (pendingOf st4).size:=fun c _=>by split <;> omega
    refine wpS_bind (wpS_step hO h0 S4 (Nat.le_refl _) (hix _) fun st5 S5 hs5 _=>?_)
    simp only [Bool.not_true,Bool.false_eq_true,if_false]
    exact wpS_pure ⟨rfl,S5,by omega⟩
  case post4=>
   rintro c st4 ⟨rfl,S4,hz⟩
   dsimp only
   refine wpS_pure (q st4 S4.perm S4.failed ?_)
   have C:=S4.chain
   have hl:(pendingOf st4).toList.length≤1:=by rw [Array.length_toList];exact hz
   generalize (pendingOf st4).toList=L at *
   match L,C,hl with
   | [],C,_=>
    have:(0:Nat)=a₀.size:=C
    omega
   | [p],C,_=>
    obtain ⟨_,_,g3,g4⟩:=C
    have g4:0+p.2.1=a₀.size:=g4
    rw [g4] at g3
    exact fun i j hij hj=>g3 i j (Nat.zero_le _) hij hj
end
end Tim
namespace L2
open PySem PySem.Spec PyProof.Rows PySem.W
section
variable {N:Nat} {f:Nat→Int} {p:Array Nat} {s:Shared}
end
open PySem PySem.Spec PyProof.Rows PySem.W
def PairAt (h:Heap) (v:Value) (q:Int×Int):Prop:=∃ (c:Addr) (o:Obj) (t u:Tok) (k:Nat),v=.ref c∧h.get? c=some o∧o.cls=.type "tuple"∧o.data=.seq #[.int q.1 t,.int q.2 u] k
theorem PairAt.kept {h h':Heap} {v:Value} {q:Int×Int} (x:PairAt h v q) (k:∀ b o,h.get? b=some o→o.cls=.type "tuple"→h'.get? b=some o):PairAt h' v q:=by
 obtain ⟨c,o,t,u,n,e1,e2,e3,e4⟩:=x
 exact ⟨c,o,t,u,n,e1,k c o e2 e3,e3,e4⟩
section
variable {prog:Program} {w:World} {A:Around} {E:Value→Shared→Prop} {s:Shared}
theorem ask_pairs {vs:List Value} {ps:List (Int×Int)} (hl:vs.length=ps.length) (hv:∀ i (h:i < ps.length),PairAt s.heap (vs.getD i Value.none) ps[i]) (nd:(ps.map (·.1)).Nodup) {i j:Nat} {C:Bool→Shared→Prop} (hi:i < ps.length) (hj:j < ps.length)
  (h:C (decide ((ps.getD i (0,0)).1 < (ps.getD j (0,0)).1)) s):kas_ask prog w A (tuples' true) vs i j C s:=by
 unfold kas_ask
 obtain ⟨c,o,t,u,n,e1,e2,e3,e4⟩:=hv i hi
 obtain ⟨c',o',t',u',n',f1,f2,f3,f4⟩:=hv j hj
 rw [e1,f1]
 have gi:ps.getD i (0,0)=ps[i]:=by simp [hi]
 have gj:ps.getD j (0,0)=ps[j]:=by simp [hj]
 rw [gi,gj] at h
 refine kat_lt e2 e4 f2 f4 ?_
 refine kat_cons (wpAny_eqBool_int ?_)
 by_cases hij:i=j
 ·subst hij
  rw [beq_self_eq_true]
  refine kat_yes (kat_cons (wpAny_eqBool_int ?_))
  rw [beq_self_eq_true]
  refine kat_yes (kat_nil ?_)
  rw [decide_eq_false (Int.lt_irrefl _)] at h
  exact h
 ·have ne:ps[i].1≠ps[j].1:=by
   have pw:=List.pairwise_iff_getElem.mp nd
   rcases Nat.lt_or_ge i j with z | z
   ·have:=pw i j (by simpa using hi) (by simpa using hj) z
    simpa using this
   ·have:=pw j i (by simpa using hj) (by simpa using hi) (by omega)
    intro e
    exact this (by simpa using e.symm)
  rw [beq_eq_false_iff_ne.mpr ne]
  exact kat_no (oneLt_int h)
theorem pairs_tups {h:Heap}:∀ {vs:List Value} {ps:List (Int×Int)},vs.length=ps.length→(∀ i (hi:i < ps.length),PairAt h (vs.getD i Value.none) ps[i])→∃ fs,KatTups h vs fs∧fs.length=ps.length∧∀ v∈fs,∃ x t,v=Value.int x t
 | [],[],_,_=>⟨[],KatTups.nil,rfl,fun v h=>absurd h (by simp)⟩
 | v :: vs,q :: ps,hl,hv=>by
  obtain ⟨fs,h1,h2,h3⟩:=pairs_tups (vs:=vs) (ps:=ps) (by simpa using hl) fun i hi=>by
   have:=hv (i+1) (by simpa using hi)
   simpa using this
  obtain ⟨c,o,t,u,n,e1,e2,e3,e4⟩:=hv 0 (by simp)
  have e1':v=.ref c:=by simpa using e1
  subst e1'
  refine ⟨.int q.1 t :: fs,KatTups.cons e2 e3 e4 (by simp) h1,by simp [h2],fun v hv=>?_⟩
  rcases List.mem_cons.mp hv with rfl | hv
  ·exact ⟨_,_,rfl⟩
  ·exact h3 v hv
 | [],_ :: _,hl,_=>by simp at hl
 | _ :: _,[],hl,_=>by simp at hl
end
def PairsL (K:PySem.W.Frag) (H:Hp) (qs:List V) (ps:List (Int×Int)):Prop:=qs.length=ps.length∧∀ i (h:i < ps.length),∃ c,qs[i]?=some (.ref c)∧SqT K H c [.int ps[i].1,.int ps[i].2]
theorem PairsL.mono {K:PySem.W.Frag} {H H':Hp} {qs:List V} {ps:List (Int×Int)} (e:Same H H') (h:PairsL K H qs ps):PairsL K H' qs ps:=⟨h.1,fun i hi=>by
 obtain ⟨c,e1,e2⟩:=h.2 i hi
 exact ⟨c,e1,e.sqT e2⟩⟩
end L2
namespace PySem
open Sem (wp)
namespace F
end F
section
variable {prog:Program} {w:World} {A:Around} {E:Value→Shared→Prop} {h:Heap} {g:Array GenState} {d:Drawn} {t:Nat} {os:OsState} {a:Addr} {its:Array Value} {n:Nat} {sl:Array (Option Value)}
end
end PySem
namespace L2
open PySem PySem.Spec PyProof.Rows PySem.W
section
variable {prog:Program} {w:World} {A:Around} {E:Value→Shared→Prop} {R:Result→Shared→Prop}
end
open PySem PySem.Spec PyProof.Rows PySem.W
def pD (q:Int×Int):D:=.tup [.int q.1,.int q.2]
theorem ints_map:∀ (vs:List Value),(∀ v∈vs,∃ x t,v=.int x t)→∃ ns,IntsAre vs ns
 | [],_=>⟨[],.nil⟩
 | v :: vs,h=>by
  obtain ⟨x,t,rfl⟩:=h v List.mem_cons_self
  obtain ⟨ns,hn⟩:=ints_map vs fun u hu=>h u (List.mem_cons_of_mem _ hu)
  exact ⟨x :: ns,.cons x t hn⟩
open PySem PySem.Spec PyProof.Rows PySem.W
abbrev Up (xs:Array Nat):Prop:=xs.toList.Pairwise (· < ·)
structure TabOk (led:Bool) (t:SetTable):Prop where
 led_:t.led=led
 none_:t.dummies=#[]
 up:Up t.place
theorem up_lt {xs:Array Nat} (h:Up xs) {i j:Nat} (hij:i < j) (hj:j < xs.size):xs.getD i 0 < xs.getD j 0:=by
 have hi:i < xs.size:=by omega
 have:=List.pairwise_iff_getElem.mp h i j (by simpa using hi) (by simpa using hj) hij
 simpa [Array.getD,hi,hj] using this
theorem below_go {xs:Array Nat} (h:Up xs) (j:Nat):∀ (f lo hi:Nat),lo≤hi→hi≤xs.size→hi≤lo+f→(∀ i,i < lo→xs.getD i 0 < j)→(∀ i,hi≤i→i < xs.size→j≤xs.getD i 0)→
  (SetTable.below.go xs j f lo hi)≤xs.size∧(∀ i,i < SetTable.below.go xs j f lo hi→xs.getD i 0 < j)∧∀ i,SetTable.below.go xs j f lo hi≤i→i < xs.size→j≤xs.getD i 0
 | 0,lo,hi,h1,h2,h3,a,b=>by
  unfold SetTable.below.go
  exact ⟨by omega,a,fun i hi'=>b i (by omega)⟩
 | f+1,lo,hi,h1,h2,h3,a,b=>by
  unfold SetTable.below.go
  by_cases e:lo < hi
  ·rw [if_pos e]
   dsimp only
   have hm:(lo+hi) / 2 < xs.size:=by omega
   have eg:xs.getD ((lo+hi) / 2) j=xs.getD ((lo+hi) / 2) 0:=by simp [Array.getD,hm]
   rw [eg]
   by_cases c:xs.getD ((lo+hi) / 2) 0 < j
   ·rw [if_pos c]
    refine below_go h j f ((lo+hi) / 2+1) hi (by omega) h2 (by omega) (fun i hi'=>?_) b
    rcases Nat.lt_or_ge i ((lo+hi) / 2) with z | z
    ·exact Nat.lt_trans (up_lt h z hm) c
    ·have:i=(lo+hi) / 2:=by omega
     subst this
     exact c
   ·rw [if_neg c]
    refine below_go h j f lo ((lo+hi) / 2) (by omega) (by omega) (by omega) a fun i hi' hs=>?_
    rcases Nat.lt_or_ge ((lo+hi) / 2) i with z | z
    ·exact Nat.le_trans (Nat.le_of_not_lt c) (Nat.le_of_lt (up_lt h z hs))
    ·have:i=(lo+hi) / 2:=by omega
     subst this
     exact Nat.le_of_not_lt c
  ·rw [if_neg e]
   exact ⟨by omega,a,fun i hi'=>b i (by omega)⟩
theorem below_ok {xs:Array Nat} (h:Up xs) (j:Nat):SetTable.below xs j≤xs.size∧(∀ i,i < SetTable.below xs j→xs.getD i 0 < j)∧∀ i,SetTable.below xs j≤i→i < xs.size→j≤xs.getD i 0:=
 below_go h j xs.size 0 xs.size (Nat.zero_le _) (Nat.le_refl _) (by omega) (fun i h=>by omega) fun i h1 h2=>by omega
theorem getD_lt {xs:Array Nat} {i:Nat} (h:i < xs.size):xs[i]?=some (xs.getD i 0):=by simp [Array.getD,h]
theorem insert_up {xs:Array Nat} (h:Up xs) {j:Nat} (hj:xs[SetTable.below xs j]?≠some j):Up (SetTable.insertAt xs (SetTable.below xs j) j):=by
 obtain ⟨b1,b2,b3⟩:=below_ok h j
 unfold Up
 rw [SetTable.toList_insertAt]
 have hd:∀ x∈xs.toList.drop (SetTable.below xs j),j < x:=fun x hx=>by
  obtain ⟨i,hi,rfl⟩:=List.mem_iff_getElem.mp hx
  rw [List.length_drop] at hi
  rw [List.getElem_drop]
  have hs:SetTable.below xs j+i < xs.size:=by simpa using (by omega:SetTable.below xs j+i < xs.toList.length)
  have e:xs.toList[SetTable.below xs j+i]'(by simpa using hs)=xs.getD (SetTable.below xs j+i) 0:=by simp [Array.getD,hs]
  rw [e]
  have ge:=b3 (SetTable.below xs j+i) (by omega) hs
  rcases Nat.lt_or_ge j (xs.getD (SetTable.below xs j+i) 0) with z | z
  ·exact z
  ·have eq:xs.getD (SetTable.below xs j+i) 0=j:=by omega
   rcases Nat.eq_zero_or_pos i with rfl | hp
   ·exact absurd (by rw [Nat.add_zero] at eq hs;rw [getD_lt hs,eq]) hj
   ·have:=up_lt h (i:=SetTable.below xs j) (j:=SetTable.below xs j+i) (by omega) hs
    have:=b3 (SetTable.below xs j) (Nat.le_refl _) (by omega)
    omega
 have ht:∀ x∈xs.toList.take (SetTable.below xs j),x < j:=fun x hx=>by
  obtain ⟨i,hi,rfl⟩:=List.mem_iff_getElem.mp hx
  rw [List.length_take] at hi
  rw [List.getElem_take]
  have hs:i < xs.size:=by simpa using (by omega:i < xs.toList.length)
  have e:xs.toList[i]'(by simpa using hs)=xs.getD i 0:=by simp [Array.getD,hs]
  rw [e]
  exact b2 i (by omega)
 refine List.pairwise_append.mpr ⟨h.sublist (List.take_sublist _ _),List.pairwise_cons.mpr ⟨hd,h.sublist (List.drop_sublist _ _)⟩,fun x hx y hy=>?_⟩
 rcases List.mem_cons.mp hy with rfl | hy
 ·exact ht x hx
 ·exact Nat.lt_trans (ht x hx) (hd y hy)
theorem probe_go {led:Bool} {t:SetTable} (h:TabOk led t) {hashAt:Nat→Int} {hh:Int} (hne:∀ i,(hashAt i == hh)=false):∀ (f:Nat) (p:SetTable.Probe) (m:SetTable.Met),p.dummy=none→SetTable.probe.go t hashAt hh f p=some m→∃ j,m=.empty j none∧t.slot j=.empty
 | 0,p,m,_,e=>by
  unfold SetTable.probe.go at e
  cases e
 | f+1,p,m,hd,e=>by
  unfold SetTable.probe.go at e
  cases hs:t.slot p.j with
  | empty=>
   rw [hs] at e
   cases e
   exact ⟨p.j,by rw [hd],hs⟩
  | dummy=>
   exfalso
   unfold SetTable.slot at hs
   dsimp only at hs
   rw [h.none_] at hs
   split at hs
   ·cases hs
   ·simp [SetTable.has] at hs
  | live i=>
   rw [hs] at e
   dsimp only at e
   rw [hne i] at e
   rw [if_neg Bool.false_ne_true] at e
   refine probe_go h hne f _ m ?_ e
   unfold SetTable.advance
   split
   ·exact hd
   ·exact hd
theorem free_ok {led:Bool} {t:SetTable} (h:TabOk led t) {hh:Int} {j:Nat} {d:Bool} (e:t.freeSlot hh=some (j,d)):t.place[SetTable.below t.place j]?≠some j:=by
 unfold SetTable.freeSlot at e
 cases hp:t.probe (fun _=>hh+1) hh (t.probeStart hh) with
 | none=>rw [hp] at e;cases e
 | some m=>
  obtain ⟨j',rfl,hs⟩:=probe_go h (fun _=>beq_eq_false_iff_ne.mpr (by omega)) _ _ m rfl (show SetTable.probe.go t (fun _=>hh+1) hh _ _=some m from hp)
  rw [hp] at e
  cases e
  unfold SetTable.slot at hs
  dsimp only at hs
  intro z
  split at hs
  ·cases hs
  ·next c=>
   refine c ?_
   have z':t.place[SetTable.below t.place j']?=some j':=z
   rw [z']
   simp
theorem up_range (n:Nat):Up (Array.range n):=by
 unfold Up
 rw [Array.toList_range]
 exact List.pairwise_lt_range
theorem stand_ok {led:Bool} {t:SetTable} (h:t.led=led) (n:Nat):TabOk led (t.standIn n):=⟨h,rfl,up_range n⟩
theorem put_ok {led:Bool} {t:SetTable} (h:TabOk led t) {j:Nat} (hj:t.place[SetTable.below t.place j]?≠some j):TabOk led (t.put j).1:=by
 refine ⟨h.led_,?_,insert_up h.up hj⟩
 unfold SetTable.put
 dsimp only
 rw [h.none_]
 split
 ·simp [SetTable.eraseAt]
 ·rfl
theorem layNew_ok {led:Bool} {t:SetTable} (h:TabOk led t) (es:Array (Int×Value)) (hh:Int) (x:Value):TabOk led (layNew t es hh x).2.1:=by
 unfold layNew
 split
 ·next slot d e=>
  dsimp only
  unfold SetTable.orStandIn
  split
  ·exact put_ok h (free_ok h e)
  ·exact stand_ok (put_ok h (free_ok h e)).led_ _
 ·exact stand_ok h.led_ _
theorem laid_ok {mask finger moves:Nat} {led plain:Bool} {hashes:Array Int} {t:SetTable} {o:Array Nat} (h:SetTable.laid mask finger moves led plain hashes=some (t,o)):TabOk led t:=by
 unfold SetTable.laid at h
 cases hl:SetTable.layClean mask hashes with
 | none=>rw [hl] at h;cases h
 | some owner=>
  rw [hl] at h
  cases h
  refine ⟨rfl,rfl,?_⟩
  unfold Up
  dsimp only
  have key:∀ l:List Nat,(l.filterMap fun j=>(owner.getD j none).map (fun k=>(j,k))).map (·.1)=l.filter fun j=>(owner.getD j none).isSome:=by
   intro l
   induction l with
   | nil=>rfl
   | cons a l ih=>
    rw [List.filterMap_cons,List.filter_cons]
    cases owner.getD a none with
    | none=>simpa using ih
    | some k=>
     show a :: List.map _ _=_
     rw [ih]
     rfl
  show List.Pairwise _ (List.map _ _)
  rw [key]
  exact List.pairwise_lt_range.sublist List.filter_sublist
theorem relay_ok {led:Bool} {t:SetTable} (h:TabOk led t) (es:Array (Int×Value)) (n:Nat):TabOk led (relayAll t es n).2.1:=by
 unfold relayAll
 split
 ·next t' o e=>
  dsimp only
  split
  ·have:=laid_ok (show SetTable.laid _ _ _ _ _ _=some (t',o) from e)
   rw [h.led_] at this
   exact this
  ·exact stand_ok h.led_ _
 ·exact stand_ok h.led_ _
theorem plain_off {led:Bool} {t:SetTable} (h:TabOk led t):TabOk led { t with plain:=false }:=⟨h.led_,h.none_,h.up⟩
open PySem PySem.Spec PyProof.Rows PySem.W
def SetAt (prog:Program) (w:World) (h:Heap) (a:Addr) (led:Bool) (σ:List Int):Prop:=∃ (es:Array (Int×Value)) (ep:Nat) (t:SetTable),
 h.get? a=some { cls:=.type "set",dict:=none,data:=.set es ep t }∧ElemsOf (intKind prog w) es.toList∧(∃ l:List Int,IntsAre (es.toList.map (·.2)) l∧l.Perm σ)∧es.size < scanBound∧t.fits es.size=true∧TabOk led t
theorem SetAt.kept {prog:Program} {w:World} {h h':Heap} {a:Addr} {led:Bool} {σ:List Int} (x:SetAt prog w h a led σ) (k:∀ o,h.get? a=some o→h'.get? a=some o):SetAt prog w h' a led σ:=by
 obtain ⟨es,ep,t,e,r⟩:=x
 exact ⟨es,ep,t,k _ e,r⟩
theorem ints_mem {vs:List Value} {l:List Int} (h:IntsAre vs l) {v:Int}:v∈l↔∃ t,Value.int v t∈vs:=by
 induction h with
 | nil=>simp
 | cons n t h ih=>
  constructor
  ·intro hv
   rcases List.mem_cons.mp hv with rfl | hv
   ·exact ⟨t,List.mem_cons_self⟩
   ·obtain ⟨t',ht⟩:=ih.mp hv
    exact ⟨t',List.mem_cons_of_mem _ ht⟩
  ·rintro ⟨t',ht⟩
   rcases List.mem_cons.mp ht with e | ht
   ·cases e
    exact List.mem_cons_self
   ·exact List.mem_cons_of_mem _ (ih.mpr ⟨t',ht⟩)
theorem ints_snoc:∀ {vs:List Value} {l:List Int} {v:Int} {t:Tok},IntsAre vs l→IntsAre (vs++[.int v t]) (l++[v])
 | _,_,v,t,.nil=>.cons v t .nil
 | _,_,v,t,.cons n t' h=>.cons n t' (ints_snoc h)
theorem ints_perm {vs vs':List Value} {l:List Int} (h:IntsAre vs l) (p:vs'.Perm vs):∃ l',IntsAre vs' l'∧l'.Perm l:=by
 obtain ⟨l',h'⟩:=ints_map vs' fun v hv=>by
  have:=p.mem_iff.mp hv
  obtain ⟨x,t,e⟩:=h.all v this
  exact ⟨x,t,e⟩
 refine ⟨l',h',?_⟩
 have e1:=h.nums
 have e2:=h'.nums
 rw [← e1,← e2]
 exact p.map _
section
variable {prog:Program} {w:World} {A:Around} {E:Value→Shared→Prop} {s:Shared}
theorem scan_mem {es:Array (Int×Value)} {l:List Int} (hI:IntsAre (es.toList.map (·.2)) l) {v:Int}:(∃ j,List.findIdx? (fun e=>(intKind prog w).is v e.2) es.toList=some j)↔v∈l:=by
 rw [ints_mem hI]
 constructor
 ·rintro ⟨j,hj⟩
  obtain ⟨hlt,h1,_⟩:=List.findIdx?_eq_some_iff_getElem.mp hj
  obtain ⟨x,t,e⟩:=hI.all es.toList[j].2 (List.mem_map.mpr ⟨_,List.getElem_mem hlt,rfl⟩)
  have:v=x:=by
   rw [e] at h1
   exact (intKind prog w).inj _ _ _ h1 (intKind_is _ _ _ _)
  subst this
  exact ⟨t,List.mem_map.mpr ⟨_,List.getElem_mem hlt,e⟩⟩
 ·rintro ⟨t,ht⟩
  obtain ⟨e,he,e2⟩:=List.mem_map.mp ht
  cases hf:List.findIdx? (fun e=>(intKind prog w).is v e.2) es.toList with
  | some j=>exact ⟨j,rfl⟩
  | none=>
   have:=List.findIdx?_eq_none_iff.mp hf e he
   rw [e2,intKind_is] at this
   cases this
theorem set_store {a:Addr} {led:Bool} {σ:List Int} {es es':Array (Int×Value)} {ep:Nat} {t t':SetTable} {h:Heap} (ho:h.get? a=some { cls:=.type "set",dict:=none,data:=.set es ep t })
  (hel:ElemsOf (intKind prog w) es'.toList) (hl:∃ l:List Int,IntsAre (es'.toList.map (·.2)) l∧l.Perm σ) (hb:es'.size < scanBound) (hf:t'.fits es'.size=true) (ht:TabOk led t') :
  (h.update a (Obj.putSet es' t')).get? a=some { cls:=.type "set",dict:=none,data:=.set es' (ep+1) t' }∧SetAt prog w (h.update a (Obj.putSet es' t')) a led σ:=by
 have hg:(h.update a (Obj.putSet es' t')).get? a=some { cls:=.type "set",dict:=none,data:=.set es' (ep+1) t' }:=by
  have:=Heap.get?_update_self (Obj.putSet es' t') ho (by rw [putSet_of es' t' rfl];rfl)
  rw [putSet_of es' t' rfl] at this
  exact this
 exact ⟨hg,es',ep+1,t',hg,hel,hl,hb,hf,ht⟩
theorem set_add {a:Addr} {led:Bool} {σ:List Int} {v:Int} {tk:Tok} {Q:Bool→Shared→Prop} (hS:SetAt prog w s.heap a led σ) (hroom:σ.length+1 < scanBound)
  (h:∀ b h',Heap.SameBut a s.heap h'→SetAt prog w h' a led (if v∈σ then σ else σ++[v])→Q b { s with heap:=h' }):wpAny (model prog w) A (setAddHashed a (.int v tk) ((intKind prog w).hash v)) Q E s:=by
 obtain ⟨es,ep,t,ho,hel,⟨l,hI,hp⟩,hb,hf,ht⟩:=hS
 have hsz:es.size=σ.length:=by
  have h1:=hI.length
  have h2:=hp.length_eq
  rw [List.length_map,Array.length_toList] at h1
  omega
 unfold setAddHashed setAddHashedIn
 refine wpAny_holding (wpAny_bind (wpAny_setState_of ho rfl hf ?_))
 dsimp only
 rw [byScan_of (knd:=intKind prog w) rfl hb hel]
 simp only [↓reduceIte]
 unfold setAddByScan
 refine wpAny_bind (wpAny_bind (wpAny_rule (wpAny_bind (wpAny_setScan_of (knd:=intKind prog w) (intKind_is _ _ _ _) ho rfl hf hel ?_))))
 cases hr:List.findIdx? (fun e=>(intKind prog w).is v e.2) es.toList with
 | some j=>
  have hv:v∈σ:=hp.mem_iff.mp ((scan_mem hI).mp ⟨j,hr⟩)
  dsimp only
  refine wpAny_pure (wpAny_pure ?_)
  have:=h false s.heap (Heap.SameBut.refl a s.heap) (by rw [if_pos hv];exact ⟨es,ep,t,ho,hel,⟨l,hI,hp⟩,hb,hf,ht⟩)
  exact this
 | none=>
  have hv:¬ v∈σ:=fun z=>by
   obtain ⟨j,hj⟩:=(scan_mem (prog:=prog) (w:=w) hI).mpr (hp.mem_iff.mpr z)
   rw [hr] at hj
   cases hj
  rw [if_neg hv] at h
  dsimp only
  have gw:∀ (b:Bool) {s₁:Shared} {Q':Unit→Shared→Prop},Q' () s₁→wpAny (model prog w) A (match b with | true=>rule "set.scan.the-table-gave-way" | false=>pure ()) Q' E s₁:=fun b s₁ Q' hq=>by
   cases b
   ·exact wpAny_pure hq
   ·exact wpAny_rule hq
  have p1:=layNew_perm t es ((intKind prog w).hash v) (.int v tk)
  have f1:=layNew_fits t es ((intKind prog w).hash v) (.int v tk)
  have k1:=layNew_ok ht es ((intKind prog w).hash v) (.int v tk)
  generalize layNew t es ((intKind prog w).hash v) (.int v tk)=L at p1 f1 k1 ⊢
  obtain ⟨es1,t1,wd,gv⟩:=L
  dsimp only at p1 f1 k1 ⊢
  rw [Array.toList_push] at p1
  have hel1:ElemsOf (intKind prog w) es1.toList:=(hel.push (intKind_is _ _ _ _) rfl).perm p1
  have hI1:∃ l:List Int,IntsAre (es1.toList.map (·.2)) l∧l.Perm (σ++[v]):=by
   have pm:=p1.map (·.2)
   rw [List.map_append] at pm
   obtain ⟨l',i1,i2⟩:=ints_perm (ints_snoc (t:=tk) hI) pm
   exact ⟨l',i1,i2.trans (hp.append_right _)⟩
  have hs1:es1.size=es.size+1:=by
   have:=p1.length_eq
   rw [List.length_append,Array.length_toList,Array.length_toList] at this
   simpa using this
  have hb1:es1.size < scanBound:=by omega
  refine wpAny_bind (gw _ ?_)
  have fin:∀ t2:SetTable,t2.fits es1.size=true→TabOk led t2→wpAny (model prog w) A (do
    storeSet a es1 t2
    if (!wd && t2.tooFull)=true then do
      (match (relayAll t2 es1 (SetTable.grown es1.size)).2.2 with | true=>rule "set.scan.the-table-gave-way" | false=>pure ():Sem Unit)
      storeSet a (relayAll t2 es1 (SetTable.grown es1.size)).1 (relayAll t2 es1 (SetTable.grown es1.size)).2.1
      pure (some true)
     else pure (some true)) (fun a_1 s'=>wpAny (model prog w) A (match a_1 with | some added=>pure added | none=>setAddHashedIn a (.int v tk) ((intKind prog w).hash v) 99999) Q E s') E s:=by
   intro t2 f2 k2
   refine wpAny_bind (wpAny_storeSet_of ho rfl ?_ (fits_of_scanBound hb1))
   obtain ⟨ho1,hS1⟩:=set_store (prog:=prog) (w:=w) (σ:=σ++[v]) ho hel1 hI1 hb1 f2 k2
   have sb1:=Heap.SameBut.update s.heap a (Obj.putSet es1 t2)
   split
   ·have p2:=relayAll_perm t2 es1 (SetTable.grown es1.size)
    have f3:=relayAll_fits t2 es1 (SetTable.grown es1.size)
    have k3:=relay_ok k2 es1 (SetTable.grown es1.size)
    generalize relayAll t2 es1 (SetTable.grown es1.size)=L at p2 f3 k3 ⊢
    obtain ⟨es2,t3,gv2⟩:=L
    dsimp only at p2 f3 k3 ⊢
    have hs2:es2.size=es1.size:=by rw [← Array.length_toList,p2.length_eq,Array.length_toList]
    have hI2:∃ l:List Int,IntsAre (es2.toList.map (·.2)) l∧l.Perm (σ++[v]):=by
     obtain ⟨l1,i1,i2⟩:=hI1
     obtain ⟨l',j1,j2⟩:=ints_perm i1 (p2.map (·.2))
     exact ⟨l',j1,j2.trans i2⟩
    refine wpAny_bind (gw _ (wpAny_bind (wpAny_storeSet_of ho1 rfl ?_ (fits_of_scanBound (by omega)))))
    obtain ⟨_,hS2⟩:=set_store (prog:=prog) (w:=w) (σ:=σ++[v]) ho1 (hel1.perm p2) hI2 (by omega) f3 k3
    exact wpAny_pure (wpAny_pure (h true _ (sb1.trans (Heap.SameBut.update _ a _)) hS2))
   ·exact wpAny_pure (wpAny_pure (h true _ sb1 hS1))
  split
  ·refine wpAny_bind ?_
   rw [hashByValue_scannable 8 rfl]
   refine wpAny_pure ?_
   refine fin _ ?_ ?_
   ·split
    ·exact f1
    ·exact SetTable.fits_plain_off f1
   ·split
    ·exact k1
    ·exact plain_off k1
  ·refine wpAny_bind (wpAny_pure ?_)
   simp only [↓reduceIte]
   exact fin _ f1 k1
end
open PySem PySem.Spec PyProof.Rows PySem.W
abbrev ledOf (w:World):Bool:=!(w.params.followText "set-order")
def dedup (ns:List Int):List Int:=ns.foldl (fun σ v=>if v∈σ then σ else σ++[v]) []
theorem dedup_snoc (ns:List Int) (v:Int):dedup (ns++[v])=if v∈dedup ns then dedup ns else dedup ns++[v]:=by unfold dedup;rw [List.foldl_append];rfl
theorem dedup_ok (ns:List Int):(dedup ns).Nodup∧(dedup ns).length≤ns.length∧∀ x,x∈dedup ns↔x∈ns:=by
 have key:∀ (l:List Int),(dedup l.reverse).Nodup∧(dedup l.reverse).length≤l.reverse.length∧∀ x,x∈dedup l.reverse↔x∈l.reverse:=by
  intro l
  induction l with
  | nil=>exact ⟨List.nodup_nil,Nat.le_refl _,fun x=>Iff.rfl⟩
  | cons v l ih=>
   rw [List.reverse_cons,dedup_snoc]
   obtain ⟨h1,h2,h3⟩:=ih
   split
   ·next h=>
    refine ⟨h1,by rw [List.length_append];omega,fun x=>?_⟩
    rw [List.mem_append,h3]
    constructor
    ·exact .inl
    ·rintro (z | z)
     ·exact z
     ·rw [List.mem_singleton.mp z]
      exact (h3 v).mp h
   ·next h=>
    refine ⟨?_,by rw [List.length_append,List.length_append];simp;simpa using h2,fun x=>by rw [List.mem_append,List.mem_append,h3]⟩
    rw [List.nodup_append]
    refine ⟨h1,by simp,fun x hx y hy e=>?_⟩
    rw [List.mem_singleton] at hy
    subst hy e
    exact h hx
 have:=key ns.reverse
 rw [List.reverse_reverse] at this
 exact this
section
variable {prog:Program} {w:World} {A:Around} {E:Value→Shared→Prop} {R:Result→Shared→Prop}
theorem set_loop {S it l:Addr} {led:Bool} {its:List Value} {ns:List Int} (hh:A.handled=none) (hI:IntsAre its ns) (hSl:S≠l) (hSi:S≠it) (hli:l≠it) (hz:ns.length+1 < scanBound) :
  ∀ (k i:Nat) (s:Shared),i+k=ns.length→s.heap.IsListIter it l i→s.heap.IsList l its.toArray→SetAt prog w s.heap S led (dedup (ns.take i))→
   (∀ h' tk,(∀ b o,b≠S→b≠it→s.heap.get? b=some o→h'.get? b=some o)→SetAt prog w h' S led (dedup ns)→R (.ok (.ret .none)) { s with heap:=h',toks:=tk })→
   codeAny (model prog w) A (.builtin "set.update.loop" ⟨[.ref S,.ref it],[]⟩) R s:=by
 intro k
 induction k with
 | zero=>
  intro i s hk hit ht hS hR
  have hl:=hI.length
  refine codeAny_builtin F.entry_set_update_loop ?_
  rw [Around.under_plainId F.plain_set_update_loop _]
  show wpAny _ A.in1 (pyNext (.ref it) >>= _) _ _ s
  refine wpAny_bind (wpAny_pyNext_list_end (A:=A.in1) hh hit ht (by simp;omega) fun h1 he1=>?_)
  show wpAny _ A.in1 (ret Value.none) _ _ _
  refine wpAny_pure ?_
  rw [show ns.take i=ns from List.take_of_length_le (by omega)] at hS
  exact hR h1 s.toks (fun b o _ hb e=>he1 b o hb e) (hS.kept fun o e=>he1 S o hSi e)
 | succ k ih=>
  intro i s hk hit ht hS hR
  have hl:=hI.length
  have hlt:i < ns.length:=by omega
  have hgi:its.toArray[i]?=some its[i]:=by simp [hl,hlt]
  obtain ⟨t,et⟩:=IntsAre.int_at hI i its[i] (by simp [hl,hlt])
  have eg:ns.getD i 0=ns[i]:=by simp [hlt]
  rw [eg] at et
  refine codeAny_builtin F.entry_set_update_loop ?_
  rw [Around.under_plainId F.plain_set_update_loop _]
  show wpAny _ A.in1 (pyNext (.ref it) >>= _) _ _ s
  refine wpAny_bind (wpAny_pyNext_list_item hit ht hgi fun h1 hit1 hs1=>?_)
  have ht1:h1.IsList l its.toArray:=ht.extBut hs1.extBut hli
  have hS1:SetAt prog w h1 S led (dedup (ns.take i)):=hS.kept fun o e=>(hs1.2 S hSi).trans e
  rw [et]
  show wpAny _ A.in1 (holding [Value.int ns[i] t] (setAdd S (.int ns[i] t)) >>= _) _ _ _
  refine wpAny_bind (wpAny_holding ?_)
  unfold setAdd
  refine wpAny_holding ?_
  refine wpAny_bind ((intKind prog w).pyHash (k:=ns[i]) (intKind_is _ _ _ _) ?_)
  have hroom:(dedup (ns.take i)).length+1 < scanBound:=by
   have:=(dedup_ok (ns.take i)).2.1
   rw [List.length_take] at this
   omega
  refine set_add (s:={ s with heap:=h1,toks:=s.toks+1 }) hS1 hroom fun b h2 hs2 hS2=>?_
  have e2:dedup (ns.take (i+1))=if ns[i]∈dedup (ns.take i) then dedup (ns.take i) else dedup (ns.take i)++[ns[i]]:=by
   rw [List.take_succ,List.getElem?_eq_getElem hlt]
   exact dedup_snoc _ _
  rw [← e2] at hS2
  have hb2:∀ b o,b≠S→h1.get? b=some o→h2.get? b=some o:=fun b o hb e=>(hs2.2 b hb).trans e
  refine wpAny_pure ⟨plainId_quiet F.plain_set_update_loop _,ih (i+1) _ (by omega) ?_ ?_ hS2 fun h' tk hk' hS'=>hR h' tk (fun b o b1 b2 e=>hk' b o b1 b2 (hb2 b o b1 ((hs1.2 b b2).trans e))) hS'⟩
  ·obtain ⟨oi,z1,z2⟩:=hit1
   exact ⟨oi,hb2 it oi hSi.symm z1,z2⟩
  ·obtain ⟨oi,z1,z2⟩:=ht1
   exact ⟨oi,hb2 l oi hSl.symm z1,z2⟩
end
end L2
namespace PySem
section
variable {prog:Program} {w:World} {A:Around} {E:Value→Shared→Prop} {s:Shared}
theorem set_new_led (a:Value) {Q₁:Value→Shared→Prop}
  (h:Q₁ (.ref s.heap.objs.size) { s with heap:=s.heap.push { cls:=.type "set",dict:=none,data:=.set #[] 0 (.fresh 0 0 (L2.ledOf w)) } }) :
  codeAny (model prog w) A (.call (.builtin "set.__new__") ⟨[.type "set",a],[]⟩) (wants Q₁ E) s:=by
 refine codeAny_of_tree ?_
 show wpAny _ A.in1 (do checkBuiltinCall "set.__new__" ⟨[.type "set",a],[]⟩;again (.builtin "set.__new__" ⟨[.type "set",a],[]⟩)) _ _ s
 refine wpAny_bind (wpAny_of_eq (F.newCall_set_1 a) (wpAny_pure ⟨plainId_quiet F.plain_set_new _,codeAny_builtin F.entry_set_new ?_⟩))
 rw [Around.under_plainId F.plain_set_new _]
 unfold Builtin.«set.__new__» Builtin.Frozenset.newClass
 have hsub:=sub_set_self
 obtain ⟨hp,g,d,tk,os⟩:=s
 dsimp only
 wp_walk
 refine wpAny_askSetting (wpAny_pure ?_)
 dsimp only
 simp only [newObj]
 refine wpAny_bind (wpAny_alloc (wpAny_pure ?_))
 exact wpAny_pure h
set_option maxHeartbeats 3200000 in
theorem set_of_list {l:Addr} {its:List Value} {ns:List Int} {nl:Nat} {sl:Array (Option Value)} {dd:Option Addr} {Q:Value→Shared→Prop} (hh:A.handled=none) (hol:s.heap.get? l=some { cls:=.type "list",dict:=dd,data:=.seq its.toArray nl,slots:=sl }) (hi:PyProof.Rows.IntsAre its ns) (hb:ns.length+1 < scanBound)
  (h:∀ (h':Heap) (tk:Nat),L2.SetAt prog w h' s.heap.objs.size (L2.ledOf w) (L2.dedup ns)→(∀ b o,s.heap.get? b=some o→h'.get? b=some o)→Q (.ref s.heap.objs.size) { s with heap:=h',toks:=tk }) :
  wpAny (model prog w) A (call (.type "set") [.ref l]) Q E s:=by
 obtain ⟨c,tl,hmro⟩:=F.called_set.mro
 have hmade:=F.called_set.made
 have hsub:=F.called_set.sub
 refine wpAny_call (codeAny_of_tree ?_)
 show wpAny _ _ (callAny (.type "set") _) _ _ _
 refine wpAny_pure ⟨Code.quiet_builtin _ (by decide +kernel),codeAny_builtin F.entry_type_call ?_⟩
 rw [Around.under_plain (weight_type_call_type "set" [.ref l] []) rfl]
 have h1:=F.called_set.notType
 have h2:=F.called_set.canCreate
 have hct:=F.typeCall_set_1 (.ref l)
 repeat (any_goals (first | assumption | wp_step))
 refine codeAny_mono (set_new_led (.ref l) (E:=E) (Q₁:=fun obj s₁=>obj=.ref s.heap.objs.size∧s₁={ s with heap:=s.heap.push { cls:=.type "set",dict:=none,data:=.set #[] 0 (.fresh 0 0 (L2.ledOf w)) } }) ⟨rfl,rfl⟩) fun r s₁ hr=>?_
 cases r with
 | error e=>exact hr
 | ok fl=>
  cases fl with
  | ret obj=>
   obtain ⟨rfl,rfl⟩:=hr
   have hS:(s.heap.push { cls:=.type "set",dict:=none,data:=.set #[] 0 (.fresh 0 0 (L2.ledOf w)) }).get? s.heap.objs.size=some { cls:=.type "set",dict:=none,data:=.set #[] 0 (.fresh 0 0 (L2.ledOf w)) }:=Heap.get?_push_size _ rfl
   have hT:Shared.TypeIs { s with heap:=s.heap.push { cls:=.type "set",dict:=none,data:=.set #[] 0 (.fresh 0 0 (L2.ledOf w)) } } (.ref s.heap.objs.size) "set":=⟨_,hS,rfl⟩
   have hli:=F.called_set.init.lookup
   have hbi:=F.called_set.init.bind (.ref s.heap.objs.size)
   repeat (any_goals (first | assumption | wp_step))
   refine codeAny_mono (codeAny_call_builtin (R:=wants (fun r s₂=>r=.none∧∃ h' tk,s₂={ s with heap:=h',toks:=tk }∧L2.SetAt prog w h' s.heap.objs.size (L2.ledOf w) (L2.dedup ns)∧
     (∀ b o,s.heap.get? b=some o→h'.get? b=some o)) E) F.called_set.init.plain F.entry_set_init (check_set_init_1 hT ?_)) fun r₂ s₂ hr₂=>?_
   ·have hol':(s.heap.push { cls:=.type "set",dict:=none,data:=.set #[] 0 (.fresh 0 0 (L2.ledOf w)) }).get? l=some { cls:=.type "list",dict:=dd,data:=.seq its.toArray nl,slots:=sl }:=Heap.get?_push_of_some _ hol
    have hsls:=F.sub_list_set
    have hslf:=F.sub_list_frozenset
    have hne:(Value.type "list" == Value.type "dict")=false:=by decide
    have hl1:(s.heap.push { cls:=.type "set",dict:=none,data:=.set #[] 0 (.fresh 0 0 (L2.ledOf w)) }).IsList l its.toArray:=⟨_,hol',rfl,nl,rfl⟩
    unfold Builtin.«set.__init__» noKeywords Builtin.Frozenset.updateFrom
    generalize hPI:pyIter=PI
    wp_walk
    subst hPI
    refine wpAny_pyIter_list hl1 ?_
    refine wpAny_bind (wpAny_runValue ?_)
    have hlS:l < s.heap.objs.size:=Heap.lt_size hol
    have hh3:A.in1.in1.handled=none:=by simp [hh]
    have lt1:s.heap.objs.size < (s.heap.push { cls:=.type "set",dict:=none,data:=.set #[] 0 (.fresh 0 0 (L2.ledOf w)) }).objs.size:=Heap.lt_size hS
    refine L2.set_loop (its:=its) (ns:=ns) (led:=L2.ledOf w) hh3 hi (Nat.ne_of_gt hlS) (Nat.ne_of_lt lt1) (Nat.ne_of_lt (Nat.lt_trans hlS lt1)) hb ns.length 0 _ (by omega) ?_ ?_ ?_ ?_
    ·exact ⟨_,Heap.get?_push_size _ rfl,rfl,rfl⟩
    ·exact hl1.push _
    ·refine ⟨#[],0,.fresh 0 0 (L2.ledOf w),?_,fun e he=>by simp at he,⟨[],.nil,.nil⟩,by decide,rfl,⟨rfl,rfl,List.Pairwise.nil⟩⟩
     exact Heap.get?_push_of_some _ hS
    ·intro h' tk hk hS'
     show wpAny _ _ _ _ _ _
     refine wpAny_pure ?_
     show wpAny _ _ (ret Value.none) _ _ _
     refine wpAny_pure ⟨rfl,h',tk,rfl,hS',fun b o e=>?_⟩
     have hb0:=Heap.lt_size e
     exact hk b o (Nat.ne_of_lt hb0) (Nat.ne_of_lt (Nat.lt_trans hb0 lt1)) (Heap.get?_push_of_some _ (Heap.get?_push_of_some _ e))
   ·cases r₂ with
    | error e=>exact hr₂
    | ok fl₂=>
     cases fl₂ with
     | ret r=>
      obtain ⟨rfl,h',tk,rfl,hS',hk'⟩:=hr₂
      repeat (any_goals (first | assumption | wp_step))
      exact h _ _ hS' hk'
     | _=>exact hr₂.elim
  | _=>exact hr.elim
end
namespace F
theorem slot_seti_next:Slot "set_iterator" "__next__" "set_iterator.__next__":=
 .of (owner:="set_iterator") (n:="__next__") (by rw [typeLookup_type,builtinLookup_eq_fast];kernel_rfl) (by decide +kernel) (by decide +kernel) (by decide +kernel)
  (by first | exact .inl (by decide +kernel) | exact .inr (by decide +kernel)) (by rw [isSubtype_type];kernel_rfl)
theorem entry_seti_next:entryFor table "set_iterator.__next__" = some Builtin.«set_iterator.__next__»:=entryFor_of_tree (by kernel_rfl)
theorem args_seti_next (a:Value):argsOk "set_iterator.__next__" ⟨[a],[]⟩:=by unfold argsOk;kernel_rfl
theorem entry_set_iter':entryFor table "set.__iter__" = some Builtin.«frozenset.__iter__»:=entryFor_alias (id':="frozenset.__iter__") (by kernel_rfl) (by first | rfl | decide +kernel) (by decide +kernel) (by kernel_rfl)
end F
end PySem
namespace L2
open PySem PySem.Spec PyProof.Rows PySem.W
abbrev setObj (es:Array (Int×Value)) (ep:Nat) (t:SetTable):Obj:={ cls:=.type "set",dict:=none,data:=.set es ep t }
abbrev itObj (first:Value) (i:Nat) (a:Addr) (n ep:Nat):Obj:={ cls:=.type "set_iterator",data:=.fields #[first,.int i 0,.ref a,.int n 0,.int ep 0] }
def drawnB (es:Array (Int×Value)) (t:SetTable):Bool:=!t.plain && decide (es.size > 1)
section
variable {prog:Program} {w:World} {A:Around} {E:Value→Shared→Prop} {s:Shared}
theorem choose_any {src:Source} {n:Nat} {Q:Nat→Shared→Prop} (hn:n≠0) (h:∀ i d',i < n→Q i { s with drawn:=d' }):wpAny (model prog w) A (choose src n) Q E s:=by
 intro Γ p hΓ
 show Sem.wp _ _ (.choose src n .pure) _ _ _ _
 rw [Sem.wp_choose]
 exact ⟨hn,h _ _ (Nat.mod_lt _ (Nat.pos_of_ne_zero hn))⟩
theorem erase_perm {α:Type}:∀ {l:List α} {i:Nat} {x:α},l[i]?=some x→(x :: l.eraseIdx i).Perm l
 | [],i,x,e=>by simp at e
 | a :: l,0,x,e=>by
  simp at e
  subst e
  exact List.Perm.refl _
 | a :: l,i+1,x,e=>by
  simp at e
  have ih:=erase_perm (l:=l) (i:=i) (x:=x) e
  show (x :: a :: l.eraseIdx i).Perm (a :: l)
  exact (List.Perm.swap a x _).trans (ih.cons a)
theorem draw_order {α:Type}:∀ (n:Nat) (xs:List α) (s:Shared) (Q:List α→Shared→Prop),xs.length=n→(∀ ys d',ys.Perm xs→Q ys { s with drawn:=d' })→wpAny (model prog w) A (drawOrder n xs) Q E s
 | 0,xs,s,Q,hl,h=>by
  have:xs=[]:=List.length_eq_zero_iff.mp hl
  subst this
  unfold drawOrder
  exact wpAny_pure (h [] s.drawn (List.Perm.refl _))
 | n+1,[],s,Q,hl,h=>by simp at hl
 | n+1,x :: xs,s,Q,hl,h=>by
  unfold drawOrder
  refine wpAny_bind (choose_any (by simp) fun i d' hi=>?_)
  have hg:(x :: xs)[i]?=some (x :: xs)[i]:=List.getElem?_eq_getElem hi
  rw [hg]
  dsimp only
  refine wpAny_bind (draw_order n _ _ _ (by rw [List.length_eraseIdx,if_pos hi];omega) fun ys d2 hp=>?_)
  exact wpAny_pure (h _ d2 ((hp.cons _).trans (erase_perm hg)))
theorem pick_perm {α:Type} (next:Nat→Nat) (xs:Array α):(pickOrder next xs).toList.Perm xs.toList:=by
 have key:∀ (f k:Nat) (left:List α) (out:Array α),left.length=f→(pickOrder.go next f k left out).toList.Perm (out.toList++left):=by
  intro f
  induction f with
  | zero=>
   intro k left out h
   have:left=[]:=List.length_eq_zero_iff.mp h
   subst this
   unfold pickOrder.go
   rw [List.append_nil]
  | succ f ih=>
   intro k left out h
   unfold pickOrder.go
   have hm:next k % left.length < left.length:=Nat.mod_lt _ (by omega)
   have hg:left[next k % left.length]?=some (left[next k % left.length]'hm):=List.getElem?_eq_getElem hm
   rw [hg]
   dsimp only
   refine (ih (k+1) _ _ (by rw [List.length_eraseIdx,if_pos hm];omega)).trans ?_
   rw [Array.toList_push,List.append_assoc]
   exact (erase_perm hg).append_left _
 have:=key xs.size 0 xs.toList #[] (by simp)
 simpa [pickOrder] using this
theorem next_of {I a:Addr} {first:Value} {i:Nat} {es:Array (Int×Value)} {ep:Nat} {t:SetTable} {Q:Option Value→Shared→Prop} (hI:s.heap.get? I=some (itObj first i a es.size ep)) (ha:s.heap.get? a=some (setObj es ep t)) (hf:t.fits es.size=true)
  (h:wpAny (model prog w) A.in1 (if let .int slot _:=first then
   (do match ← setNext a slot.toNat i ep with
    | some (x,next)=>
     setField (.ref I) 0 (rawInt next)
     setField (.ref I) 1 (rawInt ((i:Int)+1))
     ret x
    | none=>setField (.ref I) 2 .none;raiseNew (← newExc (.type "StopIteration") []):Sem Fin)
   else (do
    let some places ← seqItems? first | unsupported "internal:set_iterator"
    match places[i]? with
    | some (.int place _)=>
     let x ← setNextDrawn a place.toNat ep
     setField (.ref I) 1 (rawInt ((i:Int)+1))
     ret x
    | some _=>unsupported "internal:set_iterator"
    | none=>setField (.ref I) 0 (rawInt 0);setField (.ref I) 2 .none;raiseNew (← newExc (.type "StopIteration") []):Sem Fin))
   (fun fin s'=>∃ v,fin=.done (.ret v)∧Q (some v) s') (fun e s'=>∃ c o,e=.ref c∧s'.heap.get? c=some o∧o.cls=.type "StopIteration"∧Q none s') s):wpAny (model prog w) A (pyNext (.ref I)) Q E s:=by
 have hT:s.TypeIs (.ref I) "set_iterator":=⟨_,hI,rfl⟩
 unfold pyNext
 refine wpAny_bind (wpAny_attempt (wpAny_callSpecial?_slot (name:=Str.ofString "__next__") hT F.slot_seti_next
  (wpAny_call_entry F.slot_seti_next hT F.entry_seti_next ?_ (F.args_seti_next _))))
 unfold Builtin.«set_iterator.__next__»
 refine wpAny_bind (wpAny_pure (wpAny_bind (wpAny_fieldsOf hI rfl ?_)))
 dsimp only
 refine wpAny_bind ?_
 unfold setEntries
 refine wpAny_bind (wpAny_setState_of ha rfl hf (wpAny_pure ?_))
 rw [if_neg (by simp)]
 simp only [Int.toNat_natCast]
 refine wpAny_mono h (fun fin s' x=>?_) fun e s' x=>?_
 ·obtain ⟨v,rfl,q⟩:=x
  exact ⟨v,rfl,wpAny_pure q⟩
 ·obtain ⟨c,o,rfl,e1,e2,q⟩:=x
  refine wpAny_bind (wpAny_isInstance (T:="StopIteration") ⟨o,e1,e2⟩ isSubtype_stop ?_)
  rw [if_pos rfl]
  exact wpAny_pure q
def ItSt (w:World) (h:Heap) (I a:Addr) (es:Array (Int×Value)) (ep:Nat) (t:SetTable) (vals:List Value) (i:Nat):Prop:=h.get? a=some (setObj es ep t)∧
 ((w.params.followText "set-order" = true∧h.get? I=some (itObj (.int 0 0) i a es.size ep)∧vals=(pickOrder (w.params.setOrder a ep) es).toList.map (·.2))∨
   (w.params.followText "set-order" = false∧∃ (T:Addr) (ps:List Nat),h.get? I=some (itObj (.ref T) i a es.size ep)∧h.get? T=some { cls:=.type "tuple",data:=.seq (ps.map fun (p:Nat)=>rawInt p).toArray }∧T≠I∧(∀ p∈ps,p < es.size)∧vals=ps.map fun p=>(es.getD p (0,.none)).2)∨
   (w.params.followText "set-order" = false∧drawnB es t=false∧∃ slot:Nat,h.get? I=some (itObj (.int slot 0) i a es.size ep)∧SetTable.below t.place slot=i∧vals=es.toList.map (·.2)))
theorem stop_it {I:Addr} {o:Obj} {vs:Array Value} {k:Nat} {x:Value} {Q:Option Value→Shared→Prop} (hh:A.handled=none) (hI:s.heap.get? I=some o) (hd:o.data=.fields vs) (hk:k < vs.size) (h:∀ h',(∀ b u,b≠I→s.heap.get? b=some u→h'.get? b=some u)→Q none { s with heap:=h' }) :
  wpAny (model prog w) A.in1 (do setField (.ref I) k x;raiseNew (← newExc (.type "StopIteration") []):Sem Fin) (fun fin s'=>∃ v,fin=.done (.ret v)∧Q (some v) s') (fun e s'=>∃ c o,e=.ref c∧s'.heap.get? c=some o∧o.cls=.type "StopIteration"∧Q none s') s:=by
 refine wpAny_bind (wpAny_setField hI hd hk ?_)
 refine wpAny_bind ?_
 simp only [newExc,newTuple]
 refine wpAny_bind (wpAny_newObj_type ?_ (by size_fits))
 refine wpAny_bind (m:=firstArgMember _ _) (wpAny_of_eq (a:=Value.none) (by first | rfl | (simp only [firstArgMember];rfl)) ?_)
 refine wpAny_newObj_type ?_ (by size_fits)
 simp only [raiseNew]
 refine wpAny_bind (wpAny_handled ?_)
 rw [show A.in1.handled=none from hh]
 refine wpAny_bind (wpAny_pure (wpAny_throw ?_))
 refine ⟨_,_,rfl,Heap.get?_push_size _ rfl,rfl,h _ fun b u hb e=>?_⟩
 exact Heap.get?_push_of_some _ (Heap.get?_push_of_some _ ((Heap.get?_update_ne _ _ _ _ hb).trans e))
theorem by_text {Q:Bool→Shared→Prop} (h:Q (w.params.followText "set-order") s):wpAny (model prog w) A setsByText Q E s:=by
 unfold setsByText
 exact wpAny_bind (wpAny_askSetting (wpAny_pure h))
theorem set_it {I:Addr} {first:Value} {i:Nat} {a:Addr} {n ep k:Nat} {x:Value} {Q:Unit→Shared→Prop} (hI:s.heap.get? I=some (itObj first i a n ep)) (hk:k < 5)
  (h:∀ h',h'.get? I=some { cls:=.type "set_iterator",data:=.fields (#[first,.int i 0,.ref a,.int n 0,.int ep 0].setIfInBounds k x) }→(∀ b u,b≠I→s.heap.get? b=some u→h'.get? b=some u)→Q () { s with heap:=h' }):wpAny (model prog w) A (setField (.ref I) k x) Q E s:=
 wpAny_setField_rec hI hk fun h' e sb=>h h' e fun b u hb e=>(sb.2 b hb).trans e
theorem next_item {I a:Addr} {es:Array (Int×Value)} {ep:Nat} {t:SetTable} {vals:List Value} {i:Nat} {Q:Option Value→Shared→Prop} (hf:t.fits es.size=true) (ht:TabOk (ledOf w) t) (hIa:a≠I) (hst:ItSt w s.heap I a es ep t vals i) (hi:i < vals.length)
  (h:∀ h',ItSt w h' I a es ep t vals (i+1)→(∀ b u,b≠I→s.heap.get? b=some u→h'.get? b=some u)→Q (some (vals.getD i Value.none)) { s with heap:=h' }):wpAny (model prog w) A (pyNext (.ref I)) Q E s:=by
 obtain ⟨ha,hm⟩:=hst
 rcases hm with ⟨hb,hI,hv⟩ | ⟨hb,T,ps,hI,hT,hTI,hps,hv⟩ | ⟨hb,hd,slot,hI,hs,hv⟩
 ·refine next_of hI ha hf ?_
  show wpAny _ _ (setNext a (Int.toNat 0) i ep >>= _) _ _ _
  refine wpAny_bind ?_
  unfold setNext
  refine wpAny_bind (wpAny_setState_of ha rfl hf (wpAny_bind (by_text ?_)))
  dsimp only
  rw [hb,if_pos rfl,if_neg (by simp)]
  refine wpAny_bind ?_
  unfold setWalk
  refine wpAny_bind (wpAny_setState_of ha rfl hf (wpAny_bind (by_text ?_)))
  rw [hb,if_pos rfl]
  refine wpAny_bind (wpAny_askSetting (wpAny_pure (wpAny_pure ?_)))
  have hg:(pickOrder (w.params.setOrder a ep) es)[i]?=some ((pickOrder (w.params.setOrder a ep) es)[i]'(by rw [hv] at hi;simpa using hi)):=Array.getElem?_eq_getElem _
  have hvi:vals.getD i Value.none=((pickOrder (w.params.setOrder a ep) es)[i]'(by rw [hv] at hi;simpa using hi)).2:=by
   subst hv
   have hi':i < (pickOrder (w.params.setOrder a ep) es).size:=by simpa using hi
   simp [hi']
  show wpAny _ _ (match ((pickOrder (w.params.setOrder a ep) es)[i]?).map fun e=>(e.2,Int.toNat 0) with | some (x,next)=>_ | none=>_) _ _ _
  rw [hg]
  dsimp only [Option.map]
  refine wpAny_bind (set_it hI (by decide) fun h1 e1 k1=>?_)
  refine wpAny_bind (set_it (s:={ s with heap:=h1 }) (first:=.int 0 0) e1 (by decide) fun h2 e2 k2=>wpAny_pure ⟨_,rfl,?_⟩)
  rw [← hvi]
  refine h h2 ⟨k2 _ _ hIa (k1 _ _ hIa ha),.inl ⟨hb,?_,hv⟩⟩ fun b u hb e=>k2 _ _ hb (k1 _ _ hb e)
  exact e2
 ·refine next_of hI ha hf ?_
  show wpAny _ _ (seqItems? (.ref T) >>= _) _ _ _
  refine wpAny_bind (wpAny_seqItems hT rfl ?_)
  have hi':i < ps.length:=by rw [hv,List.length_map] at hi;exact hi
  have hg:(List.map (fun (p:Nat)=>rawInt p) ps).toArray[i]?=some (rawInt ps[i]):=by simp [hi']
  dsimp only
  rw [hg]
  have hpl:=hps _ (List.getElem_mem hi')
  show wpAny _ _ (setNextDrawn a (Int.toNat (ps[i]:Nat)) ep >>= _) _ _ _
  rw [Int.toNat_natCast]
  refine wpAny_bind ?_
  unfold setNextDrawn
  refine wpAny_bind (wpAny_setState_of ha rfl hf ?_)
  dsimp only
  rw [if_neg (by simp),Array.getElem?_eq_getElem hpl]
  refine wpAny_pure ?_
  refine wpAny_bind (set_it hI (by decide) fun h1 e1 k1=>wpAny_pure ⟨_,rfl,?_⟩)
  have hvi:vals.getD i Value.none=es[ps[i]].2:=by
   subst hv
   simp [hi',hpl]
  show Q (some es[ps[i]].2) _
  rw [← hvi]
  refine h h1 ⟨k1 _ _ hIa ha,.inr (.inl ⟨hb,T,ps,?_,k1 _ _ hTI hT,hTI,hps,hv⟩)⟩ k1
  exact e1
 ·refine next_of hI ha hf ?_
  show wpAny _ _ (setNext a (Int.toNat (slot:Nat)) i ep >>= _) _ _ _
  rw [Int.toNat_natCast]
  refine wpAny_bind ?_
  unfold setNext
  refine wpAny_bind (wpAny_setState_of ha rfl hf (wpAny_bind (by_text ?_)))
  dsimp only
  rw [hb,if_neg Bool.false_ne_true]
  have hi':i < es.size:=by rw [hv,List.length_map,Array.length_toList] at hi;exact hi
  have hled:t.led=true:=by rw [ht.led_];unfold ledOf;rw [hb];rfl
  have hpz:t.place.size=es.size:=by
   simp only [SetTable.fits,Bool.and_eq_true,beq_iff_eq] at hf
   exact hf.1
  show wpAny _ _ (if drawnB es t=true then _ else _) _ _ _
  rw [hd,if_neg Bool.false_ne_true]
  refine wpAny_bind ?_
  show wpAny _ _ (if (!t.led && !es.isEmpty)=true then _ else _) _ _ _
  rw [hled,if_neg (by simp)]
  refine wpAny_pure (wpAny_pure ?_)
  rw [hs,Array.getElem?_eq_getElem hi',Array.getElem?_eq_getElem (by omega)]
  dsimp only
  refine wpAny_bind (set_it hI (by decide) fun h1 e1 k1=>?_)
  refine wpAny_bind (set_it (s:={ s with heap:=h1 }) (first:=.int ((t.place[i]'(by omega)+1:Nat):Int) 0) e1 (by decide) fun h2 e2 k2=>wpAny_pure ⟨_,rfl,?_⟩)
  have hvi:vals.getD i Value.none=es[i].2:=by
   subst hv
   simp [hi']
  rw [← hvi]
  refine h h2 ⟨k2 _ _ hIa (k1 _ _ hIa ha),.inr (.inr ⟨hb,hd,t.place[i]'(by omega)+1,?_,?_,hv⟩)⟩ fun b u hb e=>k2 _ _ hb (k1 _ _ hb e)
  ·exact e2
  ·obtain ⟨b1,b2,b3⟩:=below_ok ht.up (t.place[i]'(by omega)+1)
   have eg:t.place.getD i 0=t.place[i]'(by omega):=by
    have hlt:i < t.place.size:=by omega
    simp [Array.getD,hlt]
   have h1:i < SetTable.below t.place (t.place[i]'(by omega)+1):=by
    rcases Nat.lt_or_ge i (SetTable.below t.place (t.place[i]'(by omega)+1)) with z | z
    ·exact z
    ·have:=b3 i z (by omega)
     omega
   rcases Nat.lt_or_ge (i+1) (SetTable.below t.place (t.place[i]'(by omega)+1)) with z | z
   ·have h2:=b2 (i+1) z
    have h3:=up_lt ht.up (i:=i) (j:=i+1) (by omega) (by omega)
    omega
   ·omega
theorem next_end {I a:Addr} {es:Array (Int×Value)} {ep:Nat} {t:SetTable} {vals:List Value} {i:Nat} {Q:Option Value→Shared→Prop} (hh:A.handled=none) (hf:t.fits es.size=true) (ht:TabOk (ledOf w) t) (hIa:a≠I) (hst:ItSt w s.heap I a es ep t vals i) (hi:i=vals.length)
  (h:∀ h',(∀ b u,b≠I→s.heap.get? b=some u→h'.get? b=some u)→Q none { s with heap:=h' }):wpAny (model prog w) A (pyNext (.ref I)) Q E s:=by
 obtain ⟨ha,hm⟩:=hst
 rcases hm with ⟨hb,hI,hv⟩ | ⟨hb,T,ps,hI,hT,hTI,hps,hv⟩ | ⟨hb,hd,slot,hI,hs,hv⟩
 ·refine next_of hI ha hf ?_
  show wpAny _ _ (setNext a (Int.toNat 0) i ep >>= _) _ _ _
  refine wpAny_bind ?_
  unfold setNext
  refine wpAny_bind (wpAny_setState_of ha rfl hf (wpAny_bind (by_text ?_)))
  dsimp only
  rw [hb,if_pos rfl,if_neg (by simp)]
  refine wpAny_bind ?_
  unfold setWalk
  refine wpAny_bind (wpAny_setState_of ha rfl hf (wpAny_bind (by_text ?_)))
  rw [hb,if_pos rfl]
  refine wpAny_bind (wpAny_askSetting (wpAny_pure (wpAny_pure ?_)))
  have hg:(pickOrder (w.params.setOrder a ep) es)[i]?=none:=by
   rw [hi,hv]
   simp
  show wpAny _ _ (match ((pickOrder (w.params.setOrder a ep) es)[i]?).map fun e=>(e.2,Int.toNat 0) with | some (x,next)=>_ | none=>_) _ _ _
  rw [hg]
  exact stop_it hh hI rfl (by simp) h
 ·refine next_of hI ha hf ?_
  show wpAny _ _ (seqItems? (.ref T) >>= _) _ _ _
  refine wpAny_bind (wpAny_seqItems hT rfl ?_)
  have hg:(List.map (fun (p:Nat)=>rawInt p) ps).toArray[i]?=none:=by
   rw [hi,hv]
   simp
  dsimp only
  rw [hg]
  dsimp only
  refine wpAny_bind (set_it hI (by decide) fun h1 e1 k1=>?_)
  exact stop_it (s:={ s with heap:=h1 }) hh e1 rfl (by simp) fun h' k=>h h' fun b u hb e=>k _ _ hb (k1 _ _ hb e)
 ·refine next_of hI ha hf ?_
  show wpAny _ _ (setNext a (Int.toNat (slot:Nat)) i ep >>= _) _ _ _
  rw [Int.toNat_natCast]
  refine wpAny_bind ?_
  unfold setNext
  refine wpAny_bind (wpAny_setState_of ha rfl hf (wpAny_bind (by_text ?_)))
  dsimp only
  rw [hb,if_neg Bool.false_ne_true]
  have hled:t.led=true:=by rw [ht.led_];unfold ledOf;rw [hb];rfl
  show wpAny _ _ (if drawnB es t=true then _ else _) _ _ _
  rw [hd,if_neg Bool.false_ne_true]
  refine wpAny_bind ?_
  show wpAny _ _ (if (!t.led && !es.isEmpty)=true then _ else _) _ _ _
  rw [hled,if_neg (by simp)]
  refine wpAny_pure (wpAny_pure ?_)
  have hg:es[i]?=none:=by
   rw [hi,hv]
   simp
  rw [hs,hg]
  dsimp only
  exact stop_it hh hI rfl (by simp) h
end
open PySem PySem.Spec PyProof.Rows PySem.W
section
variable {prog:Program} {w:World} {A:Around} {E:Value→Shared→Prop} {s:Shared}
theorem ItSt.kept {h h':Heap} {I a:Addr} {es:Array (Int×Value)} {ep:Nat} {t:SetTable} {vals:List Value} {i:Nat} (x:ItSt w h I a es ep t vals i) (k:∀ b o,h.get? b=some o→o.cls≠.type "list"→h'.get? b=some o):ItSt w h' I a es ep t vals i:=by
 obtain ⟨ha,hm⟩:=x
 refine ⟨k _ _ ha (by simp),?_⟩
 rcases hm with ⟨hb,hI,hv⟩ | ⟨hb,T,ps,hI,hT,r⟩ | ⟨hb,hd,slot,hI,r⟩
 ·exact .inl ⟨hb,k _ _ hI (by simp),hv⟩
 ·exact .inr (.inl ⟨hb,T,ps,k _ _ hI (by simp),k _ _ hT (by simp),r⟩)
 ·exact .inr (.inr ⟨hb,hd,slot,k _ _ hI (by simp),r⟩)
theorem iter_set {a:Addr} {es:Array (Int×Value)} {ep:Nat} {t:SetTable} {Q:Value→Shared→Prop} (ha:s.heap.get? a=some (setObj es ep t)) (hf:t.fits es.size=true) (ht:TabOk (ledOf w) t) (hz:es.size≤1000)
  (h:∀ I h' d' vals,s.heap.objs.size≤I→ItSt w h' I a es ep t vals 0→vals.Perm (es.toList.map (·.2))→(∀ b o,s.heap.get? b=some o→h'.get? b=some o)→Q (.ref I) { s with heap:=h',drawn:=d' }):wpAny (model prog w) A (pyIter (.ref a)) Q E s:=by
 have hT:s.TypeIs (.ref a) "set":=⟨_,ha,rfl⟩
 refine wpAny_pyIter_slot hT PySem.F.slot_set_iter (wpAny_call_entry PySem.F.slot_set_iter hT PySem.F.entry_set_iter' ?_ (PySem.F.args_set_iter_1 _))
 unfold Builtin.«frozenset.__iter__»
 refine wpAny_bind (wpAny_pure (wpAny_bind ?_))
 unfold Builtin.Frozenset.sizeOf setEntries
 refine wpAny_bind (wpAny_bind (wpAny_setState_of ha rfl hf (wpAny_pure (wpAny_pure ?_))))
 refine wpAny_bind ?_
 unfold setDrawn
 refine wpAny_bind (wpAny_setState_of ha rfl hf (wpAny_bind (by_text (wpAny_pure ?_))))
 dsimp only
 show wpAny _ _ (if (!(w.params.followText "set-order") && drawnB es t)=true then _ else _) _ _ _
 have fin:∀ (first:Value) (s1:Shared) (vals:List Value),s1.heap.get? a=some (setObj es ep t)→vals.Perm (es.toList.map (·.2))→(∀ b o,s.heap.get? b=some o→s1.heap.get? b=some o)→s1.gens=s.gens→s1.toks=s.toks→s1.os=s.os→s.heap.objs.size≤s1.heap.objs.size→
   (∀ h' I,(∀ b o,s1.heap.get? b=some o→h'.get? b=some o)→s1.heap.objs.size=I→h'.get? I=some (itObj first 0 a es.size ep)→ItSt w h' I a es ep t vals 0)→
   wpAny (model prog w) A.in1 (do let e ← setEpoch a;let i ← newFields "set_iterator" [first,rawInt 0,.ref a,rawInt es.size,rawInt e];ret i) (fun fin s'=>∃ v,fin=Fin.done (Flow.ret v)∧∃ T' r,s'.TypeIs v T'∧typeLookup (.type T') "__next__" = pure (some r)∧Q v s') E s1:=by
  intro first s1 vals h1 hp hk eg et eo hle hst
  refine wpAny_bind (wpAny_setEpoch_of h1 rfl hf ?_)
  refine wpAny_bind (wpAny_newObj_type (wpAny_pure ⟨_,rfl,"set_iterator",_,⟨_,Heap.get?_push_size _ rfl,rfl⟩,PySem.F.slot_seti_next.lookup,?_⟩))
  obtain ⟨hp1,g1,d1,t1,o1⟩:=s1
  dsimp only at eg et eo
  subst eg et eo
  exact h _ _ d1 vals hle (hst _ _ (fun b o e=>Heap.get?_push_of_some _ e) rfl (Heap.get?_push_size _ rfl)) hp fun b o e=>Heap.get?_push_of_some _ (hk b o e)
 cases hb:w.params.followText "set-order" with
 | true=>
  rw [if_neg (by simp)]
  refine wpAny_bind (wpAny_pure ?_)
  refine fin (rawInt 0) s ((pickOrder (w.params.setOrder a ep) es).toList.map (·.2)) ha ((pick_perm _ _).map _) (fun _ _ e=>e) rfl rfl rfl (Nat.le_refl _) fun h' I k _ hI=>?_
  exact ⟨k _ _ ha,.inl ⟨hb,hI,rfl⟩⟩
 | false=>
  cases hd:drawnB es t with
  | true=>
   rw [if_pos (by simp)]
   refine wpAny_bind (draw_order es.size (List.range es.size) s _ (by simp) fun ps d' hp=>?_)
   refine wpAny_bind (wpAny_newObj_type ?_ (by show (List.map _ ps).length≤_;rw [List.length_map,hp.length_eq,List.length_range];exact Nat.le_of_lt (small1000 hz)))
   have hps:∀ p∈ps,p < es.size:=fun p h=>List.mem_range.mp (hp.mem_iff.mp h)
   have hvp:(ps.map fun p=>(es.getD p (0,.none)).2).Perm (es.toList.map (·.2)):=by
    have h1:=hp.map fun p=>(es.getD p (0,.none)).2
    have e:((List.range es.size).map fun p=>(es.getD p (0,Value.none)).2)=es.toList.map (·.2):=by
     apply List.ext_getElem
     ·simp
     ·intro i h1 h2
      have hi:i < es.size:=by simpa using h1
      simp [hi]
    rw [e] at h1
    exact h1
   have lt:∀ o:Obj,s.heap.objs.size < (s.heap.push o).objs.size:=fun o=>by rw [size_push'];exact Nat.lt_succ_self _
   refine fin (.ref s.heap.objs.size) _ (ps.map fun p=>(es.getD p (0,.none)).2) (Heap.get?_push_of_some _ ha) hvp (fun b o e=>Heap.get?_push_of_some _ e) rfl rfl rfl (Nat.le_of_lt (lt _)) fun h' I k eI hI=>?_
   refine ⟨k _ _ (Heap.get?_push_of_some _ ha),.inr (.inl ⟨hb,s.heap.objs.size,ps,hI,k _ _ (Heap.get?_push_size _ rfl),?_,hps,rfl⟩)⟩
   rw [← eI]
   exact Nat.ne_of_lt (lt _)
  | false=>
   rw [if_neg (by simp)]
   refine wpAny_bind (wpAny_pure ?_)
   refine fin (rawInt 0) s (es.toList.map (·.2)) ha (List.Perm.refl _) (fun _ _ e=>e) rfl rfl rfl (Nat.le_refl _) fun h' I k _ hI=>?_
   refine ⟨k _ _ ha,.inr (.inr ⟨hb,hd,0,hI,?_,rfl⟩)⟩
   obtain ⟨b1,b2,b3⟩:=below_ok ht.up 0
   rcases Nat.eq_zero_or_pos (SetTable.below t.place 0) with z | z
   ·exact z
   ·exact absurd (b2 0 z) (Nat.not_lt_zero _)
theorem ext_loop {S I a:Addr} {es:Array (Int×Value)} {ep:Nat} {t:SetTable} {vals:List Value} {res:Value} {R:Result→Shared→Prop} (hh:A.handled=none) (hf:t.fits es.size=true) (ht:TabOk (ledOf w) t) (hIa:a≠I) (hSI:S≠I) (hz:vals.length≤1000) :
  ∀ (k i:Nat) (s:Shared) (c:Nat),i+k=vals.length→ItSt w s.heap I a es ep t vals i→s.heap.get? S=some { cls:=.type "list",dict:=none,data:=.seq (vals.take i).toArray c,slots:=#[] }→
   (∀ h' c',h'.get? S=some { cls:=.type "list",dict:=none,data:=.seq vals.toArray c',slots:=#[] }→(∀ b o,b≠S→b≠I→s.heap.get? b=some o→h'.get? b=some o)→R (.ok (.ret res)) { s with heap:=h' })→
   codeAny (model prog w) A (.builtin "list.extend.loop" ⟨[.ref S,.ref I,res],[]⟩) R s:=by
 intro k
 induction k with
 | zero=>
  intro i s c hk hst hS hR
  have hi:i=vals.length:=by omega
  refine codeAny_builtin PySem.F.entry_extend_loop ?_
  rw [Around.under_plainId PySem.F.plain_extend_loop _]
  show wpAny _ A.in1 (pyNext (.ref I) >>= _) _ _ s
  refine wpAny_bind (next_end (A:=A.in1) hh hf ht hIa hst hi fun h1 k1=>?_)
  refine wpAny_pure ?_
  rw [hi,List.take_length] at hS
  exact hR h1 c (k1 _ _ hSI hS) fun b o _ hb e=>k1 _ _ hb e
 | succ k ih=>
  intro i s c hk hst hS hR
  have hi:i < vals.length:=by omega
  refine codeAny_builtin PySem.F.entry_extend_loop ?_
  rw [Around.under_plainId PySem.F.plain_extend_loop _]
  show wpAny _ A.in1 (pyNext (.ref I) >>= _) _ _ s
  refine wpAny_bind (next_item (A:=A.in1) hf ht hIa hst hi fun h1 st1 k1=>?_)
  dsimp only
  have hS1:=k1 _ _ hSI hS
  refine wpAny_bind ?_
  show wpAny _ _ (updateSeq S (·.push (vals.getD i Value.none))) _ _ _
  refine wpAny_updateSeq hS1 rfl ?_ (by simp only [List.size_toArray,List.length_take];exact Nat.le_of_lt (small1000 (by omega))) (by simp only [Array.size_push,List.size_toArray,List.length_take];exact Nat.le_succ_of_le (Nat.le_of_lt (small1000 (by omega))))
  refine wpAny_pure ⟨plainId_quiet PySem.F.plain_extend_loop _,?_⟩
  obtain ⟨c2,hS2⟩:∃ c2,(h1.update S (Obj.mapSeq (·.push (vals.getD i Value.none)))).get? S=some (seqObj "list" ((vals.take i).toArray.push (vals.getD i Value.none)) c2):=⟨_,get?_update_seq hS1 _⟩
  have oth:∀ b o,b≠S→h1.get? b=some o→(h1.update S (Obj.mapSeq (·.push (vals.getD i Value.none)))).get? b=some o:=fun b o hb e=>(Heap.get?_update_other _ _ (Ne.symm hb)).trans e
  have et:((vals.take i).toArray.push (vals.getD i Value.none))=(vals.take (i+1)).toArray:=by
   rw [List.take_succ,List.getElem?_eq_getElem hi]
   simp [hi]
  rw [et] at hS2
  refine ih (i+1) _ c2 (by omega) (st1.kept fun b o e hc=>oth b o (fun z=>?_) e) hS2 fun h' c' e1 e2=>hR h' c' e1 fun b o hb hb2 e=>e2 b o hb hb2 (oth b o hb (k1 _ _ hb2 e))
  rw [z,hS1] at e
  cases e
  exact hc rfl
end
open PySem PySem.Spec PySem.Calls PyProof.Rows PySem.W
section
variable {prog:Program} {w:World} {A:Around} {E:Value→Shared→Prop} {s:Shared}
theorem hint_set {r:Addr} {Q:Bool→Shared→Prop} (hT:s.TypeIs (.ref r) "set") (h:Q false s):wpAny (model prog w) A (Builtin.List.listLengthHint (.ref r)) Q E s:=by
 unfold Builtin.List.listLengthHint
 refine wpAny_bind (wpAny_specialOf hT PySem.F.slot_set_len.lookup ?_)
 generalize hid:("set.__len__" : String)=id0
 wp_delta
 rw [show splitId id0=some ("set","__len__") from by subst hid;decide +kernel]
 subst hid
 refine wpAny_bind (wpAny_isInstance (T:="set") (b:=true) hT (by rw [isSubtype_type];kernel_rfl) ?_)
 refine wpAny_ite_split (fun hab=>absurd hab (by decide)) (fun _=>?_)
 refine wpAny_ite_split (fun _=>?_) (fun hab=>absurd (by decide +kernel) hab)
 exact wpAny_bind (wpAny_typeOf hT (wpAny_pure h))
theorem collect_set {a:Addr} {es:Array (Int×Value)} {ep:Nat} {t:SetTable} {R:List Value→Shared→Prop} (hh:A.handled=none) (ha:s.heap.get? a=some (setObj es ep t)) (hf:t.fits es.size=true) (ht:TabOk (ledOf w) t) (hz:es.size≤1000)
  (h:∀ h' d' vals,vals.Perm (es.toList.map (·.2))→(∀ b o,s.heap.get? b=some o→h'.get? b=some o)→R vals { s with heap:=h',drawn:=d' }):wpAny (model prog w) A (collect (.ref a)) R E s:=by
 have haS:a < s.heap.objs.size:=Heap.lt_size ha
 unfold collect
 refine wpAny_bind (wpAny_runValue (codeAny_builtin entry_proto_collect' ?_))
 rw [Around.under_plainId PySem.F.plain_proto_collect _]
 show wpAny _ A.in1 (newList [] >>= fun l=>again (.builtin "list.__iadd__" ⟨[l,.ref a],[]⟩)) _ _ s
 refine wpAny_bind (wpAny_newObj_type ?_)
 refine wpAny_pure ⟨plainId_quiet PySem.F.plain_list_iadd _,codeAny_builtin entry_list_iadd' ?_⟩
 rw [Around.under_plainId PySem.F.plain_list_iadd _]
 show wpAny _ A.in1 (Builtin.List.listExtendWith (.ref s.heap.objs.size) (.ref a) (.ref s.heap.objs.size)) _ _ _
 have hS:(s.heap.push { cls:=.type "list",data:=.seq ([]:List Value).toArray }).get? s.heap.objs.size=some { cls:=.type "list",data:=.seq #[] }:=Heap.get?_push_size _ rfl
 have ha1:(s.heap.push { cls:=.type "list",data:=.seq ([]:List Value).toArray }).get? a=some (setObj es ep t):=Heap.get?_push_of_some _ ha
 have old1:∀ b o,s.heap.get? b=some o→(s.heap.push { cls:=.type "list",data:=.seq ([]:List Value).toArray }).get? b=some o:=fun b o e=>Heap.get?_push_of_some _ e
 have sz1:s.heap.objs.size < (s.heap.push { cls:=.type "list",data:=.seq ([]:List Value).toArray }).objs.size:=Heap.lt_size hS
 generalize (s.heap.push { cls:=.type "list",data:=.seq ([]:List Value).toArray })=h1 at *
 unfold Builtin.List.listExtendWith
 refine wpAny_bind (wpAny_typeOf (T:="set") ⟨_,ha1,rfl⟩ ?_)
 have e1:Builtin.List.listSameRef (.ref s.heap.objs.size) (.ref a)=false:=by
  have:s.heap.objs.size≠a:=Nat.ne_of_gt haS
  simp [Builtin.List.listSameRef,this]
 rw [if_neg (by rw [e1];decide)]
 refine wpAny_bind (iter_set (A:=A.in1) (s:={ s with heap:=h1 }) ha1 hf ht hz fun I h2 d2 vals hI st hp old2=>?_)
 have ha2:=old2 _ _ ha1
 have hS2:=old2 _ _ hS
 have hSI:s.heap.objs.size≠I:=Nat.ne_of_lt (Nat.lt_of_lt_of_le sz1 hI)
 have hIa:a≠I:=Nat.ne_of_lt (Nat.lt_of_lt_of_le (Nat.lt_trans haS sz1) hI)
 have hvz:vals.length≤1000:=by
  rw [hp.length_eq,List.length_map,Array.length_toList]
  exact hz
 refine wpAny_bind (wpAny_holding (hint_set ⟨_,ha2,rfl⟩ ?_))
 refine wpAny_ite_split (fun _=>?_) (fun _=>?_)
 ·refine wpAny_bind (wpAny_rule (wpAny_bind ?_))
  show wpAny _ _ (updateSeq s.heap.objs.size (·.push .none) >>= fun _=>updateSeq s.heap.objs.size (·.pop)) _ _ _
  refine wpAny_bind (wpAny_updateSeq hS2 rfl ?_ (by decide) (by show 1≤sizeLine+1;omega))
  obtain ⟨c3,hS3⟩:∃ c3,(h2.update s.heap.objs.size (Obj.mapSeq (·.push Value.none))).get? s.heap.objs.size=some (seqObj "list" (#[].push Value.none) c3):=⟨_,get?_update_seq hS2 _⟩
  refine wpAny_updateSeq hS3 rfl ?_ (by show 1≤sizeLine;rw [sizeLine_eq];decide) (by show 0≤sizeLine+1;omega)
  obtain ⟨c4,hS4⟩:∃ c4,((h2.update s.heap.objs.size (Obj.mapSeq (·.push Value.none))).update s.heap.objs.size (Obj.mapSeq (·.pop))).get? s.heap.objs.size=some (seqObj "list" ((#[].push Value.none).pop) c4):=⟨_,get?_update_seq hS3 _⟩
  have oth:∀ b o,b≠s.heap.objs.size→h2.get? b=some o→((h2.update s.heap.objs.size (Obj.mapSeq (·.push Value.none))).update s.heap.objs.size (Obj.mapSeq (·.pop))).get? b=some o:=fun b o hb e=>(Heap.get?_update_other _ _ (Ne.symm hb)).trans ((Heap.get?_update_other _ _ (Ne.symm hb)).trans e)
  refine wpAny_pure ⟨plainId_quiet PySem.F.plain_extend_loop _,ext_loop hh hf ht hIa hSI hvz vals.length 0 _ c4 (by omega) (st.kept fun b o e hc=>oth b o (fun z=>?_) e) hS4 fun h' c' e k=>?_⟩
  ·rw [z,hS2] at e
   cases e
   exact hc rfl
  ·show wpAny _ A (load s.heap.objs.size >>= _) _ _ _
   refine wpAny_bind (wpAny_load e (wpAny_pure ?_))
   refine h h' d2 vals hp fun b o q=>?_
   have hb:=Heap.lt_size q
   exact k b o (Nat.ne_of_lt hb) (Nat.ne_of_lt (Nat.lt_of_lt_of_le (Nat.lt_trans hb sz1) hI)) (oth b o (Nat.ne_of_lt hb) (old2 _ _ (old1 _ _ q)))
 ·refine wpAny_pure ⟨plainId_quiet PySem.F.plain_extend_loop _,ext_loop hh hf ht hIa hSI hvz vals.length 0 _ _ (by omega) st hS2 fun h' c' e k=>?_⟩
  show wpAny _ A (load s.heap.objs.size >>= _) _ _ _
  refine wpAny_bind (wpAny_load e (wpAny_pure ?_))
  refine h h' d2 vals hp fun b o q=>?_
  have hb:=Heap.lt_size q
  exact k b o (Nat.ne_of_lt hb) (Nat.ne_of_lt (Nat.lt_of_lt_of_le (Nat.lt_trans hb sz1) hI)) (old2 _ _ (old1 _ _ q))
end
abbrev setH (X:Cx) (v:Addr) (σ:List Int):HO:=.ext fun h=>SetAt X.prog X.w h v (ledOf X.w) σ
theorem Inv.drawn {X:Cx} {pins:List (Addr×Obj)} {σ:St} {H:Hp} {s:Shared} {h':Heap} {d':Drawn} (I:Inv X pins σ H s) (k:∀ b u,s.heap.get? b=some u→h'.get? b=some u):Inv X pins σ H { s with heap:=h',drawn:=d' }:=
 I.call (g':=s.gens) (t':=s.toks) (d':=d') (ch:=[]) (Un.kept k) (I.hok.kept k) I.bare fun _ z=>nomatch z
theorem call_set_ints {X:Cx} (hc:X.calm=true):CallR X (.type "set") (fun xs H Q=>∃ (p:Addr) (ns:List Int),xs=[.ref p]∧SqL X.K H p (ns.map V.int)∧ns.length≤1000∧∀ v,H v=none→Q (.ref v) (upd H v (setH X v (dedup ns)))):=by
 intro pins s σ H xs us Q I r h
 obtain ⟨p,ns,rfl,hq,hz,q⟩:=h
 obtain ⟨u,rfl,rx⟩:=vals1 r
 cases rx
 obtain ⟨its,rv,⟨⟨c1,d1,t1,l1⟩,n1,o1,z1,z2,z3⟩,hz1⟩:=I.list hq
 simp only at z1 z2 z3
 subst z1 z2 z3
 refine PySem.set_of_list (I.ok.hd hc) o1 (ints_are rv) (by unfold scanBound;omega) fun h' tk hS hk=>?_
 have hS':=hS
 obtain ⟨es,ep,t,e,_⟩:=hS'
 refine ⟨.ref s.heap.objs.size,_,I.laid (t':=tk) hk (Nat.le_refl _) (show ObjOk X.prog X.w _ _ _ (setH X s.heap.objs.size (dedup ns)) from ⟨hS,⟨_,e⟩,fun h1 h2 x k=>x.kept k⟩),rfl,q _ (I.hok.fresh (Nat.le_refl _))⟩
open PySem PySem.Spec PyProof.Rows PySem.W
abbrev setP (P:Program) (w:World) (v:Addr) (σ:List Int):HO:=.ext fun h=>SetAt P w h v (ledOf w) σ
theorem call_set_intsP {X:Cx} {P:Program} {w:World} (hc:X.calm=true) (h1:X.prog=P:=by rfl) (h2:X.w=w:=by rfl):CallR X (.type "set") (fun xs H Q=>∃ (p:Addr) (ns:List Int),xs=[.ref p]∧SqL X.K H p (ns.map V.int)∧ns.length≤1000∧∀ v,H v=none→Q (.ref v) (upd H v (setP P w v (dedup ns)))):=by
 subst h1 h2
 exact call_set_ints hc
theorem op_eqInts {X:Cx} (hu:X.A.units+1 < cLine):OpR X (compareOp .Eq) (fun x y H Q=>∃ (a b:Addr) (ns ms:List Int),x=.ref a∧y=.ref b∧SqL X.K H a (ns.map V.int)∧SqL X.K H b (ms.map V.int)∧ns.length=ms.length∧Q (.bl (decide (ns=ms))) H):=by
 intro pins s σ H x y v u Q I rx ry h
 obtain ⟨a,b,ns,ms,rfl,rfl,ha,hb,hl,q⟩:=h
 cases rx;cases ry
 obtain ⟨its,rva,ta,_⟩:=I.list ha
 obtain ⟨its2,rvb,tb,_⟩:=I.list hb
 have l1:=rva.length
 have l2:=rvb.length
 rw [List.length_map] at l1 l2
 have key:=SeqAt.RcAt.lists (A:=X.A) (s:=s) (e:=fun j=>ns.getD j 0 == ms.getD j 0) ta.isList tb.isList (by simp;omega) (by omega) (fun j h1 h2=>by
  have h1':j < ns.length:=by rw [l1];simpa using h1
  have h2':j < ms.length:=by omega
  obtain ⟨u1,e1,t1,r1⟩:=rva.get (i:=j) (x:=.int ns[j]) (by rw [List.getElem?_map,List.getElem?_eq_getElem h1'];rfl)
  obtain ⟨u2,e2,t2,r2⟩:=rvb.get (i:=j) (x:=.int ms[j]) (by rw [List.getElem?_map,List.getElem?_eq_getElem h2'];rfl)
  have eu:its.toArray[j]=.int ns[j] t1:=by
   have:=(List.getElem?_eq_some_iff.mp e1).2
   rw [← r1,← this]
   simp
  have ev:its2.toArray[j]=.int ms[j] t2:=by
   have:=(List.getElem?_eq_some_iff.mp e2).2
   rw [← r2,← this]
   simp
  rw [eu,ev]
  have g1:ns.getD j 0=ns[j]:=by simp [h1']
  have g2:ms.getD j 0=ms[j]:=by simp [h2']
  rw [g1,g2]
  exact SeqAt.EqAt.int_int _ _ _ _)
 have e:((List.range its.toArray.size).all fun j=>ns.getD j 0 == ms.getD j 0)=decide (ns=ms):=by
  have hs:its.toArray.size=ns.length:=by simp;omega
  rw [hs]
  apply Bool.eq_iff_iff.mpr
  rw [List.all_eq_true,decide_eq_true_iff]
  constructor
  ·intro h
   apply List.ext_getElem hl
   intro j h1 h2
   have:=h j (List.mem_range.mpr h1)
   simpa [h1,h2] using this
  ·rintro rfl j _
   simp
 rw [e] at key
 exact key X.prog X.w X.xe _ ⟨.bl _,H,I,rfl,q⟩
end L2
namespace Tim
open PySem PyProof.Rows
def numKey:Value→Option Int
 | .int n _=>some n
 | _=>none
@[reducible] def intKind:PyProof.Rows.KeyKind where
 α:=Int
 blt a b:=decide (a < b)
 irrefl a:=decide_eq_false (Int.lt_irrefl a)
 trans a b c h1 h2:=decide_eq_true (Int.lt_trans (of_decide_eq_true h1) (of_decide_eq_true h2))
 negTrans a b c h:=by
  have:=of_decide_eq_true h
  by_cases x:a < b
  ·exact .inl (decide_eq_true x)
  ·exact .inr (decide_eq_true (by omega))
 total a b h1 h2:=by
  have:=of_decide_eq_false h1
  have:=of_decide_eq_false h2
  omega
 keyOf:=numKey
 dflt:=0
theorem key_int {v:Value} {a:Int} (h:numKey v=some a):∃ t,v=.int a t:=by
 cases v <;> simp only [numKey,reduceCtorEq,Option.some.injEq] at h
 exact ⟨_,by rw [h]⟩
theorem intKind_oneLt:intKind.OneLt:=by
 intro prog w A E s x y a b Q ha hb h
 obtain ⟨t,rfl⟩:=key_int ha
 obtain ⟨u,rfl⟩:=key_int hb
 exact oneLt_int h
theorem K_int (xs:Array Keyed) (i:Nat):KK intKind xs i=K xs i:=by
 unfold KK K
 cases xs[i]? with
 | none=>rfl
 | some p=>
  obtain ⟨v,q⟩:=p
  cases v <;> rfl
theorem sorted_int {xs:Array Keyed} {n:Nat} (h:SortedToK intKind xs n):SortedTo xs n:=fun i j a b=>by
 have:=h i j a b
 rw [K_int,K_int] at this
 have:=of_decide_eq_false this
 omega
section
variable {prog:Program} {w:World} {A:Around} {E:Value→Shared→Prop} {s:Shared}
theorem wpS_ints {vs:List Value} {ns:List Int} {Q:Unit→SortSt→Prop} (I:IntsAre vs ns) (big:1≤vs.length) (q:∀ sn,(arrOf sn).Perm (pairsOf vs)→failedOf sn=none→SortedTo (arrOf sn) (pairsOf vs).size→Q () sn) :
  wpS (model prog w) A E s sortRuns' Q (SortSt.mk' oneType' (pairsOf vs) #[] 7 none):=by
 refine wpS_sortAll (κ:=intKind) intKind_oneLt (fun p hp=>?_) ⟨Array.Perm.refl _,rfl,rfl,rfl⟩ (by rw [pairsOf_size];exact big) fun sn a b c=>q sn a b (sorted_int c)
 obtain ⟨n,t,e⟩:=I.intKeys p hp
 exact ⟨n,by rw [e];rfl⟩
theorem sort_more {l:Addr} {vs:List Value} {ns:List Int} {ep:Nat} {P:Fin→Shared→Prop} (at_:s.heap.get? l=some (seqObj "list" vs.toArray ep)) (I:IntsAre vs ns) (most:vs.length≤1000)
  (q:∀ (out:Array Value) (ms:List Int),IntsAre out.toList ms→ms.Perm ns→ms.Pairwise (·≤·)→P (.done (.ret .none)) { s with heap:=sortedHeap s.heap l vs out }):wpAny (model prog w) A (Builtin.«list.sort» ⟨[.ref l],[]⟩) P E s:=by
 rcases Nat.lt_or_ge vs.length 64 with few | many
 ·exact list_sort_tree at_ I few q
 have lt:l < s.heap.objs.size:=Heap.lt_size at_
 obtain ⟨v,u,r,rfl⟩:∃ v u r,vs=v :: u :: r:=match vs,many with | v :: u :: r,_=>⟨v,u,r,rfl⟩
 have two:¬ (v :: u :: r).toArray.size < 2:=by show ¬ (v :: u :: r).length < 2;omega
 generalize hvs:v :: u :: r=vs at *
 rw [list_sort_plain]
 refine wpAny_bind (listItems_at at_ rfl (wpAny_bind (listUpdate_at at_ rfl ?_)))
 have bare:∃ e1,(s.heap.update l (Obj.mapSeq fun _=>#[])).get? l=some (seqObj "list" #[] e1):=⟨_,get?_update_seq at_ (fun _=>#[])⟩
 obtain ⟨e1,bare⟩:=bare
 refine wpAny_bind (seqEpoch_at bare rfl (wpAny_bind (wpAny_newTuple (wpAny_bind (wpAny_newList (wpAny_holding ?_))))))
 have still:(((s.heap.update l (Obj.mapSeq fun _=>#[])).push (seqObj "tuple" vs.toArray 0)).push (seqObj "list" #[] 0)).get? l=some (seqObj "list" #[] e1):=by
  have z1:(s.heap.update l (Obj.mapSeq fun _=>#[])).objs.size=s.heap.objs.size:=Heap.size_update ..
  rw [Heap.get?_push_ne,Heap.get?_push_ne]
  ·exact bare
  ·rw [z1];exact Nat.ne_of_lt lt
  ·rw [size_push',z1];exact Nat.ne_of_lt (Nat.lt_succ_of_lt lt)
 show wpAny (model prog w) A _ P E ({ s with heap:=((s.heap.update l (Obj.mapSeq fun _=>#[])).push (seqObj "tuple" vs.toArray 0)).push (seqObj "list" #[] 0) }:Shared)
 dsimp only
 rw [if_neg two,if_neg two]
 have kind:keyKind' vs.toArray=pure oneType':=by
  subst hvs
  exact keyKind_ints I
 rw [kind]
 refine wpAny_bind (wpAny_pure (wpAny_bind (wpAny_mono (wpS_ints I (by omega) (Q:=fun _ sn=>(arrOf sn).Perm (pairsOf vs)∧failedOf sn=none∧SortedTo (arrOf sn) (pairsOf vs).size) fun sn a b c=>⟨a,b,c⟩) (fun o sh J=>?_) fun _ _ e=>e)))
 obtain ⟨⟨⟩,sn⟩:=o
 obtain ⟨rfl,perm,none_,up⟩:=J
 obtain ⟨ms,h1,h2,h3⟩:=sorted_out I perm up
 have fits:((arrOf sn).map (·.2)).size≤sizeLine:=by
  rw [Array.size_map,perm.size_eq,pairsOf_size]
  exact Nat.le_trans most (by rw [sizeLine_eq];decide)
 dsimp only
 refine wpAny_bind (seqEpoch_at still rfl (wpAny_bind (listUpdate_at still rfl ?_ (hsz2:=Nat.le_succ_of_le fits))))
 rw [none_]
 simp only [bne_self_eq_false,Bool.false_eq_true,if_false]
 exact wpAny_pure (q _ ms h1 h2 h3)
end
end Tim
namespace L2
open PySem PySem.Spec PyProof.Rows PySem.W
theorem line1000:1000≤(sizeLine:Nat):=by rw [sizeLine_eq];decide
theorem call_sorted_setM {X:Cx} {P:Program} {w:World} (hc:X.calm=true) (h1:X.prog=P:=by rfl) (h2:X.w=w:=by rfl):CallR X (.builtin "sorted") (fun xs H Q=>∃ (p:Addr) (τ:List Int),xs=[.ref p]∧H p=some (setP P w p τ)∧τ.length≤1000∧∀ (l:Addr) (ns:List Int),H l=none→ns.Perm τ→ns.Pairwise (·≤·)→Q (.ref l) (upd H l (.lst (ns.map V.int)))):=by
 subst h1 h2
 intro pins s σ H xs us Q I r h
 obtain ⟨p,τ,rfl,hp,most,q⟩:=h
 obtain ⟨u,rfl,rx⟩:=vals1 r
 cases rx
 obtain ⟨⟨es,ep,t,ho,hel,⟨l0,hI0,hp0⟩,hb,hf,ht⟩,_⟩:=I.hok p _ hp
 have hz:es.size=τ.length:=by
  have h1:=hI0.length
  rw [List.length_map,Array.length_toList] at h1
  rw [h1,hp0.length_eq]
 refine Calls.call_function_entry kind_sorted plain_sorted entry_sorted (args_sorted1 _) ?_
 unfold Builtin.«sorted»
 refine wpAny_bind (m:=checkCount "sorted" 1 1 _) (wpAny_pure (wpAny_bind (collect_set (A:=X.A.in1) (show X.A.in1.handled=none from I.ok.hd hc) ho hf ht (by omega) fun h' d' vals hv hk=>?_)))
 obtain ⟨ns0,hI,hp1⟩:=ints_perm hI0 hv
 have hl:vals.length=τ.length:=by rw [hI.length,hp1.length_eq,hp0.length_eq]
 refine wpAny_bind (wpAny_newList ?_ (by rw [hl];exact Nat.le_trans most line1000))
 have hoL:(h'.push (seqObj "list" vals.toArray 0)).get? h'.objs.size=some (seqObj "list" vals.toArray 0):=Heap.get?_push_size _ rfl
 refine wpAny_bind (wpAny_holding (wpAny_call_entry slot_list_sort ⟨_,hoL,rfl⟩ entry_list_sort (Tim.sort_more hoL hI (by omega) fun out ns' a1 a2 a3=>⟨_,rfl,wpAny_pure ⟨_,rfl,?_⟩⟩) (args_list_sort _)))
 have I1:Inv X pins σ H { s with heap:=h',drawn:=d' }:=I.drawn hk
 obtain ⟨e,he⟩:=sortedHeap_at (out:=out) hoL
 refine ⟨.ref h'.objs.size,_,I1.laid (t':=s.toks) (a:=h'.objs.size) (fun b o hb=>?_) (Nat.le_refl _) (show ObjOk X.prog X.w _ _ _ (.lst (ns'.map V.int)) from ⟨?_,_,e,vals_ints a1,?_⟩),rfl,q _ _ (I1.hok.fresh (Nat.le_refl _)) (a2.trans (hp1.trans hp0)) a3⟩
 ·have hlt:=Heap.lt_size hb
  rw [sortedHeap_old (Nat.ne_of_lt hlt) (by rw [size_push'];exact Nat.lt_succ_of_lt hlt)]
  exact Heap.get?_push_of_some _ hb
 ·rw [List.length_map,a2.length_eq,← hI.length,hl]
  exact Nat.le_trans most line1000
 ·rw [Array.toArray_toList]
  exact he
end L2
namespace Tim
open PySem PyProof.Rows
section
variable {prog:Program} {w:World} {A:Around} {E:Value→Shared→Prop} {s:Shared}
theorem wpS_ltP {st:SortSt} {i j:Nat} {x y:Keyed} {v:Bool} {Q:Option Bool→SortSt→Prop} (hi:(arrOf st)[i]?=some x) (hj:(arrOf st)[j]?=some y)
  (ask:wpAny (model prog w) A (keyLt' (kindOf st) x.1 y.1) (fun b s'=>s'=s∧b=v) (fun _ _=>False) s) (q:Q (some v) st):wpS (model prog w) A E s (ltAt' i j) Q st:=by
 rw [ltAt'_eq]
 refine wpS_bind (wpS_get ?_)
 dsimp only
 rw [elem'_eq,hi]
 refine wpS_bind (wpS_pure ?_)
 rw [elem'_eq,hj]
 refine wpS_bind (wpS_pure ?_)
 rw [lt'_eq]
 refine wpS_bind (wpS_get ?_)
 refine wpS_bind (wpS_lift (wpAny_attempt (wpAny_mono ask (fun b s' h=>?_) (fun _ _ h=>h.elim))))
 obtain ⟨h1,h2⟩:=h
 subst h2
 exact ⟨h1,wpS_pure q⟩
theorem wpS_countAsc {st:SortSt} {N:Nat} {Q:Option Nat→SortSt→Prop} (h1:1≤N)
  (asks:∀ i,1≤i→i < N→∀ Q':Option Bool→SortSt→Prop,Q' (some false) st→wpS (model prog w) A E s (ltAt' i (i - 1)) Q' st) (q:Q (some N) st):wpS (model prog w) A E s (countRun' 0 N) Q st:=by
 rw [countRunL_eq]
 refine wpS_bind (wpS_forRange (I:=fun n c sn=>sn=st∧c=(none,n)) (fun n c sn an bn J=>?_) (fun c sn J=>?_) ⟨rfl,rfl⟩)
 ·obtain ⟨rfl,rfl⟩:=J
  dsimp only
  rw [Nat.zero_add]
  refine wpS_bind (asks n an bn _ ?_)
  exact wpS_pure ⟨rfl,rfl⟩
 ·obtain ⟨rfl,rfl⟩:=J
  have e:max 1 N=N:=by omega
  rw [e]
  dsimp only
  rw [if_pos (by simp)]
  exact wpS_pure q
theorem wpS_binNone {st:SortSt} {n:Nat} {Q:Bool→SortSt→Prop} (h1:1≤n) (q:Q true st):wpS (model prog w) A E s (binarySort' 0 n n) Q st:=by
 rw [binarySort'_eq]
 refine wpS_bind (wpS_forRange (I:=fun _ c sn=>sn=st∧c=(none,())) (fun k c sn ak bk J=>?_) (fun c sn J=>?_) ⟨rfl,rfl⟩)
 ·omega
 ·obtain ⟨rfl,rfl⟩:=J
  exact wpS_pure q
theorem wpS_sortAsc {st:SortSt} {N:Nat} {Q:Unit→SortSt→Prop} (hN:(arrOf st).size=N) (h1:1≤N) (hp:pendingOf st=#[])
  (asks:∀ i,1≤i→i < N→∀ Q':Option Bool→SortSt→Prop,Q' (some false) st→wpS (model prog w) A E s (ltAt' i (i - 1)) Q' st)
  (q:∀ sn,arrOf sn=arrOf st→failedOf sn=failedOf st→Q () sn):wpS (model prog w) A E s sortRuns' Q st:=by
 rw [sortRuns'_eq]
 refine wpS_bind (wpS_get ?_)
 dsimp only
 rw [hN]
 generalize minRun' N N 0=mr
 refine wpS_bind (wpS_mono (wpS_forRange (I:=fun (x:Nat) (c:Option Unit×Nat) (st':SortSt)=>(x=0∧c=(none,0)∧st'=st)∨(1≤x∧c=(none,N)∧arrOf st'=arrOf st∧failedOf st'=failedOf st∧(pendingOf st').size=1))
  (Q:=fun (c:Option Unit×Nat) (st':SortSt)=>c=(none,N)∧arrOf st'=arrOf st∧failedOf st'=failedOf st∧(pendingOf st').size=1) ?step ?fin (.inl ⟨rfl,rfl,rfl⟩)) ?post)
 case fin=>
  rintro c st' (⟨h,_⟩ | ⟨_,h2,h3,h4,h5⟩)
  ·omega
  ·exact ⟨h2,h3,h4,h5⟩
 case step=>
  rintro x c st' _ hx (⟨rfl,rfl,rfl⟩ | ⟨_,rfl,h3,h4,h5⟩)
  ·dsimp only
   rw [if_neg (by omega)]
   refine wpS_bind ?_
   rw [Nat.sub_zero]
   refine wpS_countAsc h1 asks ?_
   dsimp only
   split
   ·rename_i hm
    refine wpS_bind (wpS_lift (wpAny_rule ⟨rfl,?_⟩))
    have e:min N mr=N:=by omega
    rw [e]
    refine wpS_bind (wpS_binNone h1 ?_)
    simp only [Bool.not_true,Bool.false_eq_true,if_false]
    refine wpS_bind (wpS_get ?_)
    rw [hp]
    refine wpS_bind (wpS_modify (wpS_pure (.inr ⟨by omega,?_,rfl,rfl,?_⟩)))
    ·rw [Nat.zero_add]
    ·show ((pendingOf st').push _).size=1
     rw [hp]
     rfl
   ·refine wpS_bind (wpS_get ?_)
    rw [hp]
    refine wpS_bind (wpS_modify (wpS_pure (.inr ⟨by omega,?_,rfl,rfl,?_⟩)))
    ·rw [Nat.zero_add]
    ·show ((pendingOf st').push _).size=1
     rw [hp]
     rfl
  ·dsimp only
   rw [if_pos (Nat.le_refl _)]
   exact wpS_pure ⟨rfl,h3,h4,h5⟩
 case post=>
  rintro c st' ⟨rfl,h3,h4,h5⟩
  dsimp only
  refine wpS_bind (wpS_mono (wpS_forRange (I:=fun (x:Nat) (c:Option Unit×Unit) (st4:SortSt)=>c=(none,())∧st4=st')
   (Q:=fun (c:Option Unit×Unit) (st4:SortSt)=>c=(none,())∧st4=st') ?step4 (fun _ _ h=>h) ⟨rfl,rfl⟩) ?post4)
  case step4=>
   rintro x c st4 _ hx ⟨rfl,rfl⟩
   refine wpS_bind (wpS_get ?_)
   rw [if_pos (by omega)]
   exact wpS_pure ⟨rfl,rfl⟩
  case post4=>
   rintro c st4 ⟨rfl,rfl⟩
   exact wpS_pure (q _ h3 h4)
end
end Tim
namespace L2
open PySem PySem.Spec PyProof.Rows PySem.W
theorem line_1000:1000≤(sizeLine:Nat):=by rw [sizeLine_eq];decide
section
variable {prog:Program} {w:World} {A:Around} {E:Value→Shared→Prop} {s:Shared}
theorem nodup_of_asc {ps:List (Int×Int)} (h:ps.Pairwise fun x y=>x.1 < y.1):(ps.map (·.1)).Nodup:=by
 unfold List.Nodup
 rw [List.pairwise_map]
 exact h.imp fun z=>Int.ne_of_lt z
theorem sort_rising {a:Addr} {vs:List Value} {ps:List (Int×Int)} {n:Nat} {P:Fin→Shared→Prop} (ho:s.heap.get? a=some (seqObj "list" vs.toArray n)) (hl:vs.length=ps.length)
  (hv:∀ i (h:i < ps.length),PairAt s.heap (vs.getD i Value.none) ps[i]) (asc:ps.Pairwise fun x y=>x.1 < y.1) (most:ps.length≤1000)
  (h:P (.done (.ret .none)) { s with heap:=sortedHeap s.heap a vs vs.toArray }) :
  wpAny (model prog w) A (Builtin.«list.sort» ⟨[.ref a],[]⟩) P E s:=by
 have ha:a < s.heap.objs.size:=Heap.lt_size ho
 have nd:=nodup_of_asc asc
 have hsz:vs.toArray.size=vs.length:=by simp
 have line:vs.length≤sizeLine:=by
  have:=line_1000
  omega
 obtain ⟨e1,ho1⟩:∃ e1,(s.heap.update a (Obj.mapSeq fun _=>#[])).get? a=some (seqObj "list" #[] e1):=⟨_,get?_update_seq ho (fun _=>#[])⟩
 have ho2:(((s.heap.update a (Obj.mapSeq fun _=>#[])).push (seqObj "tuple" vs.toArray 0)).push (seqObj "list" #[] 0)).get? a=some (seqObj "list" #[] e1):=Heap.get?_push_of_some _ (Heap.get?_push_of_some _ ho1)
 have hv2:∀ i (h:i < ps.length),PairAt (((s.heap.update a (Obj.mapSeq fun _=>#[])).push (seqObj "tuple" vs.toArray 0)).push (seqObj "list" #[] 0)) (vs.getD i Value.none) ps[i]:=fun i hi=>(hv i hi).kept fun b o e c=>by
  have hb:b≠a:=fun z=>by
   rw [z,ho] at e
   cases e
   exact absurd c (by simp)
  exact Heap.get?_push_of_some _ (Heap.get?_push_of_some _ ((Heap.get?_update_ne _ _ _ _ hb).trans e))
 rw [list_sort_plain]
 refine wpAny_bind (listItems_at ho rfl (wpAny_bind (listUpdate_at ho rfl ?_ (by rw [hsz];omega) (Nat.zero_le _))))
 refine wpAny_bind (seqEpoch_at ho1 rfl (wpAny_bind (wpAny_newTuple ?_ line)))
 refine wpAny_bind (wpAny_newList (wpAny_holding ?_) (Nat.zero_le _))
 generalize hh:(((s.heap.update a (Obj.mapSeq fun _=>#[])).push (seqObj "tuple" vs.toArray 0)).push (seqObj "list" #[] 0))=h2 at *
 show wpAny (model prog w) A _ P E { s with heap:=h2 }
 dsimp only
 have hout:((vs.toArray.zip vs.toArray).map (·.2))=vs.toArray:=by
  apply Array.ext
  ·simp
  ·intro i h1 h2
   simp
 by_cases h2':vs.toArray.size < 2
 ·rw [if_pos h2',if_pos h2']
  refine wpAny_bind (wpAny_pure ?_)
  rw [StateT.run_pure]
  refine wpAny_bind (wpAny_pure ?_)
  dsimp only
  refine wpAny_bind (seqEpoch_at ho2 rfl (wpAny_bind (listUpdate_at ho2 rfl ?_ (Nat.zero_le _) ?_)))
  ·simp only [bne_self_eq_false,Bool.false_eq_true,if_false]
   refine wpAny_pure ?_
   have g:=h
   unfold sortedHeap at g
   rw [hh] at g
   rw [← hout] at g
   exact g
  ·show ((vs.toArray.zip vs.toArray).map (·.2)).size≤_
   rw [hout,hsz]
   omega
 ·rw [if_neg h2',if_neg h2']
  obtain ⟨fs,t1,t2,t3⟩:=pairs_tups (h:=h2) hl hv2
  refine wpAny_bind (kat_kind (s:={ s with heap:=h2 }) (T:=.type "int") t1 (by omega) (fun v hv=>?_) (by decide) ?_)
  ·obtain ⟨x,t,rfl⟩:=t3 v hv
   exact Looks.of_pure rfl
  have hk:(Value.type "int" != Value.type "tuple")=true:=by decide
  rw [hk]
  have zsz:(vs.toArray.zip vs.toArray).size=ps.length:=by simp [hl]
  have hat:∀ i,i < ps.length→(vs.toArray.zip vs.toArray)[i]?=some (vs.getD i Value.none,vs.getD i Value.none):=fun i hi=>by
   have hi':i < vs.length:=by omega
   rw [Array.getElem?_eq_getElem (by rw [zsz];exact hi)]
   simp [hi']
  refine wpAny_bind (wpAny_mono (Tim.wpS_sortAsc (prog:=prog) (w:=w) (A:=A) (E:=E) (s:={ s with heap:=h2 }) (st:=SortSt.mk' (tuples' true) (vs.toArray.zip vs.toArray) #[] 7 none) (N:=ps.length) (Q:=fun _ sn=>arrOf sn=vs.toArray.zip vs.toArray∧failedOf sn=none) zsz (by omega) rfl (fun i a1 a2 Q' q'=>?_) (fun sn b1 b2=>⟨b1,b2⟩)) (fun o sh J=>?_) fun _ _ e=>e)
  ·refine Tim.wpS_ltP (hat i a2) (hat (i - 1) (by omega)) (v:=false) ?_ q'
   have g:=ask_pairs (prog:=prog) (w:=w) (A:=A) (s:={ s with heap:=h2 }) (C:=fun b s'=>s'={ s with heap:=h2 }∧b=false) hl hv2 nd a2 (show i - 1 < ps.length by omega) (by
    refine ⟨rfl,decide_eq_false ?_⟩
    have pw:=List.pairwise_iff_getElem.mp asc (i - 1) i (by omega) a2 (by omega)
    have gi:ps.getD i (0,0)=ps[i]:=by simp [a2]
    have gj:ps.getD (i - 1) (0,0)=ps[i - 1]:=by
     have:i - 1 < ps.length:=by omega
     simp [this]
    rw [gi,gj]
    omega)
   exact g
  obtain ⟨⟨⟩,st'⟩:=o
  obtain ⟨rfl,b1,b2⟩:=J
  dsimp only at b1 b2 ⊢
  rw [b1,hout]
  refine wpAny_bind (seqEpoch_at ho2 rfl (wpAny_bind (listUpdate_at ho2 rfl ?_ (Nat.zero_le _) ?_)))
  ·rw [b2]
   simp only [bne_self_eq_false,Bool.false_eq_true,if_false]
   refine wpAny_pure ?_
   have g:=h
   unfold sortedHeap at g
   rw [hh] at g
   exact g
  ·rw [hsz]
   omega
end
theorem call_sorted_rising {X:Cx}:CallR X (.builtin "sorted") (fun xs H Q=>∃ (p:Addr) (qs:List V) (ps:List (Int×Int)),xs=[.ref p]∧SqL X.K H p qs∧PairsL X.K H qs ps∧(ps.Pairwise fun x y=>x.1 < y.1)∧ps.length≤1000∧
  ∀ (l:Addr),H l=none→Q (.ref l) (upd H l (.lst qs))):=by
 intro pins s σ H xs us Q I r h
 obtain ⟨b,qs,ps,rfl,hq,hp,asc,most,q⟩:=h
 obtain ⟨u,rfl,rx⟩:=vals1 r
 cases rx
 obtain ⟨its,rv,pl,hz⟩:=I.list hq
 have hl1:=rv.length
 have hl:its.length=ps.length:=by rw [← hl1,hp.1]
 have hv:∀ i (h:i < ps.length),PairAt s.heap (its.getD i Value.none) ps[i]:=fun i hi=>by
  obtain ⟨c,e1,e2⟩:=hp.2 i hi
  obtain ⟨v,e3,e4⟩:=rv.get e1
  cases e4
  obtain ⟨ic,rc,⟨o,k1,k2,n,k3⟩,_⟩:=I.tuple e2
  obtain ⟨u1,u2,rfl,⟨t,rfl⟩,⟨t',rfl⟩⟩:=vals2 rc
  exact ⟨c,o,t,t',n,by rw [List.getD_eq_getElem?_getD,e3];rfl,k1,k2,k3⟩
 refine Calls.call_function_entry kind_sorted plain_sorted entry_sorted (args_sorted1 _) ?_
 unfold Builtin.«sorted»
 refine wpAny_bind (m:=checkCount "sorted" 1 1 _) (wpAny_pure (wpAny_bind (collect_list pl.isList (wpAny_bind (wpAny_newList ?_ ?_)) ?_)))
 ·have old:∀ b o,s.heap.get? b=some o→((s.heap.push (seqObj "list" #[] 0)).update s.heap.objs.size (Obj.mapSeq (·++its.toArray))).get? b=some o:=fun b o e=>by
   rw [Heap.get?_update_ne _ _ _ _ (Nat.ne_of_lt (Heap.lt_size e))]
   exact Heap.get?_push_of_some _ e
  generalize ((s.heap.push (seqObj "list" #[] 0)).update s.heap.objs.size (Obj.mapSeq (·++its.toArray)))=h1 at *
  have I1:Inv X pins σ H { s with heap:=h1 }:=I.kept (t':=s.toks) old
  have hoL:(h1.push (seqObj "list" its.toArray 0)).get? h1.objs.size=some (seqObj "list" its.toArray 0):=Heap.get?_push_size _ rfl
  refine wpAny_bind (wpAny_holding (wpAny_call_entry slot_list_sort ⟨_,hoL,rfl⟩ entry_list_sort (sort_rising (s:={ s with heap:=h1.push (seqObj "list" its.toArray 0) }) hoL hl (fun i hi=>(hv i hi).kept fun b o e _=>Heap.get?_push_of_some _ (old b o e)) asc most ⟨_,rfl,?_⟩) (args_list_sort _)))
  refine wpAny_pure ⟨_,rfl,?_⟩
  obtain ⟨e,he⟩:=sortedHeap_at (out:=its.toArray) hoL
  refine ⟨.ref _,_,I1.laid (t':=s.toks) (fun b o hb=>?_) (Nat.le_refl _) (show ObjOk X.prog X.w _ _ _ (.lst qs) from ⟨hz,_,e,rv,he⟩),rfl,q _ (I1.hok.fresh (Nat.le_refl _))⟩
  have hlt:=Heap.lt_size hb
  rw [sortedHeap_old (Nat.ne_of_lt hlt) (by rw [size_push'];exact Nat.lt_succ_of_lt hlt)]
  exact Heap.get?_push_of_some _ hb
 ·rw [hl];exact Nat.le_trans most line_1000
 ·rw [hl];exact Nat.le_trans most line_1000
open PySem PySem.Spec PyProof.Rows PySem.W
theorem comp_run2 {X:Cx} {scope:Scope} {own:List Str} {fr:List Nat} {elt tg iter:Expr} {ifs:List Expr} {pos:Pos} {wi:TI} {g:TG} {tt:TT} {te:TE} {use:Option (Value→Sem Unit)} (hc:X.calm=true) (O:CompOk X scope fr) (hi:PI X tg iter wi)
  (hb:∀ s H ex,PG (blk X scope own fr s H ex) tg g∧PTs (blk X scope own fr s H ex) ifs tt∧PE (blk X scope own fr s H ex) elt te)
  (hs:∀ x,foldedSetIterable iter X.env x=pure x) {pins:List (Addr×Obj)} {s:Shared} {σ:St} {H:Hp} {Q:VK} {R:Value→Shared→Prop} (I:Inv X pins σ H s) (h:tComp own fr wi g tt te σ H Q) (hx:∀ e s',X.xe e s'↔False)
  (fin:∀ (p C:Addr) (H':Hp) (s':Shared) (m:Str→Option Value),s'.heap.Ns C m→H' C=none→C≠X.env.locals→(∀ x c,X.env.cells.lookup x=some c→c≠C)→X.s₀.heap.objs.size≤C→(∀ p∈X.pn++pins,p.1≠C)→Inv X pins σ H' s'→(∀ h',Heap.SameBut C s'.heap h'→Inv X pins σ H' { s' with heap:=h' })→Q (.ref p) H'→
   compPost (model X.prog X.w) X.A X.xe use R (.ref p) C (.ok .next) s') :
  wpAny (model X.prog X.w) X.A (comprehension (.ListComp elt [⟨tg,iter,ifs,0⟩] scope pos) scope X.env (firstIterPos [⟨tg,iter,ifs,0⟩] pos) (newList []) false (eval iter X.env) use) R X.xe s:=by
 have hsome:∀ x∈scope.names,x.2=.free→(X.env.cells.lookup x.1).isSome=true:=fun x hx' e=>by
  obtain ⟨c,hc⟩:=I.ok.has x.1 (O.frees x hx' e)
  rw [hc];rfl
 have no:∀ (E:Value→Shared→Prop) (x:Value) (s':Shared),X.xe x s'→E x s':=fun E x s' z=>((hx x s').mp z).elim
 refine wpAny_comprehension_free (cl:=clOf X.env.cells scope.names []) rfl hs (closure_cl hsome) O.kind O.loc ?_
 refine thn (hi pins s σ H _ I h) fun v s1 h1=>thn h1 fun itv s2 h2=>?_
 obtain ⟨it,fp,tn,J,H2,e,I2,T,st2,f2,q2⟩:=h2
 subst e
 refine wpAny_newObj_type ?_
 have nw:H2 s2.heap.objs.size=none:=I2.fresh
 obtain ⟨W,⟨m0,w0⟩,turn⟩:=q2 _ nw
 generalize hp:s2.heap.objs.size=p at *
 have I3:Inv X pins σ (upd H2 p (.lst [])) { s2 with heap:=s2.heap.push { cls:=.type "list",dict:=none,data:=.seq ([]:List Value).toArray } }:=by
  have:=I2.lnew (ys:=[]) (its:=[]) (t':=s2.toks) .nil (Nat.zero_le _)
  rw [hp] at this
  exact this
 have lt2:∀ b∈fp,b < s2.heap.objs.size:=fun b hb=>by
  obtain ⟨o,ho,_⟩:=T.obj _ _ st2 b hb
  exact Heap.lt_size ho
 have fpn:∀ b∈fp,(upd H2 p (.lst [])) b=none:=fun b hb=>by
  rw [upd_ne (by rw [← hp];exact Nat.ne_of_lt (lt2 b hb))]
  exact (f2 b hb).1
 generalize hs3:({ s2 with heap:=s2.heap.push { cls:=.type "list",dict:=none,data:=.seq ([]:List Value).toArray } }:Shared)=s3 at *
 have sz3:s3.heap.objs.size=p+1:=by
  rw [← hs3]
  show (s2.heap.push _).objs.size=_
  rw [Heap.size_push,hp]
 have st3:tn 0 s3.heap:=T.keep 0 _ _ st2 fun b hb o e=>by
  rw [← hs3]
  exact Heap.get?_push_of_some _ e
 refine wpAny_newFunctionEnv O.nocell (by intro y hy;simp at hy) (fun h4 hns4 hsb4=>?_) O.kind
 have k4:∀ b o,s3.heap.get? b=some o→h4.get? b=some o:=fun b o e=>hsb4.extBut b o (Nat.ne_of_lt (Heap.lt_size e)) (Heap.get?_push_of_some _ e)
 have hns4':h4.Ns s3.heap.objs.size fun _=>none:=by
  have z:(fun x:Str=>([]:List (Str×Value)).reverse.lookup x)=fun _=>none:=by funext x;rfl
  rw [z] at hns4
  exact hns4
 have fo:∀ b∈fp,FpOk X pins (upd H2 p (.lst [])) b∧b < s3.heap.objs.size:=fun b hb=>⟨⟨fpn b hb,(f2 b hb).2⟩,by rw [sz3,← hp];exact Nat.lt_succ_of_lt (lt2 b hb)⟩
 have I4:=inv_blk (own:=own) (fr:=fr) (t1:=s3.toks+([]:List (Str×Value)).length) I3 O fo hns4' k4
 have st4:tn 0 h4:=T.keep 0 _ _ st3 fun b hb o e=>k4 b o e
 obtain ⟨hg,ht,he⟩:=hb s3 (upd H2 p (.lst [])) fp
 have stat:∀ {H':Hp} {pn:List (Addr×Obj)} {s':Shared} {σ':St},Inv (blk X scope own fr s3 (upd H2 p (.lst [])) fp) [] σ' H' s'→(∀ b∈fp,H' b=none)→∀ b∈fp,FpOk (blk X scope own fr s3 (upd H2 p (.lst [])) fp) [] H' b:=fun {H' pn s' σ'} J hn b hb'=>
  ⟨hn b hb',(J.ok.exf b hb').1,J.ok.exfs b hb',.inl hb',(J.ok.exf b hb').2,fun p hp=>absurd hp (by simp [blk])⟩
 have nocells:∀ x c,X.env.cells.lookup x=some c→c≠s3.heap.objs.size:=fun x c e=>by
  obtain ⟨v,q⟩:=I3.cell x c e
  exact Nat.ne_of_lt q.lt
 have loop:∀ s5:Shared,s5={ s3 with heap:=h4,toks:=s3.toks+([]:List (Str×Value)).length }→
   codeAny (model X.prog X.w) X.A (.compLoop (.ListComp elt [⟨tg,iter,ifs,0⟩] scope pos) 0 (.ref it) (.ref p) (blk X scope own fr s3 (upd H2 p (.lst [])) fp).env) (compPost (model X.prog X.w) X.A X.xe use R (.ref p) s3.heap.objs.size) s5:=by
  rintro s5 rfl
  refine compLoop_gen (fun n s'=>∃ i σ' H',Inv (blk X scope own fr s3 (upd H2 p (.lst [])) fp) [] σ' H' s'∧tn i s'.heap∧(∀ b∈fp,H' b=none)∧W i n σ' H') ?_ m0 ⟨0,_,_,I4,st4,fpn,w0⟩
  rintro n s6 ⟨i,σ6,H6,I6,st6,fr6,w6⟩
  rcases turn i n σ6 H6 w6 with ⟨stop,qn⟩ | ⟨go,N,hN,step⟩
  ·refine thn (T.done (blk X scope own fr s3 (upd H2 p (.lst [])) fp) rfl rfl rfl hc i [] s6 σ6 H6 _ I6 (stat (pn:=[]) I6 fr6) st6 stop) fun r s7 ⟨hr,I7⟩=>?_
   subst hr
   obtain ⟨m,hm,_⟩:=I7.loc
   exact fin p _ H6 s7 m hm I7.free (Nat.ne_of_gt I3.lt) nocells I3.sz (fun p hp=>Nat.ne_of_lt (Heap.lt_size (I3.pin p hp).1)) (blk_back I3 fo I7 (Heap.SameBut.refl ..)) (fun h' hs'=>blk_back I3 fo I7 hs') qn
  ·refine thn (T.item (blk X scope own fr s3 (upd H2 p (.lst [])) fp) rfl rfl rfl hc i [] s6 σ6 H6 _ I6 (stat (pn:=[]) I6 fr6) st6 go) fun r s7 ⟨u,hr,h7⟩=>?_
   subst hr
   refine thn h7 fun _ s8 ⟨x,H8,I8,r8,y8,st8,fr8⟩=>?_
   have I8':=I8.pinned (stat (pn:=[]) I8 fr8) (T.obj _ _ st8)
   refine thn (hg _ s8 σ6 H8 x u _ I8' r8 (step x H8 y8)) fun _ s9 ⟨σ9,H9,I9,q9⟩=>?_
   refine thn (ht _ s9 σ9 H9 _ I9 q9) fun ok s10 ⟨H10,I10,q10⟩=>?_
   have again:∀ {H11:Hp} {s11:Shared},Inv (blk X scope own fr s3 (upd H2 p (.lst [])) fp) ([]++pinsAt fp s8.heap) σ9 H11 s11→(∃ m',m' < n∧W (i+1) m' σ9 H11)→
     ∃ m,m < n∧∃ i σ' H',Inv (blk X scope own fr s3 (upd H2 p (.lst [])) fp) [] σ' H' s11∧tn i s11.heap∧(∀ b∈fp,H' b=none)∧W i m σ' H':=fun {H11 s11} I11 ⟨m',hm,w11⟩=>by
    refine ⟨m',hm,i+1,σ9,H11,I11.unpinned,T.keep _ _ _ st8 fun b hb' o e=>(I11.pin (b,o) (List.mem_append_right _ (List.mem_append_right _ (mem_pinsAt hb' e)))).1,fun b hb'=>?_,w11⟩
    obtain ⟨o,e,d⟩:=T.obj _ _ st8 b hb'
    exact (I11.pin (b,o) (List.mem_append_right _ (List.mem_append_right _ (mem_pinsAt hb' e)))).2.1
   cases ok with
   | false=>
    rw [if_neg Bool.false_ne_true] at q10 ⊢
    exact again I10 (hN _ _ q10)
   | true=>
    rw [if_pos rfl] at q10 ⊢
    refine thn (he _ s10 σ9 H10 _ I10 q10) fun yv s11 ⟨y,H11,I11,r11,ys,hys,hlen,q11⟩=>?_
    have ap:=mt_append (X:=blk X scope own fr s3 (upd H2 p (.lst [])) fp) ([]++pinsAt fp s8.heap) s11 σ9 H11 (.ref p) [y] (.ref p) [yv] (fun _ H12=>∃ m',m' < n∧W (i+1) m' σ9 H12) I11 rfl (.cons r11 .nil) ⟨p,ys,y,rfl,rfl,hys,hlen,hN _ _ q11⟩
    exact thn ap fun _ s12 ⟨_,H12,I12,_,q12⟩=>again I12 q12
 refine codeAny_compStart_list (loop _ rfl) (T.self X.A 0 _ _ _ st4 (loop _ rfl))
theorem ps_setcomp {X:Cx} {scope:Scope} {elt tg iter:Expr} {ifs:List Expr} {pos:Pos} {wi:TI} {g:TG} {tt:TT} {te:TE} {i:Nat} {y:Str} {py spos:Pos} (hN:X.N.Nodup) (hi':X.N[i]?=some y) (hy:Loc X.env.scope y) (own:List Str) (fr:List Nat) (hc:X.calm=true) (O:CompOk X scope fr) (hi:PI X.nox tg iter wi)
  (hb:∀ s H ex,PG (blk X.nox scope own fr s H ex) tg g∧PTs (blk X.nox scope own fr s H ex) ifs tt∧PE (blk X.nox scope own fr s H ex) elt te)
  (hs:∀ x,foldedSetIterable iter X.env x=pure x:=by intro _;rfl)
  (hsw:swapsWith (.ListComp elt [⟨tg,iter,ifs,0⟩] scope pos) (some (.Name y py)) spos.line X.env=pure true:=by rfl)
  (hf:X.fn y=true∨X.env.scope.names.lookup y=some .local:=by first | exact .inl rfl | exact .inr rfl | assumption) :
  PS X.nox (.Assign [.Name y py] (.ListComp elt [⟨tg,iter,ifs,0⟩] scope pos) spos) (tAsg (tComp own fr wi g tt te) (gName i)):=by
 intro pins s σ H D I h
 rw [exec_Assign_Name_used _ _ _ _ hsw]
 refine wpAny_bind (wpAny_standAt (wpAny_bind ?_))
 show wpAny _ _ (do let _ ← comprehension (.ListComp elt [⟨tg,iter,ifs,0⟩] scope pos) scope X.nox.env _ (newList []) false (eval iter X.nox.env) (some (assign (.Name y py) X.nox.env))) _ _ s
 refine wpAny_bind (wpAny_mono (comp_run2 (X:=X.nox) (use:=some (assign (.Name y py) X.nox.env)) (R:=fun _ s'=>SP X.nox pins D .next s') hc ⟨O.kind,O.nocell,O.loc,O.frees,O.fr⟩ hi hb hs I h (fun _ _=>Iff.rfl)
  fun p C H' s' m hm hC hL hcs hz hpn I' back q=>?_) (fun _ s' hq=>wpAny_pure (wpAny_pure hq)) fun _ _ e=>e)
 show wpAny _ _ (assign (.Name y py) X.nox.env (.ref p)) _ _ _
 refine wpAny_assign_Name (store_ok2 (v:=.ref p) I' hN hi' hy rfl (fun s2 I2 hsb=>?_) hf)
 obtain ⟨a,hsa,ha⟩:=hsb
 have hCa:C≠a:=by
  rcases ha with rfl | e
  ·exact hL
  ·exact fun z=>hcs _ _ e z.symm
 refine ⟨m,hm.sameBut hsa hCa,fun h' hs'=>?_⟩
 exact ⟨_,H',I2.turned (t':=s2.toks) (fun b o hb e=>(hs'.2 b hb).trans e) hC hL (.inr hz) hcs hpn,q⟩
open PySem PySem.Spec PyProof.Rows
section
variable {X:Cx} {pins:List (Addr×Obj)} {σ:St} {H:Hp} {s:Shared} {tg:Expr}
theorem Inv.relabel {a:Addr} {u v:HO} (I:Inv X pins σ H s) (hu:H a=some u) (h1:∀ xs,u≠.tup xs) (h2:∀ ps,u≠.tbl ps) (h3:∀ o z,X.H₀ a≠some (.frz o z)) (h4:∀ x,u≠.own x) (hv:ObjOk X.prog X.w (upd H a v) s.heap a v):Inv X pins σ (upd H a v) s:=by
 have ne:∀ b,H b=none→b≠a:=fun b n z=>by rw [z,hu] at n;cases n
 have nt:∀ b xs,H b=some (.tup xs)→b≠a:=fun b xs n z=>by rw [z,hu] at n;exact h1 xs (Option.some.inj n)
 have no:∀ b x,H b=some (.own x)→b≠a:=fun b x n z=>by rw [z,hu] at n;exact h4 x (Option.some.inj n)
 refine ⟨I.ok,I.os,I.bare,⟨I.base.keep,I.base.slot,fun b o e n hx=>?_,I.base.there,fun b xs e=>?_,fun b o z e=>?_,fun b ps e=>?_⟩,I.loc,I.cell,?_,fun x c e=>?_,fun p hp=>?_,fun b o e=>?_,I.len⟩
 ·have q:=I.base.free b o e n hx
  rw [upd_ne (ne b q)];exact q
 ·have q:=I.base.tups b xs e
  rw [upd_ne (nt b xs q)];exact q
 ·have hb:b≠a:=fun z'=>by subst z';exact h3 _ _ e
  rw [upd_ne hb]
  exact I.base.frzs b o z e
 ·obtain ⟨m,q⟩:=I.base.tbls b ps e
  have hb:b≠a:=fun z'=>by rw [z',hu] at q;exact h2 _ (Option.some.inj q)
  exact ⟨m,by rw [upd_ne hb];exact q⟩
 ·rw [upd_ne (ne _ I.free)];exact I.free
 ·rw [upd_ne (ne _ (I.freeC x c e))];exact I.freeC x c e
 ·obtain ⟨q1,q2,q3⟩:=I.pin p hp
  exact ⟨q1,by rw [upd_ne (ne _ q2)];exact q2,q3⟩
 ·by_cases hb:b=a
  ·subst hb
   rw [upd_same] at e
   cases e
   exact hv
  ·rw [upd_ne hb] at e
   exact (I.hok b o e).stay (fun _ _ _ q=>q) (fun c q=>by rw [upd_ne (no c _ q)];exact q) fun c xs q=>by rw [upd_ne (nt c xs q)];exact q
def Itd (a:Addr) (o:Obj) (kvs:List (Key×V)):It:=
 ⟨fun i H=>H a=some (.frz o (.dK kvs))∧i < kvs.length,fun i H x H'=>H'=H∧∃ k v,kvs[i]?=some (k,v)∧x=kV k,fun i H=>H a=some (.frz o (.dK kvs))∧kvs.length≤i⟩
theorem kv_getD:∀ {kvs:List (Key×V)} {vs:List (Key×Value)},KV kvs vs→∀ {i:Nat} {k:Key} {v:V},kvs[i]?=some (k,v)→∃ u,vs[i]?=some (k,u)
 | [],[],_,i,k,v,e=>by simp at e
 | p :: r,q :: t,h,i,k,v,e=>by
  unfold KV at h
  cases h with
  | cons h1 h2=>
   cases i with
   | zero=>
    have:p=(k,v):=by simpa using e
    subst this
    obtain ⟨q1,q2⟩:=q
    have e1:k=q1:=h1.1
    subst e1
    exact ⟨q2,by simp⟩
   | succ j=>
    obtain ⟨u,e2⟩:=kv_getD (kvs:=r) (vs:=t) h2 (i:=j) (k:=k) (v:=v) (by simpa using e)
    exact ⟨u,by simpa using e2⟩
theorem dict_at {P:Program} {w:World} {H:Hp} {h:Heap} {a:Addr} {o:Obj} {kvs:List (Key×V)} {es0:Array DictEntry} {ep:Nat} (hd:o.data=.dict es0 ep) (x:ObjOk P w H h a (.frz o (.dK kvs))):∃ vs,KV kvs vs∧h.DictAt (mixKind P w) a vs ep:=by
 obtain ⟨e,_,_,vs,r,o',es,ep',e',c1,c2,c3⟩:=x
 rw [e] at e'
 cases e'
 rw [hd] at c2
 cases c2
 exact ⟨vs,r,o,_,e,c1,hd,c3⟩
theorem turn_dict {P:Program} {w:World} {K:PySem.W.Frag} (a it:Addr) {o:Obj} {kvs:List (Key×V)} {es0:Array DictEntry} {ep:Nat} (hd:o.data=.dict es0 ep):Turn P w K tg (Itd a o kvs) [it] it (fun i h=>h.IsKeyIter it a i kvs.length ep) where
 mem:=by simp
 obj:=fun i h st b hb=>by
  have e:b=it:=by simpa using hb
  subst e
  obtain ⟨o,e,c,d⟩:=st
  exact ⟨o,e,fun v z=>by rw [d] at z;cases z⟩
 keep:=fun i h h' st k=>by
  obtain ⟨o,e,c,d⟩:=st
  exact ⟨o,k it (by simp) o e,c,d⟩
 item:=by
  intro X hP hw hK hc i pins s σ H E I hf st hg
  subst hP hw hK
  obtain ⟨hq,hi⟩:=hg
  obtain ⟨vs,rv,da⟩:=dict_at hd (I.hok a _ hq)
  obtain ⟨k,v⟩:∃ kv,kvs[i]?=some kv:=⟨_,List.getElem?_eq_getElem hi⟩
  obtain ⟨k,v'⟩:=k
  obtain ⟨u,hu⟩:=kv_getD rv v
  obtain ⟨f0,f1,f2,f3,f4,f5⟩:=hf it (by simp)
  have hl:kvs.length=vs.length:=rv.length
  rw [hl] at st
  refine wpAny_pyNext_dict_item st da hu fun key h' hk st' sb=>?_
  have I1:Inv X pins σ H { s with heap:=h' }:=I.turned (t':=s.toks) (fun b o hb e=>(sb.2 b hb).trans e) f0 f1 f3 f4 f5
  obtain ⟨ob,e,c,d⟩:=id st'
  have rk:RelV (kV k) key:=by
   rcases keyIs_shape (show keyIs k key=true from hk) with ⟨j,t,rfl,rfl⟩ | ⟨y,t,rfl,rfl⟩
   ·exact ⟨t,rfl⟩
   ·exact ⟨t,rfl⟩
  rw [← hl] at st'
  exact ⟨key,rfl,go_of (s:={ s with heap:=h' }) e c d (by decide) ⟨kV k,H,I1,rk,⟨rfl,k,v',v,rfl⟩,st',fun b hb=>(hf b hb).1⟩⟩
 done:=by
  intro X hP hw hK hc i pins s σ H E I hf st hg
  subst hP hw hK
  obtain ⟨hq,hi⟩:=hg
  obtain ⟨vs,rv,da⟩:=dict_at hd (I.hok a _ hq)
  obtain ⟨f0,f1,f2,f3,f4,f5⟩:=hf it (by simp)
  have hl:kvs.length=vs.length:=rv.length
  rw [hl] at st
  exact wpAny_pyNext_dict_end (I.ok.hd hc) st da (List.getElem?_eq_none (by omega)) fun h' eb=>⟨rfl,I.turned (t':=s.toks) (fun b o hb e=>eb b o hb e) f0 f1 f3 f4 f5⟩
 self:=fun _ _ _ _ _ st h=>wpAny_pyIter_keyiter st h
def iDict (tl:TE):TI:=fun σ H R=>tl σ H fun x H1=>∃ a kvs,x=.ref a∧H1 a=some (.dK kvs)∧∀ o,R (Itd a o kvs) (upd H1 a (.frz o (.dK kvs)))
theorem pi_dict {l:Expr} {tl:TE} (hl:PE X l tl):PI X tg l (iDict tl):=by
 intro pins s σ H R I h
 refine thn (hl pins s σ H _ I h) fun v s1 ⟨x,H1,I1,r1,q1⟩=>?_
 obtain ⟨a,kvs,e,hq,q⟩:=q1
 subst e
 cases r1
 have ok:=I1.hok a _ hq
 obtain ⟨z1,z2,vs,rv,o,es,ep,e1,c1,c2,c3⟩:=id ok
 have da:s1.heap.DictAt (mixKind X.prog X.w) a vs ep:=⟨o,es,e1,c1,c2,c3⟩
 have I2:Inv X pins σ (upd H1 a (.frz o (.dK kvs))) s1:=I1.relabel hq (fun _ z=>by cases z) (fun _ z=>by cases z) (fun o' z' e'=>by
  have:=I1.base.frzs a o' z' e'
  rw [hq] at this
  cases this) (fun _ z=>by cases z) ⟨e1,ok.stay (fun _ _ _ q=>q) (fun c q=>by rw [upd_ne (ne_of q hq (by intro z;cases z))];exact q) fun c xs q=>by rw [upd_ne (ne_of q hq (by intro z;cases z))];exact q⟩
 refine wpAny_pyIter_dict z2 da ?_
 have hlen:kvs.length=vs.length:=rv.length
 refine ⟨s1.heap.objs.size,[s1.heap.objs.size],_,_,_,rfl,I2.kept (t':=s1.toks) fun b o e=>Heap.get?_push_of_some _ e,turn_dict a _ c2,⟨_,Heap.get?_push_size _ rfl,rfl,by rw [← hlen];rfl⟩,fun b hb=>?_,q o⟩
 have e:b=s1.heap.objs.size:=by simpa using hb
 subst e
 exact I2.fpOk (Nat.le_refl _) (I2.hok.fresh (Nat.le_refl _))
def tThaw (H₀:Hp) (t:TS):TS:=fun D σ H=>t { D with nx:=fun σ' H'=>∃ a o kvs,H' a=some (.frz o (.dK kvs))∧(∀ o z,H₀ a≠some (.frz o z))∧D.nx σ' (upd H' a (.dK kvs)) } σ H
theorem ps_thaw {st:Stmt} {t:TS} (h:PS X st t):PS X st (tThaw X.H₀ t):=by
 intro pins s σ H D I q
 refine thn (h pins s σ H _ I q) fun f s1 q1=>?_
 cases f with
 | next=>
  obtain ⟨σ',H',I',a,o,kvs,e,hn,q'⟩:=q1
  have ok:=I'.hok a _ e
  exact ⟨σ',_,I'.relabel e (fun _ z=>by cases z) (fun _ z=>by cases z) hn (fun _ z=>by cases z) (ok.2.stay (fun _ _ _ q=>q) (fun c q=>by rw [upd_ne (ne_of q e (by intro z;cases z))];exact q) fun c xs q=>by rw [upd_ne (ne_of q e (by intro z;cases z))];exact q),q'⟩
 | cont=>exact q1
 | brk=>exact q1
 | ret v=>exact q1
theorem for_dict {a:Addr} {o:Obj} {kvs:List (Key×V)} {g:TG} {tb:TS} {D:Ends} {σ:St} {H:Hp} (Pv:Nat→St→Hp→Prop) (h0:Pv 0 σ H) (hl:∀ i σ H,i≤kvs.length→Pv i σ H→H a=some (.frz o (.dK kvs)))
  (hs:∀ i k v σ H,kvs[i]?=some (k,v)→Pv i σ H→g (kV k) σ H fun σ2 H2=>tb { D with nx:=Pv (i+1),ct:=Pv (i+1),bk:=D.nx } σ2 H2) (hd:∀ σ H,Pv kvs.length σ H→D.nx σ H) :
  ∃ W:Nat→Nat→St→Hp→Prop,(∃ m,W 0 m σ H)∧∀ i m σ H,W i m σ H→
   ((Itd a o kvs).stop i H∧D.nx σ H)∨((Itd a o kvs).go i H∧∃ N:St→Hp→Prop,(∀ σ' H',N σ' H'→∃ m',m' < m∧W (i+1) m' σ' H')∧∀ x H',(Itd a o kvs).yld i H x H'→g x σ H' fun σ2 H2=>tb { D with nx:=N,ct:=N,bk:=D.nx } σ2 H2):=by
 refine ⟨fun i m σ H=>m=kvs.length - i∧i≤kvs.length∧Pv i σ H,⟨kvs.length,by simp,Nat.zero_le _,h0⟩,?_⟩
 rintro i m σ H ⟨rfl,hi,p⟩
 have q:=hl i σ H hi p
 by_cases hlt:i < kvs.length
 ·refine .inr ⟨⟨q,hlt⟩,Pv (i+1),fun σ' H' p'=>⟨kvs.length - (i+1),by omega,rfl,hlt,p'⟩,fun x H' y=>?_⟩
  obtain ⟨rfl,k,v,e,rfl⟩:=y
  exact hs i k v σ _ e p
 ·have:i=kvs.length:=by omega
  subst this
  exact .inl ⟨⟨q,Nat.le_refl _⟩,hd σ H p⟩
end
end L2
namespace HT
open PySem PySem.Spec PyProof.Rows L2
open PySem.SeqAt
open PySem.AutoSeq1 (wpAny_loadPart')
open PySem.MeetsSeq PySem.MeetsSeq2 PySem.MeetsSeq3
section
variable {prog:Program} {w:World} {A:Around} {E:Value→Shared→Prop} {s:Shared}
theorem getItem_tuple_whole {t sl:Addr} {items:Array Value} {vl vu:Value} {lo hi:Option Int} {Q:Value→Shared→Prop} (ht:IsTup s.heap t items) (hs:s.heap.IsSliceOf sl vl vu .none) (pl:IsPart vl lo) (pu:IsPart vu hi)
  (hw:sIx items.size 0 lo=0∧sIx items.size items.size hi=items.size) (h:Q (.ref t) s):wpAny (model prog w) A (getItem (.ref t) (.ref sl)) Q E s:=by
 obtain ⟨os,hos,hcs,hds⟩:=id hs
 have hTs:s.TypeIs (.ref sl) "slice":=⟨os,hos,hcs⟩
 unfold getItem
 try with_reducible refine wpAny_holding ?_
 first | refine wpAny_bind (wpAny_pure ?_) | skip
 refine wpAny_bind (wpAny_sequenceKey ht.typeIs (by decide) ?_)
 refine wpAny_bind (wpAny_callSpecial?_slot (name:=Str.ofString "__getitem__") ht.typeIs PyProof.Rows.slot_tuple_getitem
  (wpAny_call_entry PyProof.Rows.slot_tuple_getitem ht.typeIs entry_tuple_getitem ?_ (args_tuple_getitem _ _)))
 show wpAny _ _ (Builtin.Tuple.tupleItemsOf (.ref t) >>= _) _ _ s
 refine wpAny_bind (tupleItemsOf_ ht ?_)
 refine wpAny_bind (wpAny_typeOf hTs ?_)
 rw [if_pos (by decide)]
 refine wpAny_bind (sliceApplied_gen hs pl pu ?_)
 have hyes:(((sIx items.size 0 lo:Nat):Int) == 0 && (1:Int) == 1 && (sIx items.size items.size hi - sIx items.size 0 lo) == items.size)=true:=by
  rw [hw.1,hw.2]
  simp
 show wpAny _ _ (if (((sIx items.size 0 lo:Nat):Int) == 0 && (1:Int) == 1 && (sIx items.size items.size hi - sIx items.size 0 lo) == items.size)=true then _ else _) _ _ s
 rw [if_pos hyes]
 refine wpAny_bind ?_
 unfold Builtin.Tuple.tupleIsExact
 first
  | refine wpAny_bind (wpAny_typeOf ht.typeIs (wpAny_pure ?_))
  | trace_state
 rw [if_pos (by decide)]
 refine wpAny_bind (wpAny_rule ?_)
 exact wpAny_pure ⟨_,rfl,wpAny_pure h⟩
end
end HT
namespace L2
open PySem PySem.Spec PyProof.Rows
def rSlTA (K:PySem.W.Frag):V→Option Int→Option Int→Hp→VK→Prop:=fun x lo hi H Q=>∃ a xs,x=.ref a∧SqT K H a xs∧
 ((HT.sIx xs.length 0 lo=0∧HT.sIx xs.length xs.length hi=xs.length)→Q (.ref a) H)∧(¬ (HT.sIx xs.length 0 lo=0∧HT.sIx xs.length xs.length hi=xs.length)→∀ p,H p=none→Q (.ref p) (upd H p (.tup (cutV xs lo hi))))
theorem sl_tupA {X:Cx}:SlR X (rSlTA X.K):=by
 intro pins s σ H x v vl vu lo hi sl Q I rx hs pl pu h
 obtain ⟨a,xs,rfl,hx,q1,q2⟩:=h
 by_cases hw:HT.sIx xs.length 0 lo=0∧HT.sIx xs.length xs.length hi=xs.length
 ·cases rx
  obtain ⟨its,r,ht,hz⟩:=I.tuple hx
  have hlen:its.toArray.size=xs.length:=by rw [List.size_toArray];exact r.length.symm
  refine ⟨"tuple",_,PyProof.Rows.slot_tuple_getitem.lookup,ht.typeIs,?_⟩
  exact HT.getItem_tuple_whole ht hs pl pu (by rw [hlen];exact hw) ⟨.ref a,H,I,rfl,q1 hw⟩
 ·exact sl_tup pins s σ H (.ref a) v vl vu lo hi sl Q I rx hs pl pu ⟨a,xs,rfl,hx,hw,q2 hw⟩
open PySem PySem.Spec PyProof.Rows
theorem cutV_whole {xs:List V} {lo hi:Option Int} (h:HT.sIx xs.length 0 lo=0∧HT.sIx xs.length xs.length hi=xs.length):cutV xs lo hi=xs:=by
 unfold cutV
 rw [h.1,h.2,List.drop_zero,Nat.sub_zero,List.take_length]
def rSlTB (K:PySem.W.Frag):V→Option Int→Option Int→Hp→VK→Prop:=fun x lo hi H Q=>∃ a xs,x=.ref a∧SqT K H a xs∧∀ p H',Same H H'→SqT K H' p (cutV xs lo hi)→Q (.ref p) H'
theorem sl_tupB {X:Cx}:SlR X (rSlTB X.K):=by
 intro pins s σ H x v vl vu lo hi sl Q I rx hs pl pu h
 obtain ⟨a,xs,e,hx,q⟩:=h
 refine sl_tupA pins s σ H x v vl vu lo hi sl Q I rx hs pl pu ⟨a,xs,e,hx,fun hw=>q a H (Same.refl _) (by rw [cutV_whole hw];exact hx),fun _ p hp=>q p _ (fun b u z=>by rw [upd_ne (ne_of_none z hp)];exact z) (SqT.of upd_same)⟩
open PySem PySem.Spec PyProof.Rows
theorem bt_enumerate:bootBuiltins "enumerate" = some (.type "enumerate"):=by decide +kernel
def Ite (K:PySem.W.Frag) (l:Addr):It:=
 ⟨fun i H=>∃ xs x,SqL K H l xs∧xs[i]?=some x,fun i H x H'=>∃ t y,H t=none∧(∀ xs,SqL K H l xs→xs[i]?=some y)∧x=.ref t∧H'=upd H t (.tup [.int i,y]),fun i H=>∃ xs,SqL K H l xs∧xs.length≤i⟩
theorem turn_enum {P:Program} {w:World} {K:PySem.W.Frag} {elts:List Expr} {x1:Nat} {tp:Pos} (l e it:Addr) (hne:e≠it):Turn P w K (.Tuple elts x1 tp) (Ite K l) [e,it] e (fun i h=>(∃ old,IsEnum h e it i old)∧h.IsListIter it l i) where
 mem:=by simp
 obj:=fun i h st b hb=>by
  obtain ⟨⟨old,h1⟩,o,e2,c,d⟩:=st
  rcases List.mem_cons.mp hb with rfl | hb
  ·exact ⟨_,h1,fun v z=>by cases z⟩
  ·rw [List.mem_singleton.mp hb]
   exact ⟨o,e2,fun v z=>by rw [d] at z;cases z⟩
 keep:=fun i h h' st k=>by
  obtain ⟨⟨old,h1⟩,o,e2,c,d⟩:=st
  exact ⟨⟨old,k e (by simp) _ h1⟩,o,k it (by simp) o e2,c,d⟩
 item:=by
  intro X hP hw hK hc i pins s σ H E I hf st hg
  subst hP hw hK
  obtain ⟨xs,x,hq,hx⟩:=hg
  obtain ⟨⟨old,hE⟩,hit⟩:=st
  obtain ⟨its,rv,p,hz⟩:=I.list hq
  obtain ⟨u,hu,ru⟩:=rv.get hx
  obtain ⟨a0,a1,a2,a3,a4,a5⟩:=hf e (by simp)
  obtain ⟨f0,f1,f2,f3,f4,f5⟩:=hf it (by simp)
  refine wpAny_pyNext_enum_item hE hit p.isList (x:=u) (by simpa using hu) hne fun h' o1 o2 o3 o4 o5=>?_
  refine ⟨_,rfl,wpAny_letOwnedTupleGo_enum (s:={ s with heap:=h',toks:=s.toks+1 }) o1 fun h2 g1 g2=>?_⟩
  have hfr:H s.heap.objs.size=none:=I.hok.fresh (Nat.le_refl _)
  have kp:∀ b o,b≠e→b≠it→s.heap.get? b=some o→h2.get? b=some o:=fun b o hb hb' q=>(g2.2 b hb).trans (o5 b o hb hb' q)
  have nt:∀ b o,s.heap.get? b=some o→b≠s.heap.objs.size:=fun b o q=>Nat.ne_of_lt (Heap.lt_size q)
  have ne:∀ b z,H b=some z→b≠e∧b≠it:=fun b z q=>⟨fun t=>(by rw [t,a0] at q;cases q),fun t=>(by rw [t,f0] at q;cases q)⟩
  have het:s.heap.objs.size≠e:=fun z=>absurd (Heap.lt_size hE) (by rw [← z];exact Nat.lt_irrefl _)
  have I1:Inv X pins σ (upd H s.heap.objs.size (.tup [.int i,x])) { s with heap:=h2,gens:=s.gens,drawn:=s.drawn,toks:=s.toks+1 }:=by
   refine I.step (g':=s.gens) (d':=s.drawn) (ch:=[e,it]) (fun b hb=>?_) (fun b o _ _ hc' q _=>kp b o (fun z=>hc' (by simp [z])) (fun z=>hc' (by simp [z])) q) (fun b o _ _ hc' q _=>⟨o.slots,kp b o (fun z=>hc' (by simp [z])) (fun z=>hc' (by simp [z])) q⟩)
    (fun b o _ q n=>by rw [upd_ne (nt b o q)];exact n) (fun b o hc' q=>⟨o,kp b o (fun z=>hc' (by simp [z])) (fun z=>hc' (by simp [z])) q⟩) (fun b ys q=>by rw [upd_ne (ne_of_none q hfr)];exact q) (fun b o z q=>by rw [upd_ne (ne_of_none q hfr)];exact q)
    (fun b ps q=>⟨#[],by rw [upd_ne (ne_of_none q hfr),q];simp⟩) (fun m hm=>?_) (fun b z q=>?_) I.bare
   ·rcases List.mem_cons.mp hb with rfl | hb
    ·exact ⟨a3,a1,a4,a5⟩
    ·rw [List.mem_singleton.mp hb];exact ⟨f3,f1,f4,f5⟩
   ·obtain ⟨o,es,ep,ho,r⟩:=hm
    exact ⟨o,es,ep,kp _ o (Ne.symm a1) (Ne.symm f1) ho,r⟩
   ·by_cases hb:b=s.heap.objs.size
    ·subst hb
     rw [upd_same] at q
     cases q
     refine ⟨?_,[Value.int (i:Int) s.toks,u],.cons ⟨_,rfl⟩ (.cons ru .nil),_,(g2.2 _ het).trans o3,rfl,0,rfl⟩
     show 2≤sizeLine
     rw [sizeLine_eq]
     decide
    ·rw [upd_ne hb] at q
     refine (I.hok b z q).stay (fun c v hc' q'=>?_) (fun c q'=>by rw [upd_ne (ne_of_none q' hfr)];exact q') fun c ys q'=>by rw [upd_ne (ne_of_none q' hfr)];exact q'
     rcases hc' with rfl | hc'
     ·exact kp c v (ne c z q).1 (ne c z q).2 q'
     ·exact kp c v (ne c _ hc').1 (ne c _ hc').2 q'
  refine ⟨.ref s.heap.objs.size,_,I1,rfl,⟨_,x,hfr,fun ys hy=>by rw [I.list_inj hy hq];exact hx,rfl,rfl⟩,⟨⟨_,g1⟩,?_⟩,fun b hb=>?_⟩
  ·obtain ⟨o,z1,z2,z3⟩:=o2
   exact ⟨o,(g2.2 it (Ne.symm hne)).trans z1,z2,z3⟩
  ·rcases List.mem_cons.mp hb with rfl | hb
   ·rw [upd_ne (Ne.symm het)];exact a0
   ·rw [List.mem_singleton.mp hb]
    have:it≠s.heap.objs.size:=by
     obtain ⟨o,z1,_⟩:=hit
     exact nt it o z1
    rw [upd_ne this];exact f0
 done:=by
  intro X hP hw hK hc i pins s σ H E I hf st hg
  subst hP hw hK
  obtain ⟨xs,hq,hx⟩:=hg
  obtain ⟨⟨old,hE⟩,hit⟩:=st
  obtain ⟨its,rv,p,hz⟩:=I.list hq
  obtain ⟨f0,f1,f2,f3,f4,f5⟩:=hf it (by simp)
  have hl:=rv.length
  exact wpAny_pyNext_enum_end (I.ok.hd hc) hE hit p.isList (by simp;omega) fun h' eb=>⟨rfl,I.turned (t':=s.toks) (fun b o hb e=>eb b o hb e) f0 f1 f3 f4 f5⟩
 self:=fun _ _ _ _ _ st h=>by
  obtain ⟨⟨old,hE⟩,_⟩:=st
  exact wpAny_pyIter_enum hE h
section
variable {X:Cx} {elts:List Expr} {x1:Nat} {tp:Pos}
def iEnum (K:PySem.W.Frag) (ta:TA):TI:=fun σ H R=>ta σ H fun vs H1=>∃ l,vs=[.ref l]∧(∃ xs,SqL K H1 l xs)∧R (Ite K l) H1
theorem pi_enum {a:Expr} {ta:TA} {p pos:Pos} (hg:Gl X "enumerate") (hm:X.mg "enumerate" = none) (ha:PA X [a] ta) (hs:starEach [a] X.env=[(false,eval a X.env)]:=by rfl):PI X (.Tuple elts x1 tp) (.Call (.Name "enumerate" p) [a] [] pos) (iEnum X.K ta):=by
 intro pins s σ H R I h
 refine Call_ (ld_blt I hg hm bt_enumerate (PyProof.Rows.callWith_type1 (thn (ha pos pins s σ H _ I h) fun us s1 ⟨vs,H1,I1,r1,q1⟩=>?_) hs rfl))
 obtain ⟨l,e,⟨xs,hq⟩,q⟩:=q1
 subst e
 obtain ⟨u,rfl,rx⟩:=vals1 r1
 cases rx
 obtain ⟨its,rv,pl,hz⟩:=I1.list hq
 refine call_enumerate_list pl.isList fun h' g1 g2 g3 g4=>?_
 refine wpAny_pyIter_enum (s:={ s1 with heap:=h' }) g1 ?_
 have I2:Inv X pins σ H1 { s1 with heap:=h' }:=I1.kept (t':=s1.toks) g4
 refine ⟨s1.heap.objs.size+1,[s1.heap.objs.size+1,s1.heap.objs.size],_,_,_,rfl,I2,turn_enum l _ _ (Nat.succ_ne_self _),⟨⟨_,g1⟩,g2⟩,fun b hb=>?_,q⟩
 rcases List.mem_cons.mp hb with rfl | hb
 ·exact I1.fpOk (Nat.le_succ _) (I1.hok.fresh (Nat.le_succ _))
 ·rw [List.mem_singleton.mp hb]
  exact I1.fpOk (Nat.le_refl _) (I1.hok.fresh (Nat.le_refl _))
theorem for_enum {K:PySem.W.Frag} {l:Addr} {xs:List V} {g:TG} {tb:TS} {D:Ends} {σ:St} {H:Hp} (Pv:Nat→St→Hp→Prop) (h0:Pv 0 σ H) (hl:∀ i σ H,i≤xs.length→Pv i σ H→SqL K H l xs)
  (hs:∀ i y σ H t,xs[i]?=some y→Pv i σ H→H t=none→g (.ref t) σ (upd H t (.tup [.int i,y])) fun σ2 H2=>tb { D with nx:=Pv (i+1),ct:=Pv (i+1),bk:=D.nx } σ2 H2) (hd:∀ σ H,Pv xs.length σ H→D.nx σ H) :
  ∃ W:Nat→Nat→St→Hp→Prop,(∃ m,W 0 m σ H)∧∀ i m σ H,W i m σ H→
   ((Ite K l).stop i H∧D.nx σ H)∨((Ite K l).go i H∧∃ N:St→Hp→Prop,(∀ σ' H',N σ' H'→∃ m',m' < m∧W (i+1) m' σ' H')∧∀ x H',(Ite K l).yld i H x H'→g x σ H' fun σ2 H2=>tb { D with nx:=N,ct:=N,bk:=D.nx } σ2 H2):=by
 refine ⟨fun i m σ H=>m=xs.length - i∧i≤xs.length∧Pv i σ H,⟨xs.length,by simp,Nat.zero_le _,h0⟩,?_⟩
 rintro i m σ H ⟨rfl,hi,p⟩
 have q:=hl i σ H hi p
 by_cases hlt:i < xs.length
 ·refine .inr ⟨⟨xs,xs[i],q,by simp [hlt]⟩,Pv (i+1),fun σ' H' p'=>⟨xs.length - (i+1),by omega,rfl,hlt,p'⟩,fun x H' y=>?_⟩
  obtain ⟨t,z,ht,hz,rfl,rfl⟩:=y
  exact hs i z σ H t (hz xs q) p ht
 ·have:i=xs.length:=by omega
  subst this
  exact .inl ⟨⟨xs,q,Nat.le_refl _⟩,hd σ H p⟩
end
end L2
namespace LW
open PySem L2
def top (i:Nat):Stmt:=PySem.Challenge.pw_outlineward_k42_barred_at_the_first.main.body.getD i (.Pass ⟨0,0,0,0⟩)
def Keep (a:Addr) (H H':Hp):Prop:=∀ b o,b≠a→H b=some o→H' b=some o
theorem same_new {H:Hp} {p:Addr} (h:H p=none) (o:HO):Same H (upd H p o):=fun b u q=>by rw [upd_ne (ne_of_none q h)];exact q
theorem small {n:Nat} (h:n≤1000):n≤sizeLine:=Nat.le_of_lt (small1000 h)
theorem sm {n:Nat} (h:n.ble 1000=true):n≤sizeLine:=small (Nat.le_of_ble_eq_true h)
theorem at_map {ns:List Int} {k:Int} (h0:0≤k) (h:k < (ns.length:Int)):atI (ns.map V.int) k=some (.int (ns.getD k.toNat 0)):=by
 have hk:k.toNat < ns.length:=by omega
 have ek:k=((k.toNat:Nat):Int):=by omega
 have q:atI (ns.map V.int) ((k.toNat:Nat):Int)=some (.int (ns.getD k.toNat 0)):=atI_nat (by rw [List.getElem?_map,List.getElem?_eq_getElem hk,List.getD_eq_getElem?_getD,List.getElem?_eq_getElem hk] <;> rfl)
 rw [← ek] at q
 exact q
def heldN (base:Int) (ps:List (Int×Int)) (p:Int):Int:=ps.foldl (fun f q=>if q.1≤p then q.2 else f) base
theorem heldN_nil (b p:Int):heldN b [] p=b:=rfl
theorem heldN_snoc (b:Int) (ps:List (Int×Int)) (q:Int×Int) (p:Int):heldN b (ps++[q]) p=if q.1≤p then q.2 else heldN b ps p:=by unfold heldN;rw [List.foldl_append];rfl
theorem heldN_none {p:Int}:∀ {ps:List (Int×Int)} {b:Int},(∀ q∈ps,¬ q.1≤p)→heldN b ps p=b
 | [],_,_=>rfl
 | q :: r,b,h=>by
  show heldN (if q.1≤p then q.2 else b) r p=b
  rw [if_neg (h q List.mem_cons_self)]
  exact heldN_none fun q hq=>h q (List.mem_cons_of_mem _ hq)
theorem heldN_all {p:Int}:∀ {ps:List (Int×Int)} {b:Int},(∀ q∈ps,q.1≤p)→heldN b ps p=((ps.getLast?).map (·.2)).getD b
 | [],_,_=>rfl
 | [q],b,h=>by
  show (if q.1≤p then q.2 else b)=q.2
  rw [if_pos (h q List.mem_cons_self)]
 | q :: q' :: r,b,h=>by
  show heldN (if q.1≤p then q.2 else b) (q' :: r) p=_
  rw [heldN_all fun q hq=>h q (List.mem_cons_of_mem _ hq),List.getLast?_cons_cons]
  cases e:(q' :: r).getLast? with
  | none=>simp at e
  | some z=>rfl
theorem heldN_append (b:Int) (ps qs:List (Int×Int)) (p:Int):heldN b (ps++qs) p=heldN (heldN b ps p) qs p:=by unfold heldN;rw [List.foldl_append]
def Cut (ps:List (Int×Int)) (p:Int) (c:Nat):Prop:=c≤ps.length∧(∀ i (h:i < ps.length),i < c→ps[i].1≤p)∧∀ i (h:i < ps.length),c≤i→p < ps[i].1
theorem held_cut {b p:Int} {ps:List (Int×Int)} {c:Nat} (h:Cut ps p c):heldN b ps p=if c=0 then b else (ps.getD (c - 1) (0,0)).2:=by
 obtain ⟨h1,h2,h3⟩:=h
 have e:ps=ps.take c++ps.drop c:=(List.take_append_drop c ps).symm
 have a1:∀ q∈ps.take c,q.1≤p:=fun q hq=>by
  obtain ⟨i,hi,rfl⟩:=List.mem_iff_getElem.mp hq
  rw [List.length_take] at hi
  rw [List.getElem_take]
  exact h2 i (by omega) (by omega)
 have a2:∀ q∈ps.drop c,¬ q.1≤p:=fun q hq=>by
  obtain ⟨i,hi,rfl⟩:=List.mem_iff_getElem.mp hq
  rw [List.length_drop] at hi
  rw [List.getElem_drop]
  have:=h3 (c+i) (by omega) (by omega)
  omega
 have e2:heldN b ps p=heldN b (ps.take c++ps.drop c) p:=congrArg (fun z=>heldN b z p) e
 rw [e2,heldN_append,heldN_none a2,heldN_all a1]
 by_cases h0:c=0
 ·subst h0
  rfl
 ·rw [if_neg h0,List.getLast?_eq_getElem?,List.length_take,Nat.min_eq_left h1,List.getElem?_take,if_pos (by omega),List.getElem?_eq_getElem (by omega),List.getD_eq_getElem?_getD,List.getElem?_eq_getElem (by omega)]
  rfl
abbrev Rising (ps:List (Int×Int)):Prop:=ps.Pairwise (fun x y=>x.1 < y.1)
theorem rising_lt {ps:List (Int×Int)} (h:Rising ps) {i j:Nat} (hi:i < ps.length) (hj:j < ps.length) (l:i≤j):ps[i].1≤ps[j].1:=by
 rcases Nat.lt_or_ge i j with k | k
 ·exact Int.le_of_lt (List.pairwise_iff_getElem.mp h i j hi hj k)
 ·have:i=j:=by omega
  subst this
  exact Int.le_refl _
def StepsAt (K:PySem.W.Frag) (H:Hp) (qs:List V) (ps:List (Int×Int)):Prop:=qs.length=ps.length∧∀ i (h:i < ps.length),∃ c,qs[i]?=some (.ref c)∧SqT K H c [.int ps[i].1,.int ps[i].2]
structure RowAt (K:PySem.W.Frag) (H:Hp) (v:V) (r:Int×List (Int×Int)):Prop where
 ex:∃ a b qs,v=.ref a∧SqT K H a [.int r.1,.ref b]∧SqT K H b qs∧StepsAt K H qs r.2
theorem StepsAt.mono {K:PySem.W.Frag} {H H':Hp} {qs:List V} {ps:List (Int×Int)} (e:Same H H') (h:StepsAt K H qs ps):StepsAt K H' qs ps:=⟨h.1,fun i hi=>by
 obtain ⟨c,e1,e2⟩:=h.2 i hi
 exact ⟨c,e1,e.sqT e2⟩⟩
theorem RowAt.mono {K:PySem.W.Frag} {H H':Hp} {v:V} {r:Int×List (Int×Int)} (e:Same H H') (h:RowAt K H v r):RowAt K H' v r:=by
 obtain ⟨a,b,qs,e1,e2,e3,e4⟩:=h.ex
 exact ⟨a,b,qs,e1,e.sqT e2,e.sqT e3,e4.mono e⟩
def RowOk (r:Int×List (Int×Int)):Prop:=Rising r.2∧r.2.length≤600
def stN (base:Int) (ps:List (Int×Int)):Int×List (Int×Int):=ps.foldl (fun st q=>if q.2=st.1 then st else (q.2,st.2++[q])) (base,[])
theorem stN_snoc (base:Int) (ps:List (Int×Int)) (q:Int×Int):stN base (ps++[q])=if q.2=(stN base ps).1 then stN base ps else (q.2,(stN base ps).2++[q]):=by unfold stN;rw [List.foldl_append];rfl
theorem stN_take {base:Int} {ps:List (Int×Int)} {i:Nat} (h:i < ps.length):stN base (ps.take (i+1))=if ps[i].2=(stN base (ps.take i)).1 then stN base (ps.take i) else (ps[i].2,(stN base (ps.take i)).2++[ps[i]]):=by
 rw [List.take_succ,List.getElem?_eq_getElem h]
 exact stN_snoc _ _ _
theorem stN_len (base:Int) (ps:List (Int×Int)):(stN base ps).2.length≤ps.length:=by
 have key:∀ (ps:List (Int×Int)) (st:Int×List (Int×Int)),(ps.foldl (fun st q=>if q.2=st.1 then st else (q.2,st.2++[q])) st).2.length≤st.2.length+ps.length:=by
  intro ps
  induction ps with
  | nil=>intro st;exact Nat.le_refl _
  | cons q r ih=>
   intro st
   rw [List.foldl_cons]
   refine Nat.le_trans (ih _) ?_
   split
   ·simp
   ·simp;omega
 have:=key ps (base,[])
 simpa [stN] using this
def rowD (base:Int) (ps:List (Int×Int)):D:=.tup [.int base,.tup (ps.map pD)]
theorem heldL_snoc {H:Hp}:∀ {ds:List D} {vs:List V} {d:D} {v:V},HeldL H ds vs→Held H d v→HeldL H (ds++[d]) (vs++[v])
 | [],vs,d,v,h,hv=>by
  unfold HeldL at h
  subst h
  exact heldL_cons hv heldL_nil
 | d' :: ds,vs,d,v,h,hv=>by
  unfold HeldL at h
  obtain ⟨u,r,rfl,h1,h2⟩:=h
  exact heldL_cons h1 (heldL_snoc h2 hv)
mutual
theorem held_tk {H H':Hp} (e:∀ b xs,H b=some (.tup xs)→H' b=some (.tup xs)):∀ {d:D} {v:V},Held H d v→Held H' d v
 | .int i,v,h=>by unfold Held at h ⊢;exact h
 | .str x,v,h=>by unfold Held at h ⊢;exact h
 | .tup ds,v,h=>by
  unfold Held at h ⊢
  obtain ⟨a,xs,e1,e2,e3⟩:=h
  exact ⟨a,xs,e1,e a _ e2,heldL_tk e e3⟩
theorem heldL_tk {H H':Hp} (e:∀ b xs,H b=some (.tup xs)→H' b=some (.tup xs)):∀ {ds:List D} {vs:List V},HeldL H ds vs→HeldL H' ds vs
 | [],vs,h=>by unfold HeldL at h ⊢;exact h
 | d :: ds,vs,h=>by
  unfold HeldL at h ⊢
  obtain ⟨v,r,e1,e2,e3⟩:=h
  exact ⟨v,r,e1,held_tk e e2,heldL_tk e e3⟩
end
def TK (G G':Hp):Prop:=∀ b xs,G b=some (.tup xs)→G' b=some (.tup xs)
theorem TK.trans {G G1 G2:Hp} (h:TK G G1) (h':TK G1 G2):TK G G2:=fun b xs e=>h' b xs (h b xs e)
theorem TK.same {G G':Hp} (h:Same G G'):TK G G':=fun b xs e=>h b _ e
theorem TK.upd {G:Hp} {a:Addr} {o u:HO} (h:G a=some o) (hn:∀ xs,o≠.tup xs):TK G (L2.upd G a u):=fun b xs e=>by
 rw [upd_ne (ne_of e h (fun z=>hn xs z.symm))]
 exact e
theorem TK.heldL {G G':Hp} (h:TK G G') {d:List D} {v:List V} (x:HeldL G d v):HeldL G' d v:=heldL_tk h x
theorem TK.held {G G':Hp} (h:TK G G') {d:D} {v:V} (x:Held G d v):Held G' d v:=held_tk h x
def lastV (b:Int) (L:List (Int×Int)):Int:=((L.getLast?).map (·.2)).getD b
theorem lastV_snoc (b:Int) (L:List (Int×Int)) (x:Int×Int):lastV b (L++[x])=x.2:=by
 unfold lastV
 rw [List.getLast?_concat]
 rfl
theorem snoc_ind {P:List (Int×Int)→Prop} (h0:P []) (h1:∀ L x,P L→P (L++[x])) (L:List (Int×Int)):P L:=by
 have key:∀ M:List (Int×Int),P M.reverse:=by
  intro M
  induction M with
  | nil=>exact h0
  | cons x r ih=>rw [List.reverse_cons];exact h1 _ _ ih
 have:=key L.reverse
 rwa [List.reverse_reverse] at this
theorem st_last (b:Int) (L:List (Int×Int)):(stN b L).1=lastV b L:=by
 refine snoc_ind (P:=fun L=>(stN b L).1=lastV b L) rfl (fun L x ih=>?_) L
 rw [lastV_snoc,stN_snoc]
 split
 ·next h=>exact h.symm
 ·rfl
theorem st_sub (b:Int) (L:List (Int×Int)):(stN b L).2.Sublist L:=by
 refine snoc_ind (P:=fun L=>(stN b L).2.Sublist L) (List.Sublist.refl _) (fun L x ih=>?_) L
 rw [stN_snoc]
 split
 ·exact ih.trans (List.sublist_append_left _ _)
 ·exact ih.append (List.Sublist.refl _)
theorem rising_init {L:List (Int×Int)} {x:Int×Int} (h:Rising (L++[x])):Rising L∧∀ y∈L,y.1 < x.1:=by
 obtain ⟨h1,_,h3⟩:=List.pairwise_append.mp h
 exact ⟨h1,fun y hy=>h3 y hy x (by simp)⟩
theorem held_st (b:Int) (L:List (Int×Int)) (h:Rising L) (p:Int):heldN b (stN b L).2 p=heldN b L p:=by
 refine snoc_ind (P:=fun L=>Rising L→heldN b (stN b L).2 p=heldN b L p) (fun _=>rfl) (fun L x ih h=>?_) L h
 obtain ⟨h1,h2⟩:=rising_init h
 rw [stN_snoc,heldN_snoc]
 split
 ·next e=>
  rw [ih h1]
  split
  ·next hp=>
   rw [heldN_all fun q hq=>by have:=h2 q hq;omega]
   rw [st_last] at e
   exact e.symm
  ·rfl
 ·show heldN b ((stN b L).2++[x]) p=_
  rw [heldN_snoc,ih h1]
def noRep:Int→List (Int×Int)→Prop
 | _,[]=>True
 | b,q :: r=>q.2≠b∧noRep q.2 r
theorem noRep_snoc:∀ {L:List (Int×Int)} {b:Int} {x:Int×Int},noRep b L→x.2≠lastV b L→noRep b (L++[x])
 | [],b,x,_,h=>⟨h,trivial⟩
 | q :: r,b,x,h,hx=>by
  refine ⟨h.1,noRep_snoc h.2 ?_⟩
  intro e
  apply hx
  rw [e]
  unfold lastV
  cases r with
  | nil=>rfl
  | cons q' r'=>
   rw [List.getLast?_cons_cons]
   cases e':(q' :: r').getLast? with
   | none=>simp at e'
   | some z=>rfl
theorem lastV_st (b:Int) (L:List (Int×Int)):lastV b (stN b L).2=(stN b L).1:=by
 refine snoc_ind (P:=fun L=>lastV b (stN b L).2=(stN b L).1) rfl (fun L x ih=>?_) L
 rw [stN_snoc]
 split
 ·exact ih
 ·exact lastV_snoc _ _ _
theorem noRep_st (b:Int) (L:List (Int×Int)):noRep b (stN b L).2:=by
 refine snoc_ind (P:=fun L=>noRep b (stN b L).2) trivial (fun L x ih=>?_) L
 rw [stN_snoc]
 split
 ·exact ih
 ·next h=>
  refine noRep_snoc ih ?_
  rw [lastV_st]
  exact h
structure Canon (b:Int) (L:List (Int×Int)):Prop where
 up:Rising L
 no:noRep b L
theorem canon_st (b:Int) {L:List (Int×Int)} (h:Rising L):Canon b (stN b L).2:=⟨h.sublist (st_sub b L),noRep_st b L⟩
theorem heldN_cons (b:Int) (q:Int×Int) (r:List (Int×Int)) (p:Int):heldN b (q :: r) p=heldN (if q.1≤p then q.2 else b) r p:=rfl
theorem rising_tail {q:Int×Int} {r:List (Int×Int)} (h:Rising (q :: r)):Rising r∧∀ y∈r,q.1 < y.1:=⟨(List.pairwise_cons.mp h).2,(List.pairwise_cons.mp h).1⟩
theorem canon_eq:∀ {L M:List (Int×Int)} {b:Int},Canon b L→Canon b M→(∀ p,heldN b L p=heldN b M p)→L=M
 | [],[],_,_,_,_=>rfl
 | [],y :: M,b,_,hM,h=>by
  have e:=h y.1
  rw [heldN_nil,heldN_cons,if_pos (Int.le_refl _),heldN_none fun q hq=>by have:=(rising_tail hM.up).2 q hq;omega] at e
  exact absurd e.symm hM.no.1
 | x :: L,[],b,hL,_,h=>by
  have e:=h x.1
  rw [heldN_nil,heldN_cons,if_pos (Int.le_refl _),heldN_none fun q hq=>by have:=(rising_tail hL.up).2 q hq;omega] at e
  exact absurd e hL.no.1
 | x :: L,y :: M,b,hL,hM,h=>by
  have rL:=rising_tail hL.up
  have rM:=rising_tail hM.up
  have nL:∀ {c:Int} (p:Int),p≤x.1→heldN c L p=c:=fun p hp=>heldN_none fun q hq=>by have:=rL.2 q hq;omega
  have nM:∀ {c:Int} (p:Int),p≤y.1→heldN c M p=c:=fun p hp=>heldN_none fun q hq=>by have:=rM.2 q hq;omega
  rcases Int.lt_trichotomy x.1 y.1 with c | c | c
  ·have e:=h x.1
   rw [heldN_cons,heldN_cons,if_pos (Int.le_refl _),if_neg (by omega),nL _ (Int.le_refl _),nM _ (by omega)] at e
   exact absurd e hL.no.1
  ·have e:=h x.1
   rw [heldN_cons,heldN_cons,if_pos (Int.le_refl _),if_pos (by omega),nL _ (Int.le_refl _),nM _ (by omega)] at e
   have exy:x=y:=Prod.ext c e
   subst exy
   have:=canon_eq (L:=L) (M:=M) (b:=x.2) ⟨rL.1,hL.no.2⟩ ⟨rM.1,hM.no.2⟩ fun p=>by
    by_cases hp:x.1≤p
    ·have e:=h p
     rw [heldN_cons,heldN_cons,if_pos hp] at e
     exact e
    ·rw [nL p (by omega),nM p (by omega)]
   rw [this]
  ·have e:=h y.1
   rw [heldN_cons,heldN_cons,if_pos (Int.le_refl _),if_neg (by omega),nM _ (Int.le_refl _),nL _ (by omega)] at e
   exact absurd e.symm hM.no.1
theorem held_max (b:Int) (L:List (Int×Int)) (h:Rising L) (p:Int):((∀ y∈L,¬ y.1≤p)∧heldN b L p=b)∨∃ x∈L,x.1≤p∧(∀ y∈L,y.1≤p→y.1≤x.1)∧heldN b L p=x.2:=by
 refine snoc_ind (P:=fun L=>Rising L→((∀ y∈L,¬ y.1≤p)∧heldN b L p=b)∨∃ x∈L,x.1≤p∧(∀ y∈L,y.1≤p→y.1≤x.1)∧heldN b L p=x.2) (fun _=>.inl ⟨fun y hy=>(by cases hy),rfl⟩) (fun L x ih h=>?_) L h
 obtain ⟨h1,h2⟩:=rising_init h
 rw [heldN_snoc]
 by_cases hp:x.1≤p
 ·rw [if_pos hp]
  refine .inr ⟨x,by simp,hp,fun y hy _=>?_,rfl⟩
  rcases List.mem_append.mp hy with hy | hy
  ·have:=h2 y hy;omega
  ·rw [List.mem_singleton.mp hy];exact Int.le_refl _
 ·rw [if_neg hp]
  rcases ih h1 with ⟨a,e⟩ | ⟨z,hz,a1,a2,e⟩
  ·refine .inl ⟨fun y hy=>?_,e⟩
   rcases List.mem_append.mp hy with hy | hy
   ·exact a y hy
   ·rw [List.mem_singleton.mp hy];exact hp
  ·refine .inr ⟨z,List.mem_append_left _ hz,a1,fun y hy hyp=>?_,e⟩
   rcases List.mem_append.mp hy with hy | hy
   ·exact a2 y hy hyp
   ·rw [List.mem_singleton.mp hy] at hyp;exact absurd hyp hp
theorem mem_rising_eq {L:List (Int×Int)} (h:Rising L) {x y:Int×Int} (hx:x∈L) (hy:y∈L) (e:x.1=y.1):x=y:=by
 obtain ⟨i,hi,rfl⟩:=List.mem_iff_getElem.mp hx
 obtain ⟨j,hj,rfl⟩:=List.mem_iff_getElem.mp hy
 have pw:=List.pairwise_iff_getElem.mp h
 rcases Nat.lt_trichotomy i j with c | c | c
 ·have:=pw i j hi hj c;omega
 ·subst c;rfl
 ·have:=pw j i hj hi c;omega
theorem held_like {b:Int} {L:List (Int×Int)} (h:Rising L) {p q:Int} (hpq:p≤q) (no:∀ y∈L,¬ (p < y.1∧y.1≤q)):heldN b L q=heldN b L p:=by
 rcases held_max b L h q with ⟨a,e⟩ | ⟨z,hz,a1,a2,e⟩
 ·rw [e,heldN_none fun y hy=>by have:=a y hy;omega]
 ·rcases held_max b L h p with ⟨a,_⟩ | ⟨z',hz',b1,b2,e'⟩
  ·exact absurd ⟨by have:=a z hz;omega,a1⟩ (no z hz)
  ·rw [e,e']
   have hzp:z.1≤p:=by have:=no z hz;omega
   have c1:=b2 z hz hzp
   have c2:=a2 z' hz' (by omega)
   rw [mem_rising_eq h hz hz' (by omega)]
def wrN (b:Int) (ps:List (Int×Int)) (c1 c2:Nat) (p v:Int):List (Int×Int):=ps.take c1++[(p,v),(p+1,heldN b ps (p+1))]++ps.drop c2
theorem cut_take {ps:List (Int×Int)} {p:Int} {c:Nat} (h:Cut ps p c):(∀ y∈ps.take c,y.1≤p)∧∀ y∈ps.drop c,p < y.1:=by
 obtain ⟨h1,h2,h3⟩:=h
 refine ⟨fun q hq=>?_,fun q hq=>?_⟩
 ·obtain ⟨i,hi,rfl⟩:=List.mem_iff_getElem.mp hq
  rw [List.length_take] at hi
  rw [List.getElem_take]
  exact h2 i (by omega) (by omega)
 ·obtain ⟨i,hi,rfl⟩:=List.mem_iff_getElem.mp hq
  rw [List.length_drop] at hi
  rw [List.getElem_drop]
  exact h3 (c+i) (by omega) (by omega)
theorem wr_len {b:Int} {ps:List (Int×Int)} {c1 c2:Nat} {p v:Int} (h1:Cut ps (p - 1) c1) (h2:Cut ps (p+1) c2):(wrN b ps c1 c2 p v).length≤ps.length+2:=by
 have:c1≤c2:=by
  rcases Nat.lt_or_ge c2 c1 with c | c
  ·have:=h1.1
   have a:=h1.2.1 c2 (by omega) c
   have b:=h2.2.2 c2 (by omega) (Nat.le_refl _)
   omega
  ·exact c
 have:=h1.1
 have:=h2.1
 unfold wrN
 simp only [List.length_append,List.length_take,List.length_drop,List.length_cons,List.length_nil]
 omega
theorem wr_up {b:Int} {ps:List (Int×Int)} {c1 c2:Nat} {p v:Int} (h:Rising ps) (h1:Cut ps (p - 1) c1) (h2:Cut ps (p+1) c2):Rising (wrN b ps c1 c2 p v):=by
 have t1:=(cut_take h1).1
 have t2:=(cut_take h2).2
 unfold wrN
 refine List.pairwise_append.mpr ⟨List.pairwise_append.mpr ⟨h.sublist (List.take_sublist _ _),?_,fun x hx y hy=>?_⟩,h.sublist (List.drop_sublist _ _),fun x hx y hy=>?_⟩
 ·refine List.pairwise_cons.mpr ⟨fun y hy=>?_,List.pairwise_singleton _ _⟩
  rw [List.mem_singleton.mp hy]
  show p < p+1
  omega
 ·have:=t1 x hx
  rcases List.mem_cons.mp hy with rfl | hy
  ·show x.1 < p;omega
  ·rw [List.mem_singleton.mp hy];show x.1 < p+1;omega
 ·have:=t2 y hy
  rcases List.mem_append.mp hx with hx | hx
  ·have:=t1 x hx;omega
  ·rcases List.mem_cons.mp hx with rfl | hx
   ·show p < y.1;omega
   ·rw [List.mem_singleton.mp hx];show p+1 < y.1;omega
theorem wr_held {b:Int} {ps:List (Int×Int)} {c1 c2:Nat} {p v:Int} (h1:Cut ps (p - 1) c1) (h2:Cut ps (p+1) c2) (q:Int):heldN b (wrN b ps c1 c2 p v) q=if q=p then v else heldN b ps q:=by
 have t1:=cut_take h1
 have t2:=cut_take h2
 have a1:∀ z,heldN b ps z=heldN (heldN b (ps.take c1) z) (ps.drop c1) z:=fun z=>by rw [← heldN_append,List.take_append_drop]
 have a2:∀ z,heldN b ps z=heldN (heldN b (ps.take c2) z) (ps.drop c2) z:=fun z=>by rw [← heldN_append,List.take_append_drop]
 have e:heldN b (wrN b ps c1 c2 p v) q=heldN (if p+1≤q then heldN b ps (p+1) else if p≤q then v else heldN b (ps.take c1) q) (ps.drop c2) q:=by
  unfold wrN
  rw [heldN_append,heldN_append]
  rfl
 rw [e]
 rcases Int.lt_trichotomy q p with c | c | c
 ·rw [if_neg (by omega),if_neg (by omega),if_neg (by omega),heldN_none (fun y hy=>by have:=t2.2 y hy;omega),a1 q,heldN_none (ps:=ps.drop c1) (fun y hy=>by have:=t1.2 y hy;omega)]
 ·rw [if_neg (by omega),if_pos (by omega),if_pos c,heldN_none (fun y hy=>by have:=t2.2 y hy;omega)]
 ·rw [if_pos (by omega),if_neg (by omega),a2 q,a2 (p+1),heldN_none (p:=p+1) (ps:=ps.drop c2) (fun y hy=>by have:=t2.2 y hy;omega),heldN_all (p:=p+1) (ps:=ps.take c2) t2.1,heldN_all (p:=q) (ps:=ps.take c2) fun y hy=>by have:=t2.1 y hy;omega]
def lk (ps:List (Int×Int)) (p:Int):Option Int:=(ps.find? fun q=>decide (q.1=p)).map (·.2)
structure EndsOk (ps pl:List (Int×Int)) (ms:List Int):Prop where
 up:ms.Pairwise (· < ·)
 mem:∀ m,m∈ms↔(∃ q∈ps,q.1=m)∨∃ q∈pl,q.1=m∨q.1+1=m
abbrev sStairs:Stmt:=top 1
abbrev sEntry:Stmt:=top 2
abbrev sWritten:Stmt:=top 3
abbrev sSteps_up_to:Stmt:=top 4
def spSteps (K:PySem.W.Frag):Sp:=fun vs H Q _=>∃ (b:Addr) (p:Int) (qs:List V) (ps:List (Int×Int)),vs=[.ref b,.int p]∧SqT K H b qs∧StepsAt K H qs ps∧Rising ps∧ps.length≤600∧∀ c:Nat,Cut ps p c→Q (.int c) H
def spEntry (K:PySem.W.Frag):Sp:=fun vs H Q _=>∃ (v:V) (p:Int) (r:Int×List (Int×Int)),vs=[v,.int p]∧RowAt K H v r∧RowOk r∧Q (.int (heldN r.1 r.2 p)) H
def spStairs (K:PySem.W.Frag):Sp:=fun vs H Q _=>∃ (base:Int) (p:Addr) (qs:List V) (ps:List (Int×Int)),vs=[.int base,.ref p]∧SqL K H p qs∧PairsL K H qs ps∧Rising ps∧ps.length≤1000∧
 ∀ r H',Same H H'→Held H' (rowD base (stN base ps).2) r→Q r H'
def spWritten (K:PySem.W.Frag):Sp:=fun vs H Q _=>∃ (v:V) (p x b:Int) (ps:List (Int×Int)),vs=[v,.int p,.int x]∧RowAt K H v (b,ps)∧Rising ps∧ps.length≤400∧
 ∀ ps' r H',Same H H'→Canon b ps'→(∀ q,heldN b ps' q=if q=p then x else heldN b ps q)→ps'.length≤ps.length+2→Held H' (rowD b ps') r→Q r H'
theorem held_int_inv {H:Hp} {x:Int} {v:V} (h:Held H (.int x) v):v=.int x:=by unfold Held at h;exact h
theorem held_tup_inv {H:Hp} {ds:List D} {v:V} (h:Held H (.tup ds) v):∃ a xs,v=.ref a∧H a=some (.tup xs)∧HeldL H ds xs:=by unfold Held at h;exact h
theorem heldL_nil_inv {H:Hp} {vs:List V} (h:HeldL H [] vs):vs=[]:=by unfold HeldL at h;exact h
theorem heldL_cons_inv {H:Hp} {d:D} {ds:List D} {vs:List V} (h:HeldL H (d :: ds) vs):∃ v r,vs=v :: r∧Held H d v∧HeldL H ds r:=by unfold HeldL at h;exact h
theorem row_inv {H:Hp} {b:Int} {ps:List (Int×Int)} {v:V} (h:Held H (rowD b ps) v):∃ a c qs,v=.ref a∧H a=some (.tup [.int b,.ref c])∧H c=some (.tup qs)∧HeldL H (ps.map pD) qs:=by
 obtain ⟨a,xs,rfl,ha,h1⟩:=held_tup_inv h
 obtain ⟨v1,r1,rfl,e1,h2⟩:=heldL_cons_inv h1
 obtain ⟨v2,r2,rfl,e2,h3⟩:=heldL_cons_inv h2
 cases heldL_nil_inv h3
 cases held_int_inv e1
 obtain ⟨c,qs,rfl,hb,h4⟩:=held_tup_inv e2
 exact ⟨a,c,qs,rfl,ha,hb,h4⟩
theorem pD_inv {H:Hp} {q:Int×Int} {v:V} (h:Held H (pD q) v):∃ a,v=.ref a∧H a=some (.tup [.int q.1,.int q.2]):=by
 obtain ⟨a,xs,rfl,ha,h1⟩:=held_tup_inv h
 obtain ⟨v1,r1,rfl,e1,h2⟩:=heldL_cons_inv h1
 obtain ⟨v2,r2,rfl,e2,h3⟩:=heldL_cons_inv h2
 cases heldL_nil_inv h3
 cases held_int_inv e1
 cases held_int_inv e2
 exact ⟨a,rfl,ha⟩
theorem steps_held {K:PySem.W.Frag} {H:Hp} {ps:List (Int×Int)} {qs:List V} (hq:HeldL H (ps.map pD) qs):StepsAt K H qs ps:=by
 have hl:=hq.length
 rw [List.length_map] at hl
 refine ⟨hl.symm,fun i hi=>?_⟩
 obtain ⟨v,e1,e2⟩:=hq.get (j:=i) (d:=pD ps[i]) (by rw [List.getElem?_map,List.getElem?_eq_getElem hi];rfl)
 obtain ⟨c,rfl,hc⟩:=pD_inv e2
 exact ⟨c,e1,SqT.of hc⟩
theorem row_at_held {K:PySem.W.Frag} {H:Hp} {b:Int} {ps:List (Int×Int)} {v:V} (h:Held H (rowD b ps) v):RowAt K H v (b,ps):=by
 obtain ⟨a,c,qs,rfl,ha,hb,hq⟩:=row_inv h
 exact ⟨a,c,qs,rfl,SqT.of ha,SqT.of hb,steps_held hq⟩
theorem pairs_app {K:PySem.W.Frag} {H:Hp} {qs qs':List V} {ps ps':List (Int×Int)} (h:PairsL K H qs ps) (h':PairsL K H qs' ps'):PairsL K H (qs++qs') (ps++ps'):=by
 refine ⟨by rw [List.length_append,List.length_append,h.1,h'.1],fun i hi=>?_⟩
 rw [List.length_append] at hi
 by_cases c:i < ps.length
 ·obtain ⟨a,e1,e2⟩:=h.2 i c
  refine ⟨a,?_,?_⟩
  ·rw [List.getElem?_append_left (by rw [h.1];exact c)];exact e1
  ·rw [List.getElem_append_left c];exact e2
 ·obtain ⟨a,e1,e2⟩:=h'.2 (i - ps.length) (by omega)
  refine ⟨a,?_,?_⟩
  ·rw [List.getElem?_append_right (by rw [h.1];omega),h.1];exact e1
  ·rw [List.getElem_append_right (by omega)];exact e2
theorem pairs_take {K:PySem.W.Frag} {H:Hp} {qs:List V} {ps:List (Int×Int)} (h:PairsL K H qs ps) (n:Nat):PairsL K H (qs.take n) (ps.take n):=by
 refine ⟨by rw [List.length_take,List.length_take,h.1],fun i hi=>?_⟩
 rw [List.length_take] at hi
 obtain ⟨a,e1,e2⟩:=h.2 i (by omega)
 exact ⟨a,by rw [List.getElem?_take,if_pos (by omega)];exact e1,by rw [List.getElem_take];exact e2⟩
theorem pairs_drop {K:PySem.W.Frag} {H:Hp} {qs:List V} {ps:List (Int×Int)} (h:PairsL K H qs ps) (n:Nat):PairsL K H (qs.drop n) (ps.drop n):=by
 refine ⟨by rw [List.length_drop,List.length_drop,h.1],fun i hi=>?_⟩
 rw [List.length_drop] at hi
 obtain ⟨a,e1,e2⟩:=h.2 (n+i) (by omega)
 exact ⟨a,by rw [List.getElem?_drop];exact e1,by rw [List.getElem_drop];exact e2⟩
theorem pairs_two {K:PySem.W.Frag} {H:Hp} {a b:Addr} {x y x' y':Int} (h1:H a=some (.tup [.int x,.int y])) (h2:H b=some (.tup [.int x',.int y'])):PairsL K H [.ref a,.ref b] [(x,y),(x',y')]:=by
 refine ⟨rfl,fun i hi=>?_⟩
 match i,hi with
 | 0,_=>exact ⟨a,rfl,SqT.of h1⟩
 | 1,_=>exact ⟨b,rfl,SqT.of h2⟩
theorem pairs_upd {K:PySem.W.Frag} {G:Hp} {l:Addr} {ys:List V} {o:HO} {qs:List V} {ps:List (Int×Int)} (hl:G l=some (.lst ys)) (h:PairsL K G qs ps):PairsL K (upd G l o) qs ps:=⟨h.1,fun i hi=>by
 obtain ⟨c,e1,e2⟩:=h.2 i hi
 refine ⟨c,e1,?_⟩
 rcases e2 with (e2 | ⟨u,e2⟩) | e2
 ·exact .inl (.inl (by rw [upd_ne (ne_of e2 hl (by intro z;cases z))];exact e2))
 ·exact .inl (.inr ⟨u,by rw [upd_ne (ne_of e2 hl (by intro z;cases z))];exact e2⟩)
 ·exact .inr e2⟩
section
variable {P:Program} {w:World} {K:PySem.W.Frag} {mg:Str→Option Value} {base:Heap}
theorem ok_steps {f:Addr} {fd:FuncData} (F:Fun K "steps_up_to" "steps_up_to" sSteps_up_to f fd) (B:Free0 mg):FnOk P w K mg base CX0 1 f fd ["steps","p"] (spSteps K):=by
 have sc:FnScope ["steps","p","low","high","middle"] ["steps","p"] (defScope sSteps_up_to):=⟨rfl,rfl,rfl,by decide +kernel,rfl,by decide +kernel,by decide +kernel⟩
 refine F.ok sc (fun vs H Q E h=>?_) (fun cdv A outer s H vs Q E hr h=>?_)
 ·obtain ⟨b,p,qs,ps,rfl,_⟩:=h
  rfl
 obtain ⟨b,p,qs,ps,rfl,hb,hq,hR,hl,q⟩:=h
 refine ⟨_,(pss_cons (ps_set (i:=2) sc.nd rfl (by first | exact Or.inl rfl | exact Or.inr rfl) pe_int)
   (pss_cons (ps_set (i:=3) sc.nd rfl (by first | exact Or.inl rfl | exact Or.inr rfl) (pe_cB call_len_seq (by rfl) B.len_ bt_len (pa_c (pv 0) pa_nil)))
   (pss_cons (ps_while PassesOwn.never (pt_cmpR op_lt (pv 2) (pv 3) (nomark _)) (pss_cons (ps_set (i:=4) sc.nd rfl (by first | exact Or.inl rfl | exact Or.inr rfl) (pe_op op_fdivB (pe_op op_add (pv 2) (pv 3)) pe_int))
   (pss_one (ps_if (pt_cmpR op_le (pe_ix ix_tup (pe_ix ix_tup (pv 0) (pv 4) (fun _ _=>rfl)) pe_int (fun _ _=>rfl)) (pv 1) (nomark _)) (pss_one (ps_set (i:=2) sc.nd rfl (by first | exact Or.inl rfl | exact Or.inr rfl) (pe_op op_add (pv 4) pe_int))) (pss_one (ps_set (i:=3) sc.nd rfl (by first | exact Or.inl rfl | exact Or.inr rfl) (pv 4)))))))
   (pss_one (ps_ret (pv 2)))))),?_⟩
 refine ⟨_,rfl,b,_,rfl,.inr hb,?_⟩
 have hlen:=hq.1
 refine while_by (fun σ H1=>∃ (lo hi:Nat) (v:Option V),σ=[some (.ref b),some (.int p),some (.int lo),some (.int hi),v]∧H1=H∧lo≤hi∧hi≤ps.length∧(∀ i (h:i < ps.length),i < lo→ps[i].1≤p)∧∀ i (h:i < ps.length),hi≤i→p < ps[i].1)
  (fun σ _=>match σ with | [_,_,some (.int lo),some (.int hi),_]=>(hi - lo).toNat | _=>0) ?_ ?_ ?_
 ·exact ⟨0,ps.length,none,by rw [hlen];rfl,rfl,Nat.zero_le _,Nat.le_refl _,fun i _ h=>by omega,fun i h h'=>by omega⟩
 ·rintro σ H1 ⟨lo,hi,v,rfl,rfl,h1,h2,h3,h4⟩
  refine ⟨_,rfl,_,rfl,_,_,rfl,rfl,_,rfl,?_⟩
  refine ite2 (fun c=>?_) (fun c=>?_)
  ·have c':lo < hi:=by
    have:=of_decide_eq_true c
    omega
   have hm:(((lo:Int)+(hi:Int)) / 2)=(((lo+hi) / 2:Nat):Int):=by omega
   refine ⟨_,rfl,_,rfl,_,_,rfl,rfl,_,_,rfl,rfl,⟨by decide,by decide⟩,?_⟩
   dsimp only
   rw [hm]
   have hmid:(lo+hi) / 2 < ps.length:=by omega
   generalize hg:(lo+hi) / 2=mid at *
   obtain ⟨c1,e1,e2⟩:=hq.2 mid hmid
   refine ⟨_,rfl,_,rfl,b,_,_,_,rfl,rfl,hb,atI_nat e1,c1,_,_,_,rfl,rfl,e2,rfl,_,rfl,_,_,rfl,rfl,_,rfl,?_⟩
   refine ite2 (fun d=>?_) (fun d=>?_)
   ·have d':=of_decide_eq_true d
    refine ⟨_,rfl,_,_,rfl,rfl,⟨mid+1,hi,_,rfl,rfl,by omega,h2,fun i hi' hlt=>?_,h4⟩,?_⟩
    ·exact Int.le_trans (rising_lt hR hi' hmid (by omega)) d'
    ·show ((hi:Int) - ((mid:Int)+1)).toNat < ((hi:Int) - (lo:Int)).toNat
     omega
   ·have d':p < ps[mid].1:=by
     have:¬ ps[mid].1≤p:=fun z=>d (decide_eq_true z)
     omega
    refine ⟨_,rfl,⟨lo,mid,_,rfl,rfl,by omega,by omega,h3,fun i hi' hlt=>?_⟩,?_⟩
    ·exact Int.lt_of_lt_of_le d' (rising_lt hR hmid hi' hlt)
    ·show ((mid:Int) - (lo:Int)).toNat < ((hi:Int) - (lo:Int)).toNat
     omega
  ·have c':¬ lo < hi:=fun z=>c (decide_eq_true (by omega))
   refine ⟨_,rfl,q lo ⟨by omega,h3,fun i h h'=>h4 i h (by omega)⟩⟩
 ·intro σ H1 Q1 Q2 hm h
  obtain ⟨v1,e1,v2,e2,i,j,e3,e4,k,e5,h⟩:=h
  exact ⟨v1,e1,v2,e2,i,j,e3,e4,k,e5,hm _ _ h⟩
theorem ok_entry {f:Addr} {fd:FuncData} (F:Fun K "entry" "entry" sEntry f fd) (F_steps_up_to:Fn P w K mg base 1 "steps_up_to" ["steps","p"] (spSteps K)):FnOk P w K mg base CX0 2 f fd ["row","p"] (spEntry K):=by
 have sc:FnScope ["row","p","base","steps","count"] ["row","p"] (defScope sEntry):=⟨rfl,rfl,rfl,by decide +kernel,rfl,by decide +kernel,by decide +kernel⟩
 refine F.ok sc (fun vs H Q E h=>?_) (fun cdv A outer s H vs Q E hr h=>?_)
 ·obtain ⟨v,p,r,rfl,_⟩:=h
  rfl
 obtain ⟨v,p,r,rfl,hv,⟨hR,hl⟩,q⟩:=h
 obtain ⟨a,b,qs,rfl,ha,hb,hq⟩:=hv.ex
 refine ⟨_,(pss_cons (ps_asg (pv 0) (pg_tup rfl (pgs_cons (pg_name (i:=2) sc.nd rfl (by first | exact Or.inl rfl | exact Or.inr rfl)) (pgs_cons (pg_name (i:=3) sc.nd rfl (by first | exact Or.inl rfl | exact Or.inr rfl)) pgs_nil))))
   (pss_cons (ps_set (i:=4) sc.nd rfl (by first | exact Or.inl rfl | exact Or.inr rfl) (pe_fn F_steps_up_to hr (pa_c (pv 3) (pa_c (pv 1) pa_nil))))
   (pss_cons (ps_if (pt_cmpR op_eq (pv 4) pe_int (nomark _)) (pss_one (ps_ret (pv 2))) pss_nil)
   (pss_one (ps_ret (pe_ix ix_tup (pe_ix ix_tup (pv 3) (pe_op op_sub (pv 4) pe_int) (fun _ _=>rfl)) pe_int (fun _ _=>rfl))))))),?_⟩
 refine ⟨_,rfl,a,_,rfl,ha,rfl,_,_,rfl,_,_,rfl,rfl,?_⟩
 refine ⟨_,rfl,_,rfl,b,p,qs,r.2,rfl,hb,hq,hR,hl,fun c hc=>?_⟩
 rw [held_cut hc] at q
 refine ⟨_,rfl,rfl,_,rfl,ite2 (fun d=>?_) (fun d=>?_)⟩
 ·have d':c=0:=by
   have:=of_decide_eq_true d
   injection this with this
   omega
  rw [if_pos d'] at q
  exact ⟨_,rfl,q⟩
 ·have d':¬ c=0:=fun z=>d (decide_eq_true (by rw [z];rfl))
  rw [if_neg d'] at q
  have hlt:c - 1 < r.2.length:=by have:=hc.1;omega
  obtain ⟨c1,e1,e2⟩:=hq.2 (c - 1) hlt
  have ei:((c:Int) - 1)=((c - 1:Nat):Int):=by omega
  rw [List.getD_eq_getElem?_getD,List.getElem?_eq_getElem hlt] at q
  refine ⟨_,rfl,_,rfl,_,_,rfl,rfl,b,_,_,_,rfl,rfl,hb,(by rw [ei];exact atI_nat e1),c1,_,_,_,rfl,rfl,e2,rfl,?_⟩
  exact q
theorem ok_stairs {f:Addr} {fd:FuncData} (F:Fun K "stairs" "stairs" sStairs f fd) (B:Free0 mg):FnOk P w K mg base CX0 1 f fd ["base","pairs"] (spStairs K):=by
 have sc:FnScope ["base","pairs","steps","ahead","place","value"] ["base","pairs"] (defScope sStairs):=⟨rfl,rfl,rfl,by decide +kernel,rfl,by decide +kernel,by decide +kernel⟩
 refine F.ok sc (fun vs H Q E h=>?_) (fun cdv A outer s H vs Q E hr h=>?_)
 ·obtain ⟨b,p,qs,ps,rfl,_⟩:=h
  rfl
 obtain ⟨b,p,qs2,ps2,rfl,hp,hq,hR,h64,q⟩:=h
 refine ⟨_,(pss_cons (ps_set (i:=2) sc.nd rfl (by first | exact Or.inl rfl | exact Or.inr rfl) (pe_lst pa_nil))
   (pss_cons (ps_set (i:=3) sc.nd rfl (by first | exact Or.inl rfl | exact Or.inr rfl) (pv 0))
   (pss_cons (ps_for PassesOwn.never rfl (pi_list (pe_cB call_sorted_rising (by rfl) B.sorted_ bt_sorted (pa_c (pv 1) pa_nil))) (pg_tup rfl (pgs_cons (pg_name (i:=4) sc.nd rfl (by first | exact Or.inl rfl | exact Or.inr rfl)) (pgs_cons (pg_name (i:=5) sc.nd rfl (by first | exact Or.inl rfl | exact Or.inr rfl)) pgs_nil))) (pss_one (ps_if (pt_cmpR op_ne (pv 5) (pv 3) (nomark _)) (pss_cons (ps_expr (pe_bm PySem.F.plainAttrs_list PySem.F.slot_list_append PySem.F.type_list_append mt_append (pv 2) (pa_c (pe_tup (pa_c (pv 4) (pa_c (pv 5) pa_nil))) pa_nil)))
   (pss_one (ps_set (i:=3) sc.nd rfl (by first | exact Or.inl rfl | exact Or.inr rfl) (pv 5)))) pss_nil)))
   (pss_one (ps_ret (pe_tup (pa_c (pv 0) (pa_c (pe_cT call_tuple_of (by rfl) B.tuple_ bt_tuple (pa_c (pv 2) pa_nil)) pa_nil)))))))),?_⟩
 refine ⟨sm rfl,fun l hl=>?_⟩
 have s1:=same_new hl (.lst [])
 have e1:upd H l (.lst []) l=some (.lst []):=upd_same
 generalize upd H l (.lst [])=H1 at *
 refine ⟨_,rfl,?_⟩
 refine ⟨_,rfl,p,qs2,ps2,rfl,s1.seq hp,hq.mono s1,hR,h64,fun l2 hl2=>?_⟩
 have hq2:=hq.mono s1
 have s2:=same_new hl2 (.lst qs2)
 have e2:upd H1 l2 (.lst qs2) l2=some (.lst qs2):=upd_same
 have nll:l2≠l:=(ne_of_none e1 hl2).symm
 have hq3:=hq2.mono s2
 generalize upd H1 l2 (.lst qs2)=H2 at *
 have hl0:H2 l=some (.lst []):=s2 _ _ e1
 have s12:=s1.trans s2
 have hlen:=hq3.1
 refine ⟨l2,rfl,⟨_,SqL.of e2⟩,for_list (xs:=qs2) (fun i σ G=>∃ u v xs,σ=[some (.int b),some (.ref p),some (.ref l),some (.int (stN b (ps2.take i)).1),u,v]∧Same H G∧PairsL K G qs2 ps2∧G l2=some (.lst qs2)∧G l=some (.lst xs)∧HeldL G ((stN b (ps2.take i)).2.map pD) xs) ⟨none,none,[],rfl,s12,hq3,e2,hl0,heldL_nil⟩ ?_ ?_ ?_⟩
 ·rintro i σ G _ ⟨u,v,xs,rfl,sG,hqG,hG2,hGl,hx⟩
  exact SqL.of hG2
 ·rintro i x σ G hx ⟨u,v,xs,rfl,sG,hqG,hG2,hGl,hxs⟩
  have hi:i < ps2.length:=by
   rw [← hlen]
   exact (List.getElem?_eq_some_iff.mp hx).1
  obtain ⟨c,f1,f2⟩:=hqG.2 i hi
  rw [hx] at f1
  cases f1
  have est:=stN_take (base:=b) hi
  have hsl:(stN b (ps2.take i)).2.length≤i:=by
   have:=stN_len b (ps2.take i)
   rw [List.length_take] at this
   omega
  generalize stN b (ps2.take i)=ST at *
  obtain ⟨ah,st⟩:=ST
  dsimp only at *
  refine ⟨c,_,rfl,f2,rfl,_,_,rfl,_,_,rfl,rfl,?_⟩
  refine ⟨_,rfl,_,rfl,rfl,_,rfl,?_⟩
  by_cases hva:ps2[i].2=ah
  ·rw [if_pos hva] at est
   rw [hva,decide_eq_true rfl]
   refine iteF ?_
   exact ⟨some (.int ps2[i].1),some (.int ah),xs,by rw [est,← hva];rfl,sG,hqG,hG2,hGl,by rw [est];exact hxs⟩
  ·rw [if_neg hva] at est
   rw [decide_eq_false (fun z=>hva (by injection z))]
   refine iteT ?_
   refine ⟨_,rfl,.inl ⟨rfl,_,SqL.of hGl⟩,_,rfl,_,rfl,sm rfl,fun t ht=>?_⟩
   have s3:=same_new ht (.tup [V.int ps2[i].1,V.int ps2[i].2])
   have e3:upd G t (.tup [V.int ps2[i].1,V.int ps2[i].2]) t=some (.tup [V.int ps2[i].1,V.int ps2[i].2]):=upd_same
   have hqG':=hqG.mono s3
   generalize upd G t (.tup [V.int ps2[i].1,V.int ps2[i].2])=G1 at *
   have hxl:=hxs.length
   rw [List.length_map] at hxl
   refine ⟨l,_,_,rfl,rfl,s3 _ _ hGl,small1000 (by omega),?_⟩
   have tk:TK G1 (upd G1 l (.lst (xs++[.ref t]))):=TK.upd (s3 _ _ hGl) (by intro xs z;cases z)
   refine ⟨_,rfl,some (.int ps2[i].1),some (.int ps2[i].2),xs++[.ref t],by rw [est];rfl,?_,?_,?_,upd_same,?_⟩
   ·intro c o e
    rw [upd_ne (ne_of_none e hl)]
    exact s3 _ _ (sG _ _ e)
   ·exact pairs_upd (s3 _ _ hGl) hqG'
   ·rw [upd_ne nll]
    exact s3 _ _ hG2
   ·rw [est,List.map_append]
    exact heldL_snoc (tk.heldL (hxs.mono s3)) (tk.held (held_tup e3 (heldL_cons held_int (heldL_cons held_int heldL_nil))))
 ·rintro σ G ⟨u,v,xs,rfl,sG,hqG,hG2,hGl,hxs⟩
  rw [hlen,List.take_length] at hxs
  refine ⟨_,rfl,_,rfl,l,_,rfl,.inl ⟨SqL.of hGl,fun t ht=>?_⟩⟩
  have s3:=same_new ht (.tup xs)
  have e3:upd G t (.tup xs) t=some (.tup xs):=upd_same
  generalize upd G t (.tup xs)=G1 at *
  refine ⟨sm rfl,fun r hr'=>?_⟩
  have s4:=same_new hr' (.tup [V.int b,V.ref t])
  exact q _ _ (sG.trans (s3.trans s4)) (held_tup upd_same (heldL_cons held_int (heldL_cons (held_tup (s4 _ _ e3) (hxs.mono (s3.trans s4))) heldL_nil)))
theorem ok_written {f:Addr} {fd:FuncData} (F:Fun K "written" "written" sWritten f fd) (B:Free0 mg) (F_steps_up_to:Fn P w K mg base 1 "steps_up_to" ["steps","p"] (spSteps K)) (F_entry:Fn P w K mg base 2 "entry" ["row","p"] (spEntry K)) (F_stairs:Fn P w K mg base 1 "stairs" ["base","pairs"] (spStairs K)):FnOk P w K mg base CX0 3 f fd ["row","p","v"] (spWritten K):=by
 have sc:FnScope ["row","p","v","base","steps","ahead","behind"] ["row","p","v"] (defScope sWritten):=⟨rfl,rfl,rfl,by decide +kernel,rfl,by decide +kernel,by decide +kernel⟩
 refine F.ok sc (fun vs H Q E h=>?_) (fun cdv A outer s H vs Q E hr h=>?_)
 ·obtain ⟨v,p,x,b,ps,rfl,_⟩:=h
  rfl
 obtain ⟨v,p,x,b,ps,rfl,hv,hR,hl,q⟩:=h
 have hrow:=hv
 obtain ⟨a,c,qs,rfl,ha,hc,hS⟩:=hv.ex
 dsimp only at ha hS
 have hql:qs.length=ps.length:=hS.1
 refine ⟨_,(pss_cons (ps_asg (pv 0) (pg_tup rfl (pgs_cons (pg_name (i:=3) sc.nd rfl (by first | exact Or.inl rfl | exact Or.inr rfl)) (pgs_cons (pg_name (i:=4) sc.nd rfl (by first | exact Or.inl rfl | exact Or.inr rfl)) pgs_nil))))
   (pss_cons (ps_set (i:=5) sc.nd rfl (by first | exact Or.inl rfl | exact Or.inr rfl) (pe_cT call_list_of (by rfl) B.list_ bt_list (pa_c (pe_slice sl_tupB (pv 4) po_none (po_some (pe_fn F_steps_up_to hr (pa_c (pv 4) (pa_c (pe_op op_sub (pv 1) pe_int) pa_nil))))) pa_nil)))
   (pss_cons (ps_set (i:=6) sc.nd rfl (by first | exact Or.inl rfl | exact Or.inr rfl) (pe_cT call_list_of (by rfl) B.list_ bt_list (pa_c (pe_slice sl_tupB (pv 4) (po_some (pe_fn F_steps_up_to hr (pa_c (pv 4) (pa_c (pe_op op_add (pv 1) pe_int) pa_nil)))) po_none) pa_nil)))
   (pss_one (ps_ret (pe_fn F_stairs hr (pa_c (pv 3) (pa_c (pe_op op_add_list (pe_op op_add_list (pv 5) (pe_lst (pa_c (pe_tup (pa_c (pv 1) (pa_c (pv 2) pa_nil))) (pa_c (pe_tup (pa_c (pe_op op_add (pv 1) pe_int) (pa_c (pe_fn F_entry hr (pa_c (pv 0) (pa_c (pe_op op_add (pv 1) pe_int) pa_nil))) pa_nil))) pa_nil)))) (pv 6)) pa_nil)))))))),?_⟩
 refine ⟨_,rfl,a,_,rfl,ha,rfl,_,_,rfl,_,_,rfl,rfl,?_⟩
 refine ⟨_,rfl,_,rfl,_,rfl,_,_,rfl,rfl,c,p - 1,qs,ps,rfl,hc,hS,hR,by omega,fun c1 hc1=>?_⟩
 refine ⟨_,rfl,c,qs,rfl,hc,fun t1 H1 s1 ht1=>?_⟩
 have e1:cutV qs none (some (c1:Int))=qs.take c1:=by
  unfold cutV
  rw [HT.sIx_none,HT.sIx_nat,List.drop_zero,Nat.sub_zero,Nat.min_eq_left (by rw [hql];exact hc1.1)]
 rw [e1] at ht1
 refine ⟨t1,_,rfl,.inr ht1,fun l1 hl1=>?_⟩
 have s2:=same_new hl1 (.lst (qs.take c1))
 have e2:upd H1 l1 (.lst (qs.take c1)) l1=some (.lst (qs.take c1)):=upd_same
 generalize upd H1 l1 (.lst (qs.take c1))=H2 at *
 have s02:=s1.trans s2
 refine ⟨_,rfl,_,rfl,_,rfl,_,_,rfl,rfl,c,p+1,qs,ps,rfl,s02.sqT hc,hS.mono s02,hR,by omega,fun c2 hc2=>?_⟩
 refine ⟨_,rfl,c,qs,rfl,s02.sqT hc,fun t3 H3 s3 ht3=>?_⟩
 have e3:cutV qs (some (c2:Int)) none=qs.drop c2:=by
  unfold cutV
  rw [HT.sIx_none,HT.sIx_nat,Nat.min_eq_left (by rw [hql];exact hc2.1),List.take_of_length_le (by rw [List.length_drop];omega)]
 rw [e3] at ht3
 refine ⟨t3,_,rfl,.inr ht3,fun l4 hl4=>?_⟩
 have s4:=same_new hl4 (.lst (qs.drop c2))
 have e4:upd H3 l4 (.lst (qs.drop c2)) l4=some (.lst (qs.drop c2)):=upd_same
 generalize upd H3 l4 (.lst (qs.drop c2))=H4 at *
 have s24:=s3.trans s4
 have s04:=s02.trans s24
 refine ⟨_,rfl,_,rfl,_,rfl,_,rfl,sm rfl,fun t5 ht5=>?_⟩
 have s5:=same_new ht5 (.tup [V.int p,V.int x])
 have e5:upd H4 t5 (.tup [V.int p,V.int x]) t5=some (.tup [V.int p,V.int x]):=upd_same
 generalize upd H4 t5 (.tup [V.int p,V.int x])=H5 at *
 have s05:=s04.trans s5
 refine ⟨_,rfl,_,_,rfl,rfl,_,rfl,_,rfl,_,_,rfl,rfl,.ref a,p+1,(b,ps),rfl,hrow.mono s05,⟨hR,by show ps.length≤600;omega⟩,?_⟩
 refine ⟨sm rfl,fun t6 ht6=>?_⟩
 have s6:=same_new ht6 (.tup [V.int (p+1),V.int (heldN b ps (p+1))])
 have e6:upd H5 t6 (.tup [V.int (p+1),V.int (heldN b ps (p+1))]) t6=some (.tup [V.int (p+1),V.int (heldN b ps (p+1))]):=upd_same
 generalize upd H5 t6 (.tup [V.int (p+1),V.int (heldN b ps (p+1))])=H6 at *
 refine ⟨sm rfl,fun l7 hl7=>?_⟩
 have s7:=same_new hl7 (.lst [V.ref t5,V.ref t6])
 have e7:upd H6 l7 (.lst [V.ref t5,V.ref t6]) l7=some (.lst [V.ref t5,V.ref t6]):=upd_same
 generalize upd H6 l7 (.lst [V.ref t5,V.ref t6])=H7 at *
 have s47:=s5.trans (s6.trans s7)
 have s07:=s04.trans s47
 have hc1l:=hc1.1
 have hc2l:=hc2.1
 refine ⟨l1,l7,_,_,rfl,rfl,SqL.of (s47 _ _ (s24 _ _ e2)),SqL.of e7,small (by rw [List.length_take];simp only [List.length_cons,List.length_nil];omega),fun l8 hl8=>?_⟩
 have s8:=same_new hl8 (.lst (qs.take c1++[V.ref t5,V.ref t6]))
 have e8:upd H7 l8 (.lst (qs.take c1++[V.ref t5,V.ref t6])) l8=some (.lst (qs.take c1++[V.ref t5,V.ref t6])):=upd_same
 generalize upd H7 l8 (.lst (qs.take c1++[V.ref t5,V.ref t6]))=H8 at *
 have s48:=s47.trans s8
 refine ⟨_,rfl,l8,l4,_,_,rfl,rfl,SqL.of e8,SqL.of (s48 _ _ e4),small (by rw [List.length_append,List.length_take,List.length_drop];simp only [List.length_cons,List.length_nil];omega),fun l9 hl9=>?_⟩
 have s9:=same_new hl9 (.lst (qs.take c1++[V.ref t5,V.ref t6]++qs.drop c2))
 have e9:upd H8 l9 (.lst (qs.take c1++[V.ref t5,V.ref t6]++qs.drop c2)) l9=some (.lst (qs.take c1++[V.ref t5,V.ref t6]++qs.drop c2)):=upd_same
 generalize upd H8 l9 (.lst (qs.take c1++[V.ref t5,V.ref t6]++qs.drop c2))=H9 at *
 have s79:=s8.trans s9
 have s09:=s07.trans s79
 have hup:=wr_up (b:=b) (v:=x) hR hc1 hc2
 have hln:=wr_len (b:=b) (v:=x) hc1 hc2
 have hP:PairsL K H9 (qs.take c1++[V.ref t5,V.ref t6]++qs.drop c2) (wrN b ps c1 c2 p x):=pairs_app (pairs_app (pairs_take (hS.mono s09) c1) (pairs_two ((s6.trans (s7.trans s79)) _ _ e5) ((s7.trans s79) _ _ e6))) (pairs_drop (hS.mono s09) c2)
 refine ⟨b,l9,_,_,rfl,SqL.of e9,hP,hup,by omega,fun r H' sH hr'=>?_⟩
 refine q _ r H' (s09.trans sH) (canon_st b hup) (fun z=>?_) ?_ hr'
 ·rw [held_st b _ hup,wr_held hc1 hc2]
 ·exact Nat.le_trans (stN_len b _) hln
end
end LW
namespace L2
open PySem PySem.Spec PyProof.Rows
def LikeV (K:PySem.W.Frag) (H:Hp):Nat→V→V→Prop
 | 0,x,y=>(∃ i,x=.int i∧y=.int i)∨∃ z,x=.str z∧y=.str z
 | n+1,x,y=>LikeV K H n x y∨
  (∃ a b xs ys,x=.ref a∧y=.ref b∧SqT K H a xs∧SqT K H b ys∧xs.length=ys.length∧∀ (j:Nat) x' y',xs[j]?=some x'→ys[j]?=some y'→LikeV K H n x' y')∨
  ∃ a b xs ys,x=.ref a∧y=.ref b∧SqL K H a xs∧SqL K H b ys∧xs.length=ys.length∧∀ (j:Nat) x' y',xs[j]?=some x'→ys[j]?=some y'→LikeV K H n x' y'
theorem like_int {K:PySem.W.Frag} {H:Hp} (i:Int):∀ n,LikeV K H n (.int i) (.int i)
 | 0=>.inl ⟨i,rfl,rfl⟩
 | n+1=>.inl (like_int i n)
theorem like_str {K:PySem.W.Frag} {H:Hp} (z:Str):∀ n,LikeV K H n (.str z) (.str z)
 | 0=>.inr ⟨z,rfl,rfl⟩
 | n+1=>.inl (like_str z n)
theorem LikeV.up {K:PySem.W.Frag} {H:Hp} {n m:Nat} {x y:V} (h:LikeV K H n x y) (hm:n≤m):LikeV K H m x y:=by
 induction hm with
 | refl=>exact h
 | step _ ih=>exact .inl ih
section
variable {X:Cx} {pins:List (Addr×Obj)} {σ:St} {H:Hp} {s:Shared}
theorem vals_at {xs ys:List V} {its its2:List Value} {A:Around} (hl:xs.length=ys.length) (rva:Vals xs its) (rvb:Vals ys its2) (h:∀ (j:Nat) x' y' u' v',xs[j]?=some x'→ys[j]?=some y'→RelV x' u'→RelV y' v'→SeqAt.EqAt A s u' v' true) :
  ∀ j (h1:j < its.toArray.size) (h2:j < its2.toArray.size),SeqAt.EqAt A s its.toArray[j] its2.toArray[j] true:=fun j h1 h2=>by
 have l3:=rva.length
 have h1':j < its.length:=by simpa using h1
 have hx':xs[j]?=some (xs[j]'(by omega)):=List.getElem?_eq_getElem (by omega)
 have hy':ys[j]?=some (ys[j]'(by omega)):=List.getElem?_eq_getElem (by omega)
 obtain ⟨u',hu',ru'⟩:=rva.get hx'
 obtain ⟨v',hv',rv'⟩:=rvb.get hy'
 have eu:its.toArray[j]=u':=by
  have:=(List.getElem?_eq_some_iff.mp hu').2
  simpa using this
 have ev:its2.toArray[j]=v':=by
  have:=(List.getElem?_eq_some_iff.mp hv').2
  simpa using this
 rw [eu,ev]
 exact h j _ _ u' v' hx' hy' ru' rv'
theorem eqAt_like (I:Inv X pins σ H s):∀ (n:Nat) (A:Around) (x y:V) (u v:Value),A.units+n < cLine→LikeV X.K H n x y→RelV x u→RelV y v→SeqAt.EqAt A s u v true
 | 0,A,x,y,u,v,hA,h,ru,rv=>by
  rcases h with ⟨i,rfl,rfl⟩ | ⟨z,rfl,rfl⟩
  ·obtain ⟨t,rfl⟩:=ru
   obtain ⟨t',rfl⟩:=rv
   have:=SeqAt.EqAt.int_int (A:=A) (s:=s) i t i t'
   rw [beq_self_eq_true] at this
   exact this
  ·obtain ⟨t,rfl⟩:=ru
   obtain ⟨t',rfl⟩:=rv
   have:=SeqAt.EqAt.str_str (A:=A) (s:=s) z t z t'
   rw [beq_self_eq_true] at this
   exact this
 | n+1,A,x,y,u,v,hA,h,ru,rv=>by
  rcases h with h | ⟨a,b,xs,ys,rfl,rfl,ha,hb,hl,hj⟩ | ⟨a,b,xs,ys,rfl,rfl,ha,hb,hl,hj⟩
  ·exact eqAt_like I n A x y u v (by omega) h ru rv
  ·cases ru;cases rv
   by_cases hab:a=b
   ·subst hab;exact SeqAt.EqAt.same _
   ·obtain ⟨its,rva,ta,_⟩:=I.tuple ha
    obtain ⟨its2,rvb,tb,_⟩:=I.tuple hb
    refine SeqAt.EqAt.of_refs hab ?_
    have l3:=rva.length
    have l4:=rvb.length
    have key:=SeqAt.RcAt.tuples (A:=A) (s:=s) (e:=fun _=>true) (show s.heap.IsTuple a its.toArray from ta) (show s.heap.IsTuple b its2.toArray from tb) (by omega) (vals_at hl rva rvb fun j x' y' u' v' e1 e2 r1 r2=>eqAt_like I n A.in1 x' y' u' v' (by show A.units+1+n < cLine;omega) (hj j x' y' e1 e2) r1 r2)
    have e:((List.range (min its.toArray.size its2.toArray.size)).all (fun _=>true) && its.toArray.size == its2.toArray.size)=true:=by
     have:its.toArray.size=its2.toArray.size:=by simp;omega
     rw [this];simp
    rw [e] at key
    exact key
  ·cases ru;cases rv
   by_cases hab:a=b
   ·subst hab;exact SeqAt.EqAt.same _
   ·obtain ⟨its,rva,ta,_⟩:=I.list ha
    obtain ⟨its2,rvb,tb,_⟩:=I.list hb
    refine SeqAt.EqAt.of_refs hab ?_
    have l3:=rva.length
    have l4:=rvb.length
    have key:=SeqAt.RcAt.lists (A:=A) (s:=s) (e:=fun _=>true) ta.isList tb.isList (by simp;omega) (by omega) (vals_at hl rva rvb fun j x' y' u' v' e1 e2 r1 r2=>eqAt_like I n A.in1 x' y' u' v' (by show A.units+1+n < cLine;omega) (hj j x' y' e1 e2) r1 r2)
    have e:(List.range its.toArray.size).all (fun _=>true)=true:=by simp
    rw [e] at key
    exact key
theorem hits_likeV (I:Inv X pins σ H s) {A:Around} {Rl:V→V→Prop} (hR:∀ x y u v,Rl x y→RelV x u→RelV y v→SeqAt.EqAt A s u v true) {kvs':List (Key×V)} {vs':List (Key×Value)} (rel':KV kvs' vs'):∀ {kvs:List (Key×V)} {vs:List (Key×Value)},KV kvs vs→
  (∀ k v,(k,v)∈kvs→∃ v',valV kvs' k=some v'∧Rl v v')→PySem.W.KeqHits A s vs' vs true:=by
 intro kvs vs r
 unfold KV at r
 induction r with
 | nil=>intro _;exact .nil
 | @cons p q ps qs h t ih=>
  intro hk
  obtain ⟨pk,pv⟩:=p
  obtain ⟨qk,qv⟩:=q
  obtain ⟨h1,h2⟩:=h
  have h1':pk=qk:=h1
  subst h1'
  obtain ⟨v',e1,e2⟩:=hk pk pv List.mem_cons_self
  obtain ⟨w',hw,rw'⟩:=RelO.some_of (v:=v') (o:=valueAt vs' pk) (by rw [← e1];exact rel'.val pk)
  have:=PySem.W.KeqHits.hit (A:=A) (s:=s) (kb:=vs') (k:=pk) (v:=qv) hw (hR _ _ _ _ e2 h2 rw') (ih fun k v hm=>hk k v (List.mem_cons_of_mem _ hm))
  simpa using this
def LikeD (K:PySem.W.Frag) (H:Hp) (n:Nat) (kvs kvs':List (Key×V)):Prop:=kvs.length=kvs'.length∧∀ k v,(k,v)∈kvs→∃ v',valV kvs' k=some v'∧LikeV K H n v v'
theorem op_neLV (n:Nat) (hu:X.A.units+1+n < cLine):OpR X (compareOp .NotEq) (fun x y H Q=>∃ a b xs ys,x=.ref a∧y=.ref b∧SqL X.K H a xs∧SqL X.K H b ys∧xs.length=ys.length∧(∀ (j:Nat) x' y',xs[j]?=some x'→ys[j]?=some y'→LikeV X.K H n x' y')∧Q (.bl false) H):=by
 intro pins s σ H x y v u Q I rx ry h
 obtain ⟨a,b,xs,ys,rfl,rfl,ha,hb,hl,hj,q⟩:=h
 cases rx;cases ry
 obtain ⟨its,rva,ta,_⟩:=I.list ha
 obtain ⟨its2,rvb,tb,_⟩:=I.list hb
 have l3:=rva.length
 have l4:=rvb.length
 have key:=SeqAt.RcNeAt.lists (A:=X.A) (s:=s) (e:=fun _=>true) ta.isList tb.isList (by simp;omega) (by omega) (vals_at hl rva rvb fun j x' y' u' v' e1 e2 r1 r2=>eqAt_like I n X.A.in1 x' y' u' v' (by show X.A.units+1+n < cLine;exact hu) (hj j x' y' e1 e2) r1 r2)
 have e:(!((List.range its.toArray.size).all (fun _=>true)))=false:=by simp
 rw [e] at key
 exact key X.prog X.w X.xe _ ⟨.bl false,H,I,rfl,q⟩
end
def TKF (H H':Hp):Prop:=(∀ b xs,H b=some (.tup xs)→H' b=some (.tup xs))∧∀ b o u,H b=some (.frz o u)→H' b=some (.frz o u)
theorem TKF.same {H H':Hp} (h:Same H H'):TKF H H':=⟨fun b xs e=>h b _ e,fun b o u e=>h b _ e⟩
theorem TKF.upd {H:Hp} {a:Addr} {o u:HO} (h:H a=some o) (h1:∀ xs,o≠.tup xs) (h2:∀ p z,o≠.frz p z):TKF H (L2.upd H a u):=
 ⟨fun b xs e=>by rw [upd_ne (ne_of e h (fun z=>h1 xs z.symm))];exact e,fun b p z e=>by rw [upd_ne (ne_of e h (fun t=>h2 p z t.symm))];exact e⟩
theorem TKF.updD {H:Hp} {a:Addr} {kv:List (Key×V)} {u:HO} (h:H a=some (.dK kv)):TKF H (L2.upd H a u):=TKF.upd h (fun _ z=>by cases z) fun _ _ z=>by cases z
theorem TKF.updL {H:Hp} {a:Addr} {xs:List V} {u:HO} (h:H a=some (.lst xs)):TKF H (L2.upd H a u):=TKF.upd h (fun _ z=>by cases z) fun _ _ z=>by cases z
theorem TKF.sqT {K:PySem.W.Frag} {H H':Hp} {a:Addr} {xs:List V} (e:TKF H H') (h:SqT K H a xs):SqT K H' a xs:=by
 rcases h with (h | ⟨o,h⟩) | h
 ·exact .inl (.inl (e.1 _ _ h))
 ·exact .inl (.inr ⟨o,e.2 _ _ _ h⟩)
 ·exact .inr h
end L2
namespace LW
open PySem L2
abbrev sPlace_at:Stmt:=top 7
abbrev sTerm_at:Stmt:=top 8
abbrev sNumber_at:Stmt:=top 10
abbrev sRow_at:Stmt:=top 11
abbrev sThrough:Stmt:=top 19
abbrev sPut_into:Stmt:=top 20
abbrev sPick_at:Stmt:=top 21
def lkA {α:Type} (L:List (Str×α)) (k:Str):Option α:=(L.find? fun q=>decide (q.1=k)).map (·.2)
def putA {α:Type} (L:List (Str×α)) (k:Str) (v:α):List (Str×α):=if (L.any fun q=>decide (q.1=k))=true then L.map (fun q=>if q.1=k then (q.1,v) else q) else L++[(k,v)]
def nKV (N:List (Str×Int)):List (Key×V):=N.map fun q=>(Sum.inr q.1,V.int q.2)
theorem inr_dec (x y:Str):decide ((Sum.inr x:Key)=Sum.inr y)=decide (x=y):=by
 rw [decide_eq_decide]
 exact ⟨fun h=>Sum.inr.inj h,fun h=>by rw [h]⟩
theorem nkv_val (N:List (Str×Int)) (x:Str):valV (nKV N) (Sum.inr x)=(lkA N x).map V.int:=by
 unfold valV lkA nKV
 rw [List.find?_map,Option.map_map,Option.map_map]
 congr 1
 congr 1
 funext q
 exact inr_dec q.1 x
theorem nkv_put (N:List (Str×Int)) (x:Str) (n:Int):putK (nKV N) (Sum.inr x) (.int n)=nKV (putA N x n):=by
 unfold putK putA nKV
 have e:((N.map fun q=>((Sum.inr q.1:Key),V.int q.2)).any fun kv=>decide (kv.1=(Sum.inr x:Key)))=N.any fun q=>decide (q.1=x):=by
  rw [List.any_map]
  congr 1
  funext q
  exact inr_dec q.1 x
 rw [e]
 split
 ·rw [List.map_map,List.map_map]
  apply List.map_congr_left
  intro q _
  show (if (Sum.inr q.1:Key)=Sum.inr x then ((Sum.inr q.1:Key),V.int n) else ((Sum.inr q.1:Key),V.int q.2))=((Sum.inr (if q.1=x then (q.1,n) else q).1:Key),V.int (if q.1=x then (q.1,n) else q).2)
  by_cases h:q.1=x
  ·rw [if_pos (by rw [h]),if_pos h]
  ·rw [if_neg (fun z=>h (Sum.inr.inj z)),if_neg h]
 ·rw [List.map_append]
  rfl
theorem putA_len {α:Type} (L:List (Str×α)) (k:Str) (v:α):(putA L k v).length≤L.length+1:=by
 unfold putA
 split
 ·rw [List.length_map];omega
 ·rw [List.length_append];simp
def numA (N:List (Str×Int)) (x:Str):Int:=if x = "" then 0 else (lkA N x).getD 0
abbrev LRow:=Int×List (Int×Int)×List (Int×Int)
def heldW (q:LRow) (p:Int):Int:=q.2.2.foldl (fun f z=>if z.1=p then z.2 else f) (heldN q.1 q.2.1 p)
theorem heldW_snoc (b:Int) (ps ws:List (Int×Int)) (p v z:Int):heldW (b,ps,ws++[(p,v)]) z=if z=p then v else heldW (b,ps,ws) z:=by
 unfold heldW
 dsimp only
 rw [List.foldl_append]
 show (if p=z then v else _)=_
 by_cases h:p=z
 ·rw [if_pos h,if_pos h.symm]
 ·rw [if_neg h,if_neg (fun t=>h t.symm)]
def lrow (L:List (Str×LRow)) (r:Str):LRow:=(lkA L r).getD (0,[],[])
def RowIs (K:PySem.W.Frag) (H:Hp) (q:LRow) (v:V):Prop:=∃ R,RowAt K H v (q.1,R)∧Canon q.1 R∧R.length≤40+2 * q.2.2.length∧∀ z,heldN q.1 R z=heldW q z
theorem steps_tkf {K:PySem.W.Frag} {H H':Hp} {qs:List V} {ps:List (Int×Int)} (t:TKF H H') (h:StepsAt K H qs ps):StepsAt K H' qs ps:=⟨h.1,fun i hi=>by
 obtain ⟨c,e1,e2⟩:=h.2 i hi
 exact ⟨c,e1,t.sqT e2⟩⟩
theorem row_tkf {K:PySem.W.Frag} {H H':Hp} {v:V} {r:Int×List (Int×Int)} (t:TKF H H') (h:RowAt K H v r):RowAt K H' v r:=by
 obtain ⟨a,b,qs,e1,e2,e3,e4⟩:=h.ex
 exact ⟨a,b,qs,e1,t.sqT e2,t.sqT e3,steps_tkf t e4⟩
theorem RowIs.tk {K:PySem.W.Frag} {H H':Hp} {q:LRow} {v:V} (t:TKF H H') (h:RowIs K H q v):RowIs K H' q v:=by
 obtain ⟨R,h1,h2⟩:=h
 exact ⟨R,row_tkf t h1,h2⟩
def RV (K:PySem.W.Frag) (H:Hp) (n:Nat):List (Key×V)→List (Str×LRow)→Prop
 | [],[]=>True
 | p :: r,q :: t=>(p.1=Sum.inr q.1∧RowIs K H q.2 p.2∧q.2.2.2.length≤n)∧RV K H n r t
 | _,_=>False
theorem RV.tk {K:PySem.W.Frag} {H H':Hp} {n:Nat} (t:TKF H H'):∀ {rvs:List (Key×V)} {L:List (Str×LRow)},RV K H n rvs L→RV K H' n rvs L
 | [],[],_=>trivial
 | _ :: _,_ :: _,⟨⟨h1,h2,h3⟩,h4⟩=>⟨⟨h1,h2.tk t,h3⟩,RV.tk t h4⟩
theorem RV.up {K:PySem.W.Frag} {H:Hp} {n m:Nat} (hm:n≤m):∀ {rvs:List (Key×V)} {L:List (Str×LRow)},RV K H n rvs L→RV K H m rvs L
 | [],[],_=>trivial
 | _ :: _,_ :: _,⟨⟨h1,h2,h3⟩,h4⟩=>⟨⟨h1,h2,Nat.le_trans h3 hm⟩,RV.up hm h4⟩
theorem RV.len {K:PySem.W.Frag} {H:Hp} {n:Nat}:∀ {rvs:List (Key×V)} {L:List (Str×LRow)},RV K H n rvs L→rvs.length=L.length
 | [],[],_=>rfl
 | _ :: _,_ :: _,⟨_,h4⟩=>by rw [List.length_cons,List.length_cons,RV.len h4]
theorem RV.val {K:PySem.W.Frag} {H:Hp} {n:Nat} (r:Str):∀ {rvs:List (Key×V)} {L:List (Str×LRow)},RV K H n rvs L→(valV rvs (Sum.inr r)=none∧lkA L r=none)∨∃ v q,valV rvs (Sum.inr r)=some v∧lkA L r=some q∧RowIs K H q v∧q.2.2.length≤n
 | [],[],_=>.inl ⟨rfl,rfl⟩
 | p :: rvs,q :: L,⟨⟨h1,h2,h3⟩,h4⟩=>by
  by_cases h:q.1=r
  ·refine .inr ⟨p.2,q.2,valV_pos (by rw [h1,h]),?_,h2,h3⟩
   unfold lkA
   rw [List.find?_cons,decide_eq_true h]
   rfl
  ·have e1:valV (p :: rvs) (Sum.inr r)=valV rvs (Sum.inr r):=valV_neg (by rw [h1];exact fun z=>h (Sum.inr.inj z))
   have e2:lkA (q :: L) r=lkA L r:=by
    unfold lkA
    rw [List.find?_cons,decide_eq_false h]
   rw [e1,e2]
   exact RV.val r h4
theorem RV.any {K:PySem.W.Frag} {H:Hp} {n:Nat} (r:Str):∀ {rvs:List (Key×V)} {L:List (Str×LRow)},RV K H n rvs L→(rvs.any fun kv=>decide (kv.1=(Sum.inr r:Key)))=L.any fun q=>decide (q.1=r)
 | [],[],_=>rfl
 | p :: rvs,q :: L,⟨⟨h1,_,_⟩,h4⟩=>by rw [List.any_cons,List.any_cons,RV.any r h4,h1,inr_dec]
theorem RV.snoc {K:PySem.W.Frag} {H:Hp} {n:Nat} {r:Str} {v:V} {q:LRow} (hq:RowIs K H q v) (hn:q.2.2.length≤n):∀ {rvs:List (Key×V)} {L:List (Str×LRow)},RV K H n rvs L→RV K H n (rvs++[(Sum.inr r,v)]) (L++[(r,q)])
 | [],[],_=>⟨⟨rfl,hq,hn⟩,trivial⟩
 | _ :: _,_ :: _,⟨h1,h4⟩=>⟨h1,RV.snoc hq hn h4⟩
theorem RV.repl {K:PySem.W.Frag} {H:Hp} {n:Nat} {r:Str} {v:V} {q:LRow} (hq:RowIs K H q v) (hn:q.2.2.length≤n):∀ {rvs:List (Key×V)} {L:List (Str×LRow)},RV K H n rvs L→RV K H n (rvs.map fun kv=>if kv.1=(Sum.inr r:Key) then (kv.1,v) else kv) (L.map fun z=>if z.1=r then (z.1,q) else z)
 | [],[],_=>trivial
 | p :: rvs,z :: L,⟨⟨h1,h2,h3⟩,h4⟩=>by
  refine ⟨?_,RV.repl hq hn h4⟩
  dsimp only
  by_cases h:z.1=r
  ·rw [if_pos h,if_pos (by rw [h1,h])]
   exact ⟨h1,hq,hn⟩
  ·rw [if_neg h,if_neg (by rw [h1];exact fun t=>h (Sum.inr.inj t))]
   exact ⟨h1,h2,h3⟩
theorem RV.put {K:PySem.W.Frag} {H:Hp} {n:Nat} {rvs:List (Key×V)} {L:List (Str×LRow)} (h:RV K H n rvs L) {r:Str} {v:V} {q:LRow} (hq:RowIs K H q v) (hn:q.2.2.length≤n):RV K H n (putK rvs (Sum.inr r) v) (putA L r q):=by
 unfold putK putA
 rw [h.any r]
 split
 ·exact h.repl hq hn
 ·exact h.snoc hq hn
inductive Tm where
 | is (x:Str) | at_ (r x:Str) (d:Int)
def plD (x:Str) (d:Int):D:=.tup [.str x,.int d]
def Tm.toD:Tm→D
 | .is x=>.tup [.str "is",.str x]
 | .at_ r x d=>.tup [.str "at",.str r,plD x d]
def Tm.val (N:List (Str×Int)) (L:List (Str×LRow)):Tm→Int
 | .is x=>numA N x
 | .at_ r x d=>heldW (lrow L r) (numA N x+d)
theorem held_str_inv {H:Hp} {x:Str} {v:V} (h:Held H (.str x) v):v=.str x:=by unfold Held at h;exact h
theorem pl_inv {H:Hp} {x:Str} {d:Int} {v:V} (h:Held H (plD x d) v):∃ a,v=.ref a∧H a=some (.tup [.str x,.int d]):=by
 obtain ⟨a,xs,rfl,ha,h1⟩:=held_tup_inv h
 obtain ⟨v1,r1,rfl,e1,h2⟩:=heldL_cons_inv h1
 obtain ⟨v2,r2,rfl,e2,h3⟩:=heldL_cons_inv h2
 cases heldL_nil_inv h3
 cases held_str_inv e1
 cases held_int_inv e2
 exact ⟨a,rfl,ha⟩
theorem is_inv {H:Hp} {x y:Str} {v:V} (h:Held H (.tup [.str x,.str y]) v):∃ a,v=.ref a∧H a=some (.tup [.str x,.str y]):=by
 obtain ⟨a,xs,rfl,ha,h1⟩:=held_tup_inv h
 obtain ⟨v1,r1,rfl,e1,h2⟩:=heldL_cons_inv h1
 obtain ⟨v2,r2,rfl,e2,h3⟩:=heldL_cons_inv h2
 cases heldL_nil_inv h3
 cases held_str_inv e1
 cases held_str_inv e2
 exact ⟨a,rfl,ha⟩
theorem at_inv {H:Hp} {r x:Str} {d:Int} {v:V} (h:Held H (Tm.at_ r x d).toD v):∃ a b,v=.ref a∧H a=some (.tup [.str "at",.str r,.ref b])∧H b=some (.tup [.str x,.int d]):=by
 obtain ⟨a,xs,rfl,ha,h1⟩:=held_tup_inv h
 obtain ⟨v1,r1,rfl,e1,h2⟩:=heldL_cons_inv h1
 obtain ⟨v2,r2,rfl,e2,h3⟩:=heldL_cons_inv h2
 obtain ⟨v3,r3,rfl,e3,h4⟩:=heldL_cons_inv h3
 cases heldL_nil_inv h4
 cases held_str_inv e1
 cases held_str_inv e2
 obtain ⟨b,rfl,hb⟩:=pl_inv e3
 exact ⟨a,b,rfl,ha,hb⟩
inductive Rw where
 | set (x:Str) (t:Tm) (c:Int) | put (r x:Str) (d:Int) (t:Tm) (c:Int) | any (x:Str) | lose (r:Str)
def Rw.toD:Rw→D
 | .set x t c=>.tup [.str "set",.str x,t.toD,.int c]
 | .put r x d t c=>.tup [.str "put",.str r,plD x d,t.toD,.int c]
 | .any x=>.tup [.str "any",.str x]
 | .lose r=>.tup [.str "lose",.str r]
theorem set_inv {H:Hp} {x:Str} {t:Tm} {c:Int} {v:V} (h:Held H (Rw.set x t c).toD v):∃ a u,v=.ref a∧H a=some (.tup [.str "set",.str x,u,.int c])∧Held H t.toD u:=by
 obtain ⟨a,xs,rfl,ha,h1⟩:=held_tup_inv h
 obtain ⟨v1,r1,rfl,e1,h2⟩:=heldL_cons_inv h1
 obtain ⟨v2,r2,rfl,e2,h3⟩:=heldL_cons_inv h2
 obtain ⟨v3,r3,rfl,e3,h4⟩:=heldL_cons_inv h3
 obtain ⟨v4,r4,rfl,e4,h5⟩:=heldL_cons_inv h4
 cases heldL_nil_inv h5
 cases held_str_inv e1
 cases held_str_inv e2
 cases held_int_inv e4
 exact ⟨a,v3,rfl,ha,e3⟩
theorem put_inv {H:Hp} {r x:Str} {d c:Int} {t:Tm} {v:V} (h:Held H (Rw.put r x d t c).toD v):∃ a b u,v=.ref a∧H a=some (.tup [.str "put",.str r,.ref b,u,.int c])∧H b=some (.tup [.str x,.int d])∧Held H t.toD u:=by
 obtain ⟨a,xs,rfl,ha,h1⟩:=held_tup_inv h
 obtain ⟨v1,r1,rfl,e1,h2⟩:=heldL_cons_inv h1
 obtain ⟨v2,r2,rfl,e2,h3⟩:=heldL_cons_inv h2
 obtain ⟨v3,r3,rfl,e3,h4⟩:=heldL_cons_inv h3
 obtain ⟨v4,r4,rfl,e4,h5⟩:=heldL_cons_inv h4
 obtain ⟨v5,r5,rfl,e5,h6⟩:=heldL_cons_inv h5
 cases heldL_nil_inv h6
 cases held_str_inv e1
 cases held_str_inv e2
 cases held_int_inv e5
 obtain ⟨b,rfl,hb⟩:=pl_inv e3
 exact ⟨a,b,v4,rfl,ha,hb,e4⟩
def spNumber_at:Sp:=fun vs H Q _=>∃ (x:Str) (m:Addr) (N:List (Str×Int)),vs=[.str x,.ref m]∧H m=some (.dK (nKV N))∧Q (.int (numA N x)) H
def spPlace_at:Sp:=fun vs H Q _=>∃ (a:Addr) (x:Str) (d:Int) (m:Addr) (N:List (Str×Int)),vs=[.ref a,.ref m]∧H a=some (.tup [.str x,.int d])∧H m=some (.dK (nKV N))∧Q (.int (numA N x+d)) H
def spRow_at (K:PySem.W.Frag):Sp:=fun vs H Q _=>∃ (r:Str) (n:Addr) (k:Nat) (rvs:List (Key×V)) (L:List (Str×LRow)),vs=[.str r,.ref n]∧H n=some (.dK rvs)∧RV K H k rvs L∧
 ∀ v R,RowAt K H v ((lrow L r).1,R)→Canon (lrow L r).1 R→R.length≤40+2 * (lrow L r).2.2.length→(lrow L r).2.2.length≤k→(∀ z,heldN (lrow L r).1 R z=heldW (lrow L r) z)→Q v H
def spTerm_at (K:PySem.W.Frag):Sp:=fun vs H Q _=>∃ (v:V) (t:Tm) (m n:Addr) (k:Nat) (N:List (Str×Int)) (rvs:List (Key×V)) (L:List (Str×LRow)),vs=[v,.ref m,.ref n]∧Held H t.toD v∧H m=some (.dK (nKV N))∧H n=some (.dK rvs)∧RV K H k rvs L∧k≤100∧Q (.int (t.val N L)) H
def spPut_into (K:PySem.W.Frag):Sp:=fun vs H Q _=>∃ (v:V) (r x:Str) (d c:Int) (t:Tm) (m n:Addr) (k:Nat) (N:List (Str×Int)) (rvs:List (Key×V)) (L:List (Str×LRow)),vs=[v,.ref m,.ref n]∧Held H (Rw.put r x d t c).toD v∧H m=some (.dK (nKV N))∧H n=some (.dK rvs)∧RV K H k rvs L∧k≤100∧
 ∀ u H',Same H H'→RowIs K H' ((lrow L r).1,(lrow L r).2.1,(lrow L r).2.2++[(numA N x+d,t.val N L+c)]) u→(lrow L r).2.2.length≤k→Q u H'
def spPick_at:Sp:=fun vs H Q _=>∃ (p:Addr) (j:Nat) (lv:V) (pks:List V),vs=[.ref p,.int j,lv]∧H p=some (.lst pks)∧(∀ v,pks[j]?=some v→Q v H)∧(pks.length≤j→Q lv H)
structure Bare (K:PySem.W.Frag) (mg:Str→Option Value):Prop where
 ex:∃ ba eb:Addr,mg "BARE_ROW" = some (.ref ba)∧(∀ H,SqT K H ba [.int 0,.ref eb])∧∀ H,SqT K H eb []
theorem bare_row {K:PySem.W.Frag} {H:Hp} {a b:Addr} (h1:SqT K H a [.int 0,.ref b]) (h2:SqT K H b []):RowAt K H (.ref a) (0,[]):=⟨a,b,[],rfl,h1,h2,rfl,fun i h=>absurd h (by simp)⟩
section
variable {P:Program} {w:World} {K:PySem.W.Frag} {mg:Str→Option Value} {base:Heap}
theorem ok_number_at {f:Addr} {fd:FuncData} (F:Fun K "number_at" "number_at" sNumber_at f fd):FnOk P w K mg base CX0 1 f fd ["x","numbers"] spNumber_at:=by
 have sc:FnScope ["x","numbers"] ["x","numbers"] (defScope sNumber_at):=⟨rfl,rfl,rfl,by decide +kernel,rfl,by decide +kernel,by decide +kernel⟩
 refine F.ok sc (fun vs H Q E h=>?_) (fun cdv A outer s H vs Q E hr h=>?_)
 ·obtain ⟨x,m,N,rfl,_⟩:=h
  rfl
 obtain ⟨x,m,N,rfl,hm,q⟩:=h
 have hu:=hu_of hr
 refine ⟨_,(pss_cons (ps_if (pt_cmpR op_eq (pv 0) pe_str (nomark _)) (pss_one (ps_ret pe_int)) pss_nil)
   (pss_one (ps_ret (pe_dget2 hu (pv 1) (pv 0) pe_int ⟨rfl,rfl,rfl,rfl⟩)))),?_⟩
 unfold numA at q
 refine ⟨_,rfl,rfl,_,rfl,ite2 (fun c=>?_) (fun c=>?_)⟩
 ·have c':x = "":=by
   have:=of_decide_eq_true c
   injection this
  rw [if_pos c'] at q
  exact q
 ·rw [if_neg (fun e=>c (decide_eq_true (congrArg V.str e)))] at q
  refine ⟨_,rfl,m,rfl,.inl ⟨_,.inl hm⟩,_,rfl,_,DGet.k (k:=Sum.inr x) hm,?_⟩
  rw [nkv_val]
  cases e:lkA N x with
  | none=>rw [e] at q;exact q
  | some z=>rw [e] at q;exact q
theorem ok_place_at {f:Addr} {fd:FuncData} (F:Fun K "place_at" "place_at" sPlace_at f fd) (F_number_at:Fn P w K mg base 1 "number_at" ["x","numbers"] spNumber_at):FnOk P w K mg base CX0 2 f fd ["place","numbers"] spPlace_at:=by
 have sc:FnScope ["place","numbers","x","d"] ["place","numbers"] (defScope sPlace_at):=⟨rfl,rfl,rfl,by decide +kernel,rfl,by decide +kernel,by decide +kernel⟩
 refine F.ok sc (fun vs H Q E h=>?_) (fun cdv A outer s H vs Q E hr h=>?_)
 ·obtain ⟨a,x,d,m,N,rfl,_⟩:=h
  rfl
 obtain ⟨a,x,d,m,N,rfl,ha,hm,q⟩:=h
 refine ⟨_,(pss_cons (ps_asg (pv 0) (pg_tup rfl (pgs_cons (pg_name (i:=2) sc.nd rfl (by first | exact Or.inl rfl | exact Or.inr rfl)) (pgs_cons (pg_name (i:=3) sc.nd rfl (by first | exact Or.inl rfl | exact Or.inr rfl)) pgs_nil))))
   (pss_one (ps_ret (pe_op op_add (pe_fn F_number_at hr (pa_c (pv 2) (pa_c (pv 1) pa_nil))) (pv 3))))),?_⟩
 refine ⟨_,rfl,a,_,rfl,SqT.of ha,rfl,_,_,rfl,_,_,rfl,rfl,?_⟩
 refine ⟨_,rfl,_,rfl,x,m,N,rfl,hm,_,rfl,_,_,rfl,rfl,q⟩
theorem ok_row_at {f:Addr} {fd:FuncData} (F:Fun K "row_at" "row_at" sRow_at f fd) (R:Bare K mg):FnOk P w K mg base CX0 1 f fd ["r","rows"] (spRow_at K):=by
 have sc:FnScope ["r","rows"] ["r","rows"] (defScope sRow_at):=⟨rfl,rfl,rfl,by decide +kernel,rfl,by decide +kernel,by decide +kernel⟩
 refine F.ok sc (fun vs H Q E h=>?_) (fun cdv A outer s H vs Q E hr h=>?_)
 ·obtain ⟨r,n,k,rvs,L,rfl,_⟩:=h
  rfl
 obtain ⟨r,n,k,rvs,L,rfl,hn,hV,q⟩:=h
 obtain ⟨ba,eb,hba,hb1,hb2⟩:=R.ex
 have hu:=hu_of hr
 refine ⟨_,(pss_one (ps_ret (pe_dget2 hu (pv 1) (pv 0) (pe_glob (v:=.ref ba) (by rfl) hba rfl) ⟨rfl,rfl,rfl,rfl⟩))),?_⟩
 refine ⟨_,rfl,n,rfl,.inl ⟨rvs,.inl hn⟩,_,rfl,_,DGet.k (k:=Sum.inr r) hn,?_⟩
 unfold lrow at q
 rcases hV.val r with ⟨e1,e2⟩ | ⟨v,lq,e1,e2,h1,h2⟩
 ·rw [e1]
  rw [e2] at q
  exact q _ [] (bare_row (hb1 H) (hb2 H)) ⟨List.Pairwise.nil,trivial⟩ (Nat.zero_le _) (Nat.zero_le _) fun z=>rfl
 ·rw [e1]
  rw [e2] at q
  obtain ⟨R,g1,g2,g3,g4⟩:=h1
  exact q _ R g1 g2 g3 h2 g4
theorem ok_term_at {f:Addr} {fd:FuncData} (F:Fun K "term_at" "term_at" sTerm_at f fd) (F_number_at:Fn P w K mg base 1 "number_at" ["x","numbers"] spNumber_at) (F_place_at:Fn P w K mg base 2 "place_at" ["place","numbers"] spPlace_at)
  (F_row_at:Fn P w K mg base 1 "row_at" ["r","rows"] (spRow_at K)) (F_entry:Fn P w K mg base 2 "entry" ["row","p"] (spEntry K)):FnOk P w K mg base CX0 3 f fd ["term","numbers","rows"] (spTerm_at K):=by
 have sc:FnScope ["term","numbers","rows"] ["term","numbers","rows"] (defScope sTerm_at):=⟨rfl,rfl,rfl,by decide +kernel,rfl,by decide +kernel,by decide +kernel⟩
 refine F.ok sc (fun vs H Q E h=>?_) (fun cdv A outer s H vs Q E hr h=>?_)
 ·obtain ⟨v,t,m,n,k,N,rvs,L,rfl,_⟩:=h
  rfl
 obtain ⟨v,t,m,n,k,N,rvs,L,rfl,hv,hm,hn,hV,hk,q⟩:=h
 refine ⟨_,(pss_cons (ps_if (pt_cmpR op_eq (pe_ix ix_tup (pv 0) pe_int (fun _ _=>rfl)) pe_str (nomark _)) (pss_one (ps_ret (pe_fn F_number_at hr (pa_c (pe_ix ix_tup (pv 0) pe_int (fun _ _=>rfl)) (pa_c (pv 1) pa_nil))))) pss_nil)
   (pss_one (ps_ret (pe_fn F_entry hr (pa_c (pe_fn F_row_at hr (pa_c (pe_ix ix_tup (pv 0) pe_int (fun _ _=>rfl)) (pa_c (pv 2) pa_nil))) (pa_c (pe_fn F_place_at hr (pa_c (pe_ix ix_tup (pv 0) pe_int (fun _ _=>rfl)) (pa_c (pv 1) pa_nil))) pa_nil)))))),?_⟩
 cases t with
 | is x=>
  obtain ⟨a,rfl,ha⟩:=is_inv hv
  refine ⟨_,rfl,a,_,_,_,rfl,rfl,SqT.of ha,rfl,rfl,_,rfl,?_⟩
  rw [decide_eq_true rfl]
  refine iteT ?_
  exact ⟨_,rfl,a,_,_,_,rfl,rfl,SqT.of ha,rfl,_,rfl,x,m,N,rfl,hm,q⟩
 | at_ r x d=>
  obtain ⟨a,b,rfl,ha,hb⟩:=at_inv hv
  refine ⟨_,rfl,a,_,_,_,rfl,rfl,SqT.of ha,rfl,rfl,_,rfl,?_⟩
  rw [decide_eq_false (by decide)]
  refine iteF ?_
  refine ⟨_,rfl,a,_,_,_,rfl,rfl,SqT.of ha,rfl,_,rfl,r,n,k,rvs,L,rfl,hn,hV,fun u R g1 g2 g3 g4 g5=>?_⟩
  refine ⟨_,rfl,a,_,_,_,rfl,rfl,SqT.of ha,rfl,_,rfl,b,x,d,m,N,rfl,hb,hm,?_⟩
  refine ⟨u,_,((lrow L r).1,R),rfl,g1,⟨g2.up,by show R.length≤600;omega⟩,?_⟩
  dsimp only
  rw [g5]
  exact q
theorem ok_put_into {f:Addr} {fd:FuncData} (F:Fun K "put_into" "put_into" sPut_into f fd) (F_place_at:Fn P w K mg base 2 "place_at" ["place","numbers"] spPlace_at) (F_row_at:Fn P w K mg base 1 "row_at" ["r","rows"] (spRow_at K))
  (F_term_at:Fn P w K mg base 3 "term_at" ["term","numbers","rows"] (spTerm_at K)) (F_written:Fn P w K mg base 3 "written" ["row","p","v"] (spWritten K)):FnOk P w K mg base CX0 4 f fd ["row","numbers","held"] (spPut_into K):=by
 have sc:FnScope ["row","numbers","held","r","place","a","c"] ["row","numbers","held"] (defScope sPut_into):=⟨rfl,rfl,rfl,by decide +kernel,rfl,by decide +kernel,by decide +kernel⟩
 refine F.ok sc (fun vs H Q E h=>?_) (fun cdv A outer s H vs Q E hr h=>?_)
 ·obtain ⟨v,r,x,d,c,t,m,n,k,N,rvs,L,rfl,_⟩:=h
  rfl
 obtain ⟨v,r,x,d,c,t,m,n,k,N,rvs,L,rfl,hv,hm,hn,hV,hk,q⟩:=h
 obtain ⟨a,b,u,rfl,ha,hb,hu'⟩:=put_inv hv
 refine ⟨_,(pss_cons (ps_asg (pe_slice sl_tup (pv 0) (po_some pe_int) po_none) (pg_tup rfl (pgs_cons (pg_name (i:=3) sc.nd rfl (by first | exact Or.inl rfl | exact Or.inr rfl)) (pgs_cons (pg_name (i:=4) sc.nd rfl (by first | exact Or.inl rfl | exact Or.inr rfl)) (pgs_cons (pg_name (i:=5) sc.nd rfl (by first | exact Or.inl rfl | exact Or.inr rfl)) (pgs_cons (pg_name (i:=6) sc.nd rfl (by first | exact Or.inl rfl | exact Or.inr rfl)) pgs_nil))))))
   (pss_one (ps_ret (pe_fn F_written hr (pa_c (pe_fn F_row_at hr (pa_c (pv 3) (pa_c (pv 2) pa_nil))) (pa_c (pe_fn F_place_at hr (pa_c (pv 4) (pa_c (pv 1) pa_nil))) (pa_c (pe_op op_add (pe_fn F_term_at hr (pa_c (pv 5) (pa_c (pv 1) (pa_c (pv 2) pa_nil)))) (pv 6)) pa_nil))))))),?_⟩
 refine ⟨_,rfl,_,rfl,a,_,rfl,SqT.of ha,(fun h=>absurd h.1 (by show ¬ (HT.sIx 5 0 (some 1)=0);decide)),fun p hp=>?_⟩
 have s1:=same_new hp (.tup (cutV [V.str "put",V.str r,V.ref b,u,V.int c] (some 1) none))
 refine ⟨p,_,rfl,SqT.of upd_same,rfl,_,_,rfl,_,_,rfl,_,_,rfl,_,_,rfl,rfl,?_⟩
 generalize upd H p (.tup (cutV [V.str "put",V.str r,V.ref b,u,V.int c] (some 1) none))=H1 at *
 have tk1:=TKF.same s1
 refine ⟨_,rfl,_,rfl,r,n,k,rvs,L,rfl,s1 _ _ hn,hV.tk tk1,fun rv R g1 g2 g3 g4 g5=>?_⟩
 refine ⟨_,rfl,_,rfl,b,x,d,m,N,rfl,s1 _ _ hb,s1 _ _ hm,?_⟩
 refine ⟨_,rfl,_,rfl,_,rfl,u,t,m,n,k,N,rvs,L,rfl,hu'.mono s1,s1 _ _ hm,s1 _ _ hn,hV.tk tk1,hk,?_⟩
 refine ⟨_,rfl,_,_,rfl,rfl,?_⟩
 refine ⟨rv,numA N x+d,t.val N L+c,(lrow L r).1,R,rfl,g1,g2.up,by omega,fun R' v' H' s2 c1 c2 c3 c4=>?_⟩
 refine q v' H' (s1.trans s2) ⟨R',row_at_held c4,c1,?_,fun z=>?_⟩ g4
 ·show R'.length≤40+2 * ((lrow L r).2.2++[(numA N x+d,t.val N L+c)]).length
  rw [List.length_append]
  show R'.length≤40+2 * ((lrow L r).2.2.length+1)
  omega
 ·show heldN (lrow L r).1 R' z=_
  rw [c2,g5,heldW_snoc]
theorem ok_pick_at {f:Addr} {fd:FuncData} (F:Fun K "pick_at" "pick_at" sPick_at f fd) (B:Free0 mg):FnOk P w K mg base CX0 1 f fd ["picks","n","lacking"] spPick_at:=by
 have sc:FnScope ["picks","n","lacking"] ["picks","n","lacking"] (defScope sPick_at):=⟨rfl,rfl,rfl,by decide +kernel,rfl,by decide +kernel,by decide +kernel⟩
 refine F.ok sc (fun vs H Q E h=>?_) (fun cdv A outer s H vs Q E hr h=>?_)
 ·obtain ⟨p,j,lv,pks,rfl,_⟩:=h
  rfl
 obtain ⟨p,j,lv,pks,rfl,hp,q1,q2⟩:=h
 refine ⟨_,(pss_cons (ps_if (pt_cmpR op_lt (pv 1) (pe_cB call_len_seq (by rfl) B.len_ bt_len (pa_c (pv 0) pa_nil)) (nomark _)) (pss_one (ps_ret (pe_ix ix_list (pv 0) (pv 1) (fun _ _=>rfl)))) pss_nil)
   (pss_one (ps_ret (pv 2)))),?_⟩
 refine ⟨_,rfl,_,rfl,p,_,rfl,.inl (SqL.of hp),_,_,rfl,rfl,_,rfl,ite2 (fun c=>?_) (fun c=>?_)⟩
 ·have c':j < pks.length:=by
   have:=of_decide_eq_true c
   omega
  have e:=List.getElem?_eq_getElem c'
  exact ⟨_,rfl,_,rfl,p,_,_,_,rfl,rfl,SqL.of hp,atI_nat e,q1 _ e⟩
 ·have c':¬ j < pks.length:=fun z=>c (decide_eq_true (by omega))
  exact ⟨_,rfl,q2 (by omega)⟩
end
end LW
namespace L2
open PySem PySem.Spec PyProof.Rows PySem.W
section
variable {prog:Program} {w:World} {A:Around} {E:Value→Shared→Prop} {s:Shared}
theorem sorted_intsM {l:Addr} {vs:List Value} {ns:List Int} {Q:Value→Shared→Prop} (hl:s.heap.IsList l vs.toArray) (hI:IntsAre vs ns) (most:vs.length≤1000)
  (h:∀ (out:Array Value) (ns':List Int),IntsAre out.toList ns'→ns'.Perm ns→ns'.Pairwise (·≤·)→Q (.ref (s.heap.objs.size+1)) { s with heap:=sortedAll s.heap vs out }) :
  wpAny (model prog w) A (call (.builtin "sorted") [.ref l]) Q E s:=by
 refine Calls.call_function_entry kind_sorted plain_sorted entry_sorted (args_sorted1 _) ?_
 unfold Builtin.«sorted»
 refine wpAny_bind (m:=checkCount "sorted" 1 1 _) (wpAny_pure ?_)
 refine wpAny_bind (collect_list hl ?_)
 refine wpAny_bind (wpAny_newList ?_ (by show vs.length≤_;exact Nat.le_trans most line1000))
 have hsz:((s.heap.push (seqObj "list" #[] 0)).update s.heap.objs.size (Obj.mapSeq (·++vs.toArray))).objs.size=s.heap.objs.size+1:=by
  rw [Heap.size_update,size_push']
 have hoL:(((s.heap.push (seqObj "list" #[] 0)).update s.heap.objs.size (Obj.mapSeq (·++vs.toArray))).push (seqObj "list" vs.toArray 0)).get? (s.heap.objs.size+1)=some (seqObj "list" vs.toArray 0):=by
  rw [← hsz];exact Heap.get?_push_size _ rfl
 show wpAny _ _ _ _ _ { s with heap:=((s.heap.push (seqObj "list" #[] 0)).update s.heap.objs.size (Obj.mapSeq (·++vs.toArray))).push (seqObj "list" vs.toArray 0) }
 rw [hsz]
 refine wpAny_bind (wpAny_holding (wpAny_call_entry slot_list_sort ⟨_,hoL,rfl⟩ entry_list_sort (Tim.sort_more hoL hI most fun out ns' a1 a2 a3=>⟨_,rfl,?_⟩) (args_list_sort _)))
 exact wpAny_pure ⟨_,rfl,h out ns' a1 a2 a3⟩
end
theorem call_sorted_intsM {X:Cx}:CallR X (.builtin "sorted") (fun xs H Q=>∃ (p:Addr) (ns:List Int),xs=[.ref p]∧SqL X.K H p (ns.map V.int)∧ns.length≤1000∧∀ (l:Addr) (ns':List Int),H l=none→ns'.Perm ns→ns'.Pairwise (·≤·)→Q (.ref l) (upd H l (.lst (ns'.map V.int)))):=by
 intro pins s σ H xs us Q I r h
 obtain ⟨p,ns,rfl,hq,most,q⟩:=h
 obtain ⟨u,rfl,rx⟩:=vals1 r
 cases rx
 obtain ⟨its,rv,pl,hz⟩:=I.list hq
 have hl:=rv.length
 rw [List.length_map] at hl
 refine sorted_intsM pl.isList (ints_are rv) (by omega) fun out ns' a1 a2 a3=>?_
 obtain ⟨e,he⟩:=sortedAll_at s.heap its out
 have hp:=a2.length_eq
 refine ⟨.ref (s.heap.objs.size+1),_,I.laid (t':=s.toks) (fun b o=>sortedAll_old) (Nat.le_succ _) (show ObjOk X.prog X.w _ _ _ (.lst (ns'.map V.int)) from ⟨?_,out.toList,e,vals_ints a1,?_⟩),rfl,q _ _ (I.hok.fresh (Nat.le_succ _)) a2 a3⟩
 ·rw [List.length_map]
  exact Nat.le_trans (by omega) line1000
 ·rw [Array.toArray_toList]
  exact he
end L2
namespace LW
open PySem L2
abbrev sRun_places:Stmt:=top 17
abbrev sLeast_holds:Stmt:=top 12
abbrev sEach_holds:Stmt:=top 13
abbrev sRise_holds:Stmt:=top 16
abbrev sBounded:Stmt:=top 14
abbrev sCompared_row:Stmt:=top 15
abbrev sHoldsP:Stmt:=top 9
inductive Cl where
 | least (a b:Tm) (c:Int)
 | each (tx:Str) (td:Int) (ux:Str) (ud:Int) (r way kd x:Str) (c:Int)
 | rise (tx:Str) (td:Int) (ux:Str) (ud:Int) (r:Str)
def Cl.toD:Cl→D
 | .least a b c=>.tup [.str "least",a.toD,b.toD,.int c]
 | .each tx td ux ud r way kd x c=>.tup [.str "each",plD tx td,plD ux ud,.str r,.str way,.tup [.str kd,.str x],.int c]
 | .rise tx td ux ud r=>.tup [.str "rise",plD tx td,plD ux ud,.str r]
def bnd (way:Str) (v b:Int):Bool:=if way = ">=" then decide (b≤v) else decide (v≤b)
def othV (N:List (Str×Int)) (L:List (Str×LRow)) (kd x:Str) (z:Int):Int:=if kd = "row" then heldW (lrow L x) z else numA N x
def Cl.Tru (N:List (Str×Int)) (L:List (Str×LRow)):Cl→Prop
 | .least a b c=>b.val N L+c≤a.val N L
 | .each tx td ux ud r way kd x c=>∀ k,numA N tx+td≤k→k≤numA N ux+ud→bnd way (heldW (lrow L r) k) (othV N L kd x k+c)=true
 | .rise tx td ux ud r=>∀ k l,numA N tx+td≤k→k < l→l≤numA N ux+ud→heldW (lrow L r) k≤heldW (lrow L r) l
theorem le_inv {H:Hp} {a b:Tm} {c:Int} {v:V} (h:Held H (Cl.least a b c).toD v):∃ p u w,v=.ref p∧H p=some (.tup [.str "least",u,w,.int c])∧Held H a.toD u∧Held H b.toD w:=by
 obtain ⟨p,xs,rfl,ha,h1⟩:=held_tup_inv h
 obtain ⟨v1,r1,rfl,e1,h2⟩:=heldL_cons_inv h1
 obtain ⟨v2,r2,rfl,e2,h3⟩:=heldL_cons_inv h2
 obtain ⟨v3,r3,rfl,e3,h4⟩:=heldL_cons_inv h3
 obtain ⟨v4,r4,rfl,e4,h5⟩:=heldL_cons_inv h4
 cases heldL_nil_inv h5
 cases held_str_inv e1
 cases held_int_inv e4
 exact ⟨p,v2,v3,rfl,ha,e2,e3⟩
theorem ea_inv {H:Hp} {tx ux r way kd x:Str} {td ud c:Int} {v:V} (h:Held H (Cl.each tx td ux ud r way kd x c).toD v):∃ a b e o,v=.ref a∧H a=some (.tup [.str "each",.ref b,.ref e,.str r,.str way,.ref o,.int c])∧H b=some (.tup [.str tx,.int td])∧H e=some (.tup [.str ux,.int ud])∧H o=some (.tup [.str kd,.str x]):=by
 obtain ⟨a,xs,rfl,ha,h1⟩:=held_tup_inv h
 obtain ⟨v1,r1,rfl,e1,h2⟩:=heldL_cons_inv h1
 obtain ⟨v2,r2,rfl,e2,h3⟩:=heldL_cons_inv h2
 obtain ⟨v3,r3,rfl,e3,h4⟩:=heldL_cons_inv h3
 obtain ⟨v4,r4,rfl,e4,h5⟩:=heldL_cons_inv h4
 obtain ⟨v5,r5,rfl,e5,h6⟩:=heldL_cons_inv h5
 obtain ⟨v6,r6,rfl,e6,h7⟩:=heldL_cons_inv h6
 obtain ⟨v7,r7,rfl,e7,h8⟩:=heldL_cons_inv h7
 cases heldL_nil_inv h8
 cases held_str_inv e1
 cases held_str_inv e4
 cases held_str_inv e5
 cases held_int_inv e7
 obtain ⟨b,rfl,hb⟩:=pl_inv e2
 obtain ⟨e,rfl,he⟩:=pl_inv e3
 obtain ⟨o,rfl,ho⟩:=is_inv e6
 exact ⟨a,b,e,o,rfl,ha,hb,he,ho⟩
theorem ri_inv {H:Hp} {tx ux r:Str} {td ud:Int} {v:V} (h:Held H (Cl.rise tx td ux ud r).toD v):∃ a b c,v=.ref a∧H a=some (.tup [.str "rise",.ref b,.ref c,.str r])∧H b=some (.tup [.str tx,.int td])∧H c=some (.tup [.str ux,.int ud]):=by
 obtain ⟨a,xs,rfl,ha,h1⟩:=held_tup_inv h
 obtain ⟨v1,r1,rfl,e1,h2⟩:=heldL_cons_inv h1
 obtain ⟨v2,r2,rfl,e2,h3⟩:=heldL_cons_inv h2
 obtain ⟨v3,r3,rfl,e3,h4⟩:=heldL_cons_inv h3
 obtain ⟨v4,r4,rfl,e4,h5⟩:=heldL_cons_inv h4
 cases heldL_nil_inv h5
 cases held_str_inv e1
 cases held_str_inv e4
 obtain ⟨b,rfl,hb⟩:=pl_inv e2
 obtain ⟨c,rfl,hc⟩:=pl_inv e3
 exact ⟨a,b,c,rfl,ha,hb,hc⟩
def PlacesOf (t u:Int) (ps:List (Int×Int)) (ns:List Int):Prop:=ns.Pairwise (· < ·)∧∀ x,x∈ns↔(x=t∨x∈ps.map (·.1))∧t≤x∧x≤u
theorem most_of:∀ {l:List Int},l≠[]→∃ m∈l,∀ x∈l,x≤m
 | [],h=>absurd rfl h
 | [a],_=>⟨a,List.mem_cons_self,fun x hx=>by rw [List.mem_singleton.mp hx];exact Int.le_refl _⟩
 | a :: b :: l,_=>by
  obtain ⟨m,h1,h2⟩:=most_of (l:=b :: l) (by simp)
  rcases Int.le_total a m with c | c
  ·exact ⟨m,List.mem_cons_of_mem _ h1,fun x hx=>by
    rcases List.mem_cons.mp hx with rfl | hx
    ·exact c
    ·exact h2 x hx⟩
  ·exact ⟨a,List.mem_cons_self,fun x hx=>by
    rcases List.mem_cons.mp hx with rfl | hx
    ·exact Int.le_refl _
    ·exact Int.le_trans (h2 x hx) c⟩
theorem last_upto {ns:List Int} {t k:Int} (ht:t∈ns) (hk:t≤k):∃ m∈ns,m≤k∧t≤m∧∀ x∈ns,x≤k→x≤m:=by
 obtain ⟨m,h1,h2⟩:=most_of (l:=ns.filter fun x=>decide (x≤k)) (by
  intro e
  have:t∈ns.filter fun x=>decide (x≤k):=List.mem_filter.mpr ⟨ht,decide_eq_true hk⟩
  rw [e] at this
  cases this)
 obtain ⟨h3,h4⟩:=List.mem_filter.mp h1
 exact ⟨m,h3,of_decide_eq_true h4,h2 t (List.mem_filter.mpr ⟨ht,decide_eq_true hk⟩),fun x hx hxk=>h2 x (List.mem_filter.mpr ⟨hx,decide_eq_true hxk⟩)⟩
theorem places_at {t u k:Int} {ps:List (Int×Int)} {ns:List Int} (h:PlacesOf t u ps ns) (h1:t≤k) (h2:k≤u):∃ m∈ns,m≤k∧t≤m∧(∀ x∈ns,x≤k→x≤m)∧∀ y∈ps,¬ (m < y.1∧y.1≤k):=by
 obtain ⟨m,hm,a1,a2,a3⟩:=last_upto ((h.2 t).mpr ⟨.inl rfl,Int.le_refl _,by omega⟩) h1
 refine ⟨m,hm,a1,a2,a3,fun y hy c=>?_⟩
 have:=a3 y.1 ((h.2 y.1).mpr ⟨.inr (List.mem_map.mpr ⟨y,hy,rfl⟩),by omega,by omega⟩) c.2
 omega
def eachB (way:Str) (c:Int) (f g:Int→Int) (ns:List Int):Bool:=ns.all fun k=>bnd way (f k) (g k+c)
theorem each_iff {t u c:Int} {way:Str} {ps:List (Int×Int)} {ns:List Int} {f g:Int→Int} (h:PlacesOf t u ps ns) (hf:∀ m k,m≤k→(∀ y∈ps,¬ (m < y.1∧y.1≤k))→f k=f m) (hg:∀ m k,m≤k→(∀ y∈ps,¬ (m < y.1∧y.1≤k))→g k=g m) :
  eachB way c f g ns=true↔∀ k,t≤k→k≤u→bnd way (f k) (g k+c)=true:=by
 unfold eachB
 rw [List.all_eq_true]
 constructor
 ·intro a k h1 h2
  obtain ⟨m,hm,b1,_,_,b2⟩:=places_at h h1 h2
  rw [hf m k b1 b2,hg m k b1 b2]
  exact a m hm
 ·intro a k hk
  obtain ⟨_,h1,h2⟩:=(h.2 k).mp hk
  exact a k h1 h2
def risesB (f:Int→Int) (ns:List Int):Bool:=decide ((ns.map f).Pairwise (·≤·))
theorem pair_lt {R:Int→Int→Prop} {l:List Int} (h:l.Pairwise R) (up:l.Pairwise (· < ·)) {a b:Int} (ha:a∈l) (hb:b∈l) (hab:a < b):R a b:=by
 obtain ⟨i,hi,rfl⟩:=List.mem_iff_getElem.mp ha
 obtain ⟨j,hj,rfl⟩:=List.mem_iff_getElem.mp hb
 rcases Nat.lt_trichotomy i j with c | c | c
 ·exact List.pairwise_iff_getElem.mp h i j hi hj c
 ·subst c;omega
 ·have:=List.pairwise_iff_getElem.mp up j i hj hi c
  omega
theorem rise_iff {t u:Int} {ps:List (Int×Int)} {ns:List Int} {f:Int→Int} (h:PlacesOf t u ps ns) (hf:∀ m k,m≤k→(∀ y∈ps,¬ (m < y.1∧y.1≤k))→f k=f m) :
  risesB f ns=true↔∀ k l,t≤k→k < l→l≤u→f k≤f l:=by
 unfold risesB
 rw [decide_eq_true_iff,List.pairwise_map]
 constructor
 ·intro a k l h1 h2 h3
  obtain ⟨m,hm,b1,b2,b3,b4⟩:=places_at h h1 (by omega)
  obtain ⟨n,hn,c1,c2,c3,c4⟩:=places_at h (show t≤l by omega) h3
  rw [hf m k b1 b4,hf n l c1 c4]
  have hmn:=c3 m hm (by omega)
  rcases Int.lt_or_eq_of_le hmn with c | c
  ·exact pair_lt a h.1 hm hn c
  ·rw [c];exact Int.le_refl _
 ·intro a
  refine List.Pairwise.imp_of_mem (R:=(· < ·)) (fun {x y} hx hy hxy=>?_) h.1
  obtain ⟨_,h1,h2⟩:=(h.2 x).mp hx
  obtain ⟨_,h3,h4⟩:=(h.2 y).mp hy
  exact a x y h1 hxy h4
abbrev allP (rs:List (Int×List (Int×Int))):List (Int×Int):=rs.flatMap (·.2)
def RowsIn (K:PySem.W.Frag) (H:Hp) (hs:List V) (rs:List (Int×List (Int×Int))):Prop:=∀ i (hi:i < rs.length),∃ v,hs[i]?=some v∧RowAt K H v rs[i]
theorem RowsIn.mono {K:PySem.W.Frag} {H H':Hp} {hs:List V} {rs:List (Int×List (Int×Int))} (e:Same H H') (h:RowsIn K H hs rs):RowsIn K H' hs rs:=fun i hi=>by
 obtain ⟨v,e1,e2⟩:=h i hi
 exact ⟨v,e1,e2.mono e⟩
theorem sqT_upd {K:PySem.W.Frag} {G:Hp} {l:Addr} {ys zs:List V} (h:G l=some (.lst ys)) {c:Addr} {xs:List V} (z:SqT K G c xs):SqT K (upd G l (.lst zs)) c xs:=by
 rcases z with (z | ⟨o,z⟩) | z
 ·exact .inl (.inl (by rw [upd_ne (ne_of z h (by intro z;cases z))];exact z))
 ·exact .inl (.inr ⟨o,by rw [upd_ne (ne_of z h (by intro z;cases z))];exact z⟩)
 ·exact .inr z
theorem RowsIn.upd {K:PySem.W.Frag} {G:Hp} {l:Addr} {ys zs:List V} {hs:List V} {rs:List (Int×List (Int×Int))} (e:G l=some (.lst ys)) (h:RowsIn K G hs rs):RowsIn K (L2.upd G l (.lst zs)) hs rs:=fun i hi=>by
 obtain ⟨v,e1,e2⟩:=h i hi
 obtain ⟨a,b,qs,e3,e4,e5,e6,e7⟩:=e2.ex
 refine ⟨v,e1,a,b,qs,e3,sqT_upd e e4,sqT_upd e e5,e6,fun j hj=>?_⟩
 obtain ⟨c,f1,f2⟩:=e7 j hj
 exact ⟨c,f1,sqT_upd e f2⟩
theorem allP_take {rs:List (Int×List (Int×Int))} {i:Nat} (hi:i < rs.length):allP (rs.take (i+1))=allP (rs.take i)++rs[i].2:=by
 unfold allP
 rw [List.take_succ,List.getElem?_eq_getElem hi,List.flatMap_append]
 simp
theorem allP_le {rs:List (Int×List (Int×Int))} (i:Nat):(allP (rs.take i)).length≤(allP rs).length:=by
 have e:allP rs=allP (rs.take i)++allP (rs.drop i):=by
  unfold allP
  rw [← List.flatMap_append,List.take_append_drop]
 rw [e,List.length_append]
 omega
def spRun (K:PySem.W.Frag):Sp:=fun vs H Q _=>∃ (t u:Int) (h:Addr) (hs:List V) (rs:List (Int×List (Int×Int))),vs=[.int t,.int u,.ref h]∧H h=some (.lst hs)∧hs.length=rs.length∧RowsIn K H hs rs∧(allP rs).length≤600∧
 ∀ l ns H',Same H H'→H' l=some (.lst (ns.map V.int))→PlacesOf t u (allP rs) ns→ns.length≤601→Q (.ref l) H'
theorem lt_of_le_nodup {ns:List Int} (h:ns.Pairwise (·≤·)) (n:ns.Nodup):ns.Pairwise (· < ·):=(h.and n).imp fun h=>by
 have:=h.1
 have:=h.2
 omega
def spBounded:Sp:=fun vs H Q _=>∃ (v b:Int) (way:Str),vs=[.int v,.str way,.int b]∧Q (.bl (bnd way v b)) H
def spCompared (K:PySem.W.Frag):Sp:=fun vs H Q _=>∃ (o m n:Addr) (kd x:Str) (i:Nat) (N:List (Str×Int)) (rvs:List (Key×V)) (L:List (Str×LRow)),vs=[.ref o,.ref m,.ref n]∧H o=some (.tup [.str kd,.str x])∧H m=some (.dK (nKV N))∧H n=some (.dK rvs)∧RV K H i rvs L∧i≤100∧
 ∀ v b R H',Same H H'→RowAt K H' v (b,R)→Rising R→R.length≤240→(∀ z,heldN b R z=othV N L kd x z)→Q v H'
def spHoldsP (ok:Cl→Prop) (K:PySem.W.Frag):Sp:=fun vs H Q _=>∃ (v:V) (C:Cl) (m n:Addr) (i:Nat) (N:List (Str×Int)) (rvs:List (Key×V)) (L:List (Str×LRow)),vs=[v,.ref m,.ref n]∧Held H C.toD v∧ok C∧H m=some (.dK (nKV N))∧H n=some (.dK rvs)∧RV K H i rvs L∧i≤100∧
 ∀ b H',Same H H'→(b=true↔C.Tru N L)→Q (.bl b) H'
def isLe:Cl→Prop | .least ..=>True | _=>False
def isEa:Cl→Prop | .each ..=>True | _=>False
def isRi:Cl→Prop | .rise ..=>True | _=>False
section
variable {P:Program} {w:World} {K:PySem.W.Frag} {mg:Str→Option Value} {base:Heap}
theorem ok_run {f:Addr} {fd:FuncData} (F:Fun K "run_places" "run_places" sRun_places f fd) (B:Free0 mg):FnOk P w K mg base CX0 1 f fd ["t","u","held_rows"] (spRun K):=by
 have sc:FnScope ["t","u","held_rows","places","base","steps"] ["t","u","held_rows"] (defScope sRun_places):=⟨rfl,rfl,rfl,by decide +kernel,rfl,by decide +kernel,by decide +kernel⟩
 refine F.ok sc (fun vs H Q E h=>?_) (fun cdv A outer s H vs Q E hr h=>?_)
 ·obtain ⟨t,u,h,hs,rs,rfl,_⟩:=h
  rfl
 obtain ⟨t,u,h,hs,rs,rfl,hh,hlr,hv,h200,q⟩:=h
 refine ⟨_,(pss_cons (ps_set (i:=3) sc.nd rfl (by first | exact Or.inl rfl | exact Or.inr rfl) (pe_lst (pa_c (pv 0) pa_nil)))
   (pss_cons (ps_for PassesOwn.never rfl (pi_list (pv 2)) (pg_tup rfl (pgs_cons (pg_name (i:=4) sc.nd rfl (by first | exact Or.inl rfl | exact Or.inr rfl)) (pgs_cons (pg_name (i:=5) sc.nd rfl (by first | exact Or.inl rfl | exact Or.inr rfl)) pgs_nil))) (pss_one (ps_expr (pe_bm PySem.F.plainAttrs_list PySem.F.slot_list_extend PySem.F.type_list_extend mt_extend (pv 3) (pa_c (pe_comp ["place","value"] [] rfl (comp_ok (sc:=defScope sRun_places) (N:=["t","u","held_rows","places","base","steps"]) rfl rfl (by decide +kernel)) (pi_tup (pv 5)) (fun s H ex=>⟨(pg_tupK (K:=K) (n:=2) rfl (pgs_cons (pg_name (i:=0) (show List.Nodup (["place","value"]:List Str) by decide +kernel) rfl (by first | exact Or.inl rfl | exact Or.inr rfl)) (pgs_cons (pg_name (i:=1) (show List.Nodup (["place","value"]:List Str) by decide +kernel) rfl (by first | exact Or.inl rfl | exact Or.inr rfl)) pgs_nil))),pts_nil,(pv 0)⟩)) pa_nil)))))
   (pss_one (ps_ret (pe_comp ["place"] [0,1] rfl (comp_ok (sc:=defScope sRun_places) (N:=["t","u","held_rows","places","base","steps"]) rfl rfl (by decide +kernel)) (pi_list (pe_cB (call_sorted_setM (P:=P) (w:=w) rfl) (by rfl) B.sorted_ bt_sorted (pa_c (pe_cT (call_set_intsP (P:=P) (w:=w) rfl) (by rfl) B.set_ bt_set (pa_c (pv 3) pa_nil)) pa_nil))) (fun s H ex=>⟨(pg_name (i:=0) (show List.Nodup (["place","t","u"]:List Str) by decide +kernel) rfl (by first | exact Or.inl rfl | exact Or.inr rfl)),(pts_one (pt_chain op_le op_le (pv 1) (pv 0) (pv 2))),(pv 0)⟩)))))),?_⟩
 refine ⟨_,rfl,sm rfl,fun l hl=>?_⟩
 have s1:=same_new hl (.lst [V.int t])
 have e1:upd H l (.lst [V.int t]) l=some (.lst [V.int t]):=upd_same
 have hv1:=hv.mono s1
 generalize upd H l (.lst [V.int t])=H1 at *
 have hh1:=s1 _ _ hh
 refine ⟨_,rfl,h,rfl,⟨_,SqL.of hh1⟩,for_list (xs:=hs) (fun i σ G=>∃ u1 u2,σ=[some (.int t),some (.int u),some (.ref h),some (.ref l),u1,u2]∧Same H G∧RowsIn K G hs rs∧
  G l=some (.lst ((t :: (allP (rs.take i)).map (·.1)).map V.int))) ⟨none,none,rfl,s1,hv1,e1⟩ ?_ ?_ ?_⟩
 ·rintro i σ G _ ⟨u1,u2,rfl,sG,_⟩
  exact SqL.of (sG _ _ hh)
 ·rintro i x σ G hx ⟨u1,u2,rfl,sG,hRI,hGl⟩
  have hi:i < rs.length:=by
   have:=(List.getElem?_eq_some_iff.mp hx).1
   omega
  obtain ⟨v,e2,e3⟩:=hRI i hi
  rw [hx] at e2
  cases e2
  have etake:=allP_take hi
  have hle:=allP_le (rs:=rs) (i+1)
  rw [etake,List.length_append] at hle
  generalize rs[i]=r at *
  obtain ⟨a,b,qs,rfl,ha,hb,hq⟩:=e3.ex
  refine ⟨a,_,rfl,ha,rfl,_,_,rfl,_,_,rfl,rfl,?_⟩
  refine ⟨_,rfl,.inl ⟨rfl,_,SqL.of hGl⟩,_,rfl,b,rfl,⟨_,hb⟩,fun p hp=>?_⟩
  have hlen:=hq.1
  have s2:=same_new hp (.lst [])
  refine comp_tup (xs:=qs) (fun i σ' G'=>∃ u3 u4,σ'=[u3,u4]∧Same G G'∧G' p=some (.lst ((r.2.take i).map fun q=>V.int q.1))) ⟨none,none,rfl,s2,upd_same⟩ ?_ ?_ ?_
  ·rintro i σ' G' _ ⟨u3,u4,rfl,sG',_⟩
   exact sG'.sqT hb
  ·rintro i x σ' G' hx ⟨u3,u4,rfl,sG',hGp⟩
   have hi:i < r.2.length:=by
    rw [← hlen]
    exact (List.getElem?_eq_some_iff.mp hx).1
   obtain ⟨c,f1,f2⟩:=hq.2 i hi
   rw [hx] at f1
   cases f1
   refine ⟨c,_,rfl,sG'.sqT f2,rfl,_,_,rfl,_,_,rfl,rfl,?_⟩
   unfold tYes
   refine iteT ?_
   refine ⟨_,rfl,_,hGp,?_,_,_,rfl,?_,?_⟩
   ·rw [List.length_map,List.length_take]
    exact small1000 (by omega)
   ·intro c o e
    rw [upd_ne (ne_of_none e hp)]
    exact sG' _ _ e
   ·rw [upd_same,List.take_succ,List.getElem?_eq_getElem hi,List.map_append]
    rfl
  ·rintro σ' G' ⟨u3,u4,rfl,sG',hGp⟩
   rw [hlen,List.take_length] at hGp
   have hll:=sG' _ _ hGl
   refine ⟨l,p,_,_,rfl,rfl,hll,hGp,?_,?_⟩
   ·rw [List.length_map,List.length_map,List.length_cons,List.length_map]
    exact Nat.le_of_lt (small1000 (by omega))
   refine ⟨_,_,rfl,?_,(hRI.mono sG').upd hll,?_⟩
   ·intro c o e
    rw [upd_ne (ne_of_none e hl)]
    exact sG' _ _ (sG _ _ e)
   ·rw [upd_same,etake]
    simp [Function.comp_def]
 ·rintro σ G ⟨u1,u2,rfl,sG,hRI,hGl⟩
  rw [hlr,List.take_length] at hGl
  generalize allP rs=AP at *
  refine ⟨_,rfl,l,_,rfl,SqL.of hGl,?_,fun v hv=>?_⟩
  ·rw [List.length_cons,List.length_map]
   omega
  have s2:=same_new hv (setP P w v (dedup (t :: AP.map (·.1))))
  obtain ⟨d1,d2,d3⟩:=dedup_ok (t :: AP.map (·.1))
  have hdl:(dedup (t :: AP.map (·.1))).length≤601:=by
   rw [List.length_cons,List.length_map] at d2
   omega
  refine ⟨v,_,rfl,upd_same,by omega,fun l2 ns hl2 hperm hsort=>?_⟩
  have s3:=same_new hl2 (.lst (ns.map V.int))
  have e3:upd (upd G v (setP P w v (dedup (t :: AP.map (·.1))))) l2 (.lst (ns.map V.int)) l2=some (.lst (ns.map V.int)):=upd_same
  have s23:=s2.trans s3
  generalize upd (upd G v (setP P w v (dedup (t :: AP.map (·.1))))) l2 (.lst (ns.map V.int))=G3 at *
  have hnl:ns.length≤601:=by rw [hperm.length_eq];exact hdl
  have hlt:=lt_of_le_nodup hsort ((hperm.nodup_iff).mpr d1)
  refine ⟨l2,rfl,⟨_,SqL.of e3⟩,fun p hp=>?_⟩
  have s4:=same_new hp (.lst [])
  refine comp_list (xs:=ns.map V.int) (fun i σ' G'=>∃ u3,σ'=[u3,some (.int t),some (.int u)]∧Same G3 G'∧G' p=some (.lst (((ns.take i).filter fun x=>decide (t≤x∧x≤u)).map V.int))) ⟨none,rfl,s4,upd_same⟩ ?_ ?_ ?_
  ·rintro i σ' G' _ ⟨u3,rfl,sG',_⟩
   exact SqL.of (sG' _ _ e3)
  ·rintro i x σ' G' hx ⟨u3,rfl,sG',hGp⟩
   have hi:i < ns.length:=by
    have:=(List.getElem?_eq_some_iff.mp hx).1
    rw [List.length_map] at this
    exact this
   rw [List.getElem?_map,List.getElem?_eq_getElem hi] at hx
   cases hx
   have et:(ns.take (i+1)).filter (fun x=>decide (t≤x∧x≤u))=(ns.take i).filter (fun x=>decide (t≤x∧x≤u))++(if t≤ns[i]∧ns[i]≤u then [ns[i]] else []):=by
    rw [List.take_succ,List.getElem?_eq_getElem hi,List.filter_append]
    congr 1
    show List.filter _ [ns[i]]=_
    rw [List.filter_cons]
    split
    ·next h1=>rw [if_pos (of_decide_eq_true h1)];rfl
    ·next h1=>rw [if_neg (fun z=>h1 (decide_eq_true z))];rfl
   unfold gName
   refine ⟨_,rfl,_,rfl,_,_,rfl,rfl,_,rfl,?_⟩
   by_cases c1:t≤ns[i]
   ·rw [decide_eq_true c1]
    refine iteT ?_
    refine ⟨_,rfl,_,_,rfl,rfl,_,rfl,?_⟩
    by_cases c2:ns[i]≤u
    ·rw [decide_eq_true c2]
     refine iteT ?_
     rw [if_pos ⟨c1,c2⟩] at et
     refine ⟨_,rfl,_,hGp,?_,_,rfl,?_,?_⟩
     ·rw [List.length_map]
      have:((ns.take i).filter fun x=>decide (t≤x∧x≤u)).length≤(ns.take i).length:=List.length_filter_le _ _
      rw [List.length_take] at this
      exact small1000 (by omega)
     ·intro c o e
      rw [upd_ne (ne_of_none e hp)]
      exact sG' _ _ e
     ·rw [upd_same,et,List.map_append]
      rfl
    ·rw [decide_eq_false c2]
     refine iteF ?_
     rw [if_neg (fun z=>c2 z.2),List.append_nil] at et
     exact ⟨_,rfl,sG',by rw [et];exact hGp⟩
   ·rw [decide_eq_false c1]
    refine iteF ?_
    refine ⟨_,rfl,iteF ?_⟩
    rw [if_neg (fun z=>c1 z.1),List.append_nil] at et
    exact ⟨_,rfl,sG',by rw [et];exact hGp⟩
  ·rintro σ' G' ⟨u3,rfl,sG',hGp⟩
   rw [List.length_map,List.take_length] at hGp
   refine q p _ G' (sG.trans (s23.trans sG')) hGp ⟨hlt.sublist List.filter_sublist,fun x=>?_⟩ (Nat.le_trans (List.length_filter_le _ _) hnl)
   rw [List.mem_filter,decide_eq_true_iff,hperm.mem_iff,d3,List.mem_cons]
theorem ok_bounded {f:Addr} {fd:FuncData} (F:Fun K "bounded" "bounded" sBounded f fd):FnOk P w K mg base CX0 1 f fd ["value","way","bound"] spBounded:=by
 have sc:FnScope ["value","way","bound"] ["value","way","bound"] (defScope sBounded):=⟨rfl,rfl,rfl,by decide +kernel,rfl,by decide +kernel,by decide +kernel⟩
 refine F.ok sc (fun vs H Q E h=>?_) (fun cdv A outer s H vs Q E hr h=>?_)
 ·obtain ⟨v,b,way,rfl,_⟩:=h
  rfl
 obtain ⟨v,b,way,rfl,q⟩:=h
 refine ⟨_,(pss_cons (ps_if (pt_cmpR op_eq (pv 1) pe_str (nomark _)) (pss_one (ps_ret (pe_cmpR op_ge (pv 0) (pv 2) (nomark _)))) pss_nil)
   (pss_one (ps_ret (pe_cmpR op_le (pv 0) (pv 2) (nomark _))))),?_⟩
 refine ⟨_,rfl,rfl,_,rfl,?_⟩
 unfold bnd at q
 refine ite2 (fun c=>?_) (fun c=>?_)
 ·have c':way = ">=":=by
   have:=of_decide_eq_true c
   injection this
  rw [if_pos c'] at q
  exact ⟨_,rfl,_,rfl,_,_,rfl,rfl,q⟩
 ·have c':¬ way = ">=":=fun e=>c (decide_eq_true (congrArg V.str e))
  rw [if_neg c'] at q
  exact ⟨_,rfl,_,rfl,_,_,rfl,rfl,q⟩
theorem ok_compared {f:Addr} {fd:FuncData} (F:Fun K "compared_row" "compared_row" sCompared_row f fd) (F_row_at:Fn P w K mg base 1 "row_at" ["r","rows"] (spRow_at K)) (F_number_at:Fn P w K mg base 1 "number_at" ["x","numbers"] spNumber_at):FnOk P w K mg base CX0 2 f fd ["b","numbers","rows"] (spCompared K):=by
 have sc:FnScope ["b","numbers","rows"] ["b","numbers","rows"] (defScope sCompared_row):=⟨rfl,rfl,rfl,by decide +kernel,rfl,by decide +kernel,by decide +kernel⟩
 refine F.ok sc (fun vs H Q E h=>?_) (fun cdv A outer s H vs Q E hr h=>?_)
 ·obtain ⟨o,m,n,kd,x,i,N,rvs,L,rfl,_⟩:=h
  rfl
 obtain ⟨o,m,n,kd,x,i,N,rvs,L,rfl,ho,hm,hn,hV,hi,q⟩:=h
 refine ⟨_,(pss_cons (ps_if (pt_cmpR op_eq (pe_ix ix_tup (pv 0) pe_int (fun _ _=>rfl)) pe_str (nomark _)) (pss_one (ps_ret (pe_fn F_row_at hr (pa_c (pe_ix ix_tup (pv 0) pe_int (fun _ _=>rfl)) (pa_c (pv 2) pa_nil))))) pss_nil)
   (pss_one (ps_ret (pe_tup (pa_c (pe_fn F_number_at hr (pa_c (pe_ix ix_tup (pv 0) pe_int (fun _ _=>rfl)) (pa_c (pv 1) pa_nil))) (pa_c (pe_tup pa_nil) pa_nil)))))),?_⟩
 refine ⟨_,rfl,o,_,_,_,rfl,rfl,SqT.of ho,rfl,rfl,_,rfl,?_⟩
 refine ite2 (fun c=>?_) (fun c=>?_)
 ·have c':kd = "row":=by
   have:=of_decide_eq_true c
   injection this
  refine ⟨_,rfl,o,_,_,_,rfl,rfl,SqT.of ho,rfl,_,rfl,x,n,i,rvs,L,rfl,hn,hV,fun v R h1 h2 h3 h4 h5=>?_⟩
  exact q v _ R H (Same.refl _) h1 h2.up (by omega) fun z=>by unfold othV;rw [if_pos c',h5]
 ·have c':¬ kd = "row":=fun e=>c (decide_eq_true (congrArg V.str e))
  refine ⟨_,rfl,o,_,_,_,rfl,rfl,SqT.of ho,rfl,_,rfl,x,m,N,rfl,hm,sm rfl,fun t ht=>?_⟩
  have s1:=same_new ht (.tup [])
  have e1:upd H t (.tup []) t=some (.tup []):=upd_same
  generalize upd H t (.tup [])=H1 at *
  refine ⟨sm rfl,fun p hp=>?_⟩
  have s2:=same_new hp (.tup [V.int (numA N x),V.ref t])
  exact q _ _ [] _ (s1.trans s2) ⟨p,t,[],rfl,SqT.of upd_same,SqT.of (s2 _ _ e1),rfl,fun i hi=>absurd hi (Nat.not_lt_zero _)⟩ List.Pairwise.nil (Nat.zero_le _) fun z=>by unfold othV;rw [if_neg c'];rfl
theorem ok_least {f:Addr} {fd:FuncData} (F:Fun K "least_holds" "least_holds" sLeast_holds f fd) (F_term_at:Fn P w K mg base 3 "term_at" ["term","numbers","rows"] (spTerm_at K)):FnOk P w K mg base CX0 4 f fd ["claim","numbers","rows"] (spHoldsP isLe K):=by
 have sc:FnScope ["claim","numbers","rows","a","b","c"] ["claim","numbers","rows"] (defScope sLeast_holds):=⟨rfl,rfl,rfl,by decide +kernel,rfl,by decide +kernel,by decide +kernel⟩
 refine F.ok sc (fun vs H Q E h=>?_) (fun cdv A outer s H vs Q E hr h=>?_)
 ·obtain ⟨v,C,m,n,i,N,rvs,L,rfl,_⟩:=h
  rfl
 obtain ⟨v,C,m,n,i,N,rvs,L,rfl,hv,ok,hm,hn,hV,hi,q⟩:=h
 cases C with
 | each=>exact ok.elim
 | rise=>exact ok.elim
 | least ta tb c=>
 obtain ⟨a,u,z,rfl,ha,hu',hz⟩:=le_inv hv
 refine ⟨_,(pss_cons (ps_asg (pe_slice sl_tup (pv 0) (po_some pe_int) po_none) (pg_tup rfl (pgs_cons (pg_name (i:=3) sc.nd rfl (by first | exact Or.inl rfl | exact Or.inr rfl)) (pgs_cons (pg_name (i:=4) sc.nd rfl (by first | exact Or.inl rfl | exact Or.inr rfl)) (pgs_cons (pg_name (i:=5) sc.nd rfl (by first | exact Or.inl rfl | exact Or.inr rfl)) pgs_nil)))))
   (pss_one (ps_ret (pe_cmpR op_ge (pe_fn F_term_at hr (pa_c (pv 3) (pa_c (pv 1) (pa_c (pv 2) pa_nil)))) (pe_op op_add (pe_fn F_term_at hr (pa_c (pv 4) (pa_c (pv 1) (pa_c (pv 2) pa_nil)))) (pv 5)) (nomark _))))),?_⟩
 refine ⟨_,rfl,_,rfl,a,_,rfl,SqT.of ha,(fun h=>absurd h.1 (by show ¬ (HT.sIx 4 0 (some 1)=0);decide)),fun p hp=>?_⟩
 have s1:=same_new hp (.tup (cutV [V.str "least",u,z,V.int c] (some 1) none))
 refine ⟨p,_,rfl,SqT.of upd_same,rfl,_,_,rfl,_,_,rfl,_,_,rfl,rfl,?_⟩
 generalize upd H p (.tup (cutV [V.str "least",u,z,V.int c] (some 1) none))=H1 at *
 refine ⟨_,rfl,_,rfl,_,rfl,u,ta,m,n,i,N,rvs,L,rfl,hu'.mono s1,s1 _ _ hm,s1 _ _ hn,hV.tk (TKF.same s1),hi,?_⟩
 refine ⟨_,rfl,_,rfl,_,rfl,z,tb,m,n,i,N,rvs,L,rfl,hz.mono s1,s1 _ _ hm,s1 _ _ hn,hV.tk (TKF.same s1),hi,?_⟩
 exact ⟨_,rfl,_,_,rfl,rfl,_,_,rfl,rfl,q _ _ s1 decide_eq_true_iff⟩
theorem ok_each {f:Addr} {fd:FuncData} (F:Fun K "each_holds" "each_holds" sEach_holds f fd) (F_row_at:Fn P w K mg base 1 "row_at" ["r","rows"] (spRow_at K)) (F_compared_row:Fn P w K mg base 2 "compared_row" ["b","numbers","rows"] (spCompared K)) (F_run_places:Fn P w K mg base 1 "run_places" ["t","u","held_rows"] (spRun K))
  (F_place_at:Fn P w K mg base 2 "place_at" ["place","numbers"] spPlace_at) (F_bounded:Fn P w K mg base 1 "bounded" ["value","way","bound"] spBounded) (F_entry:Fn P w K mg base 2 "entry" ["row","p"] (spEntry K)):FnOk P w K mg base CX0 4 f fd ["claim","numbers","rows"] (spHoldsP isEa K):=by
 have sc:FnScope ["claim","numbers","rows","t","u","r","way","b","c","row","other","k"] ["claim","numbers","rows"] (defScope sEach_holds):=⟨rfl,rfl,rfl,by decide +kernel,rfl,by decide +kernel,by decide +kernel⟩
 refine F.ok sc (fun vs H Q E h=>?_) (fun cdv A outer s H vs Q E hr h=>?_)
 ·obtain ⟨v,C,m,n,i,N,rvs,L,rfl,_⟩:=h
  rfl
 obtain ⟨v,C,m,n,i,N,rvs,L,rfl,hv,ok,hm,hn,hV,hi,q⟩:=h
 cases C with
 | least=>exact ok.elim
 | rise=>exact ok.elim
 | each tx td ux ud r way kd x c=>
 obtain ⟨a,b,e,o,rfl,ha,hb,he,ho⟩:=ea_inv hv
 refine ⟨_,(pss_cons (ps_asg (pe_slice sl_tup (pv 0) (po_some pe_int) po_none) (pg_tup rfl (pgs_cons (pg_name (i:=3) sc.nd rfl (by first | exact Or.inl rfl | exact Or.inr rfl)) (pgs_cons (pg_name (i:=4) sc.nd rfl (by first | exact Or.inl rfl | exact Or.inr rfl)) (pgs_cons (pg_name (i:=5) sc.nd rfl (by first | exact Or.inl rfl | exact Or.inr rfl)) (pgs_cons (pg_name (i:=6) sc.nd rfl (by first | exact Or.inl rfl | exact Or.inr rfl)) (pgs_cons (pg_name (i:=7) sc.nd rfl (by first | exact Or.inl rfl | exact Or.inr rfl)) (pgs_cons (pg_name (i:=8) sc.nd rfl (by first | exact Or.inl rfl | exact Or.inr rfl)) pgs_nil))))))))
   (pss_cons (ps_set (i:=9) sc.nd rfl (by first | exact Or.inl rfl | exact Or.inr rfl) (pe_fn F_row_at hr (pa_c (pv 5) (pa_c (pv 2) pa_nil))))
   (pss_cons (ps_set (i:=10) sc.nd rfl (by first | exact Or.inl rfl | exact Or.inr rfl) (pe_fn F_compared_row hr (pa_c (pv 7) (pa_c (pv 1) (pa_c (pv 2) pa_nil)))))
   (pss_cons (ps_for PassesOwn.never rfl (pi_list (pe_fn F_run_places hr (pa_c (pe_fn F_place_at hr (pa_c (pv 3) (pa_c (pv 1) pa_nil))) (pa_c (pe_fn F_place_at hr (pa_c (pv 4) (pa_c (pv 1) pa_nil))) (pa_c (pe_lst (pa_c (pv 9) (pa_c (pv 10) pa_nil))) pa_nil))))) (pg_name (i:=11) sc.nd rfl (by first | exact Or.inl rfl | exact Or.inr rfl)) (pss_one (ps_if (pt_not (pt_val (pe_fn F_bounded hr (pa_c (pe_fn F_entry hr (pa_c (pv 9) (pa_c (pv 11) pa_nil))) (pa_c (pv 6) (pa_c (pe_op op_add (pe_fn F_entry hr (pa_c (pv 10) (pa_c (pv 11) pa_nil))) (pv 8)) pa_nil)))))) (pss_one (ps_ret pe_bl)) pss_nil)))
   (pss_one (ps_ret pe_bl)))))),?_⟩
 refine ⟨_,rfl,_,rfl,a,_,rfl,SqT.of ha,(fun h=>absurd h.1 (by show ¬ (HT.sIx 7 0 (some 1)=0);decide)),fun p hp=>?_⟩
 have s1:=same_new hp (.tup (cutV [V.str "each",V.ref b,V.ref e,V.str r,V.str way,V.ref o,V.int c] (some 1) none))
 refine ⟨p,_,rfl,SqT.of upd_same,rfl,_,_,rfl,_,_,rfl,_,_,rfl,_,_,rfl,_,_,rfl,_,_,rfl,rfl,?_⟩
 generalize upd H p (.tup (cutV [V.str "each",V.ref b,V.ref e,V.str r,V.str way,V.ref o,V.int c] (some 1) none))=H1 at *
 refine ⟨_,rfl,_,rfl,r,n,i,rvs,L,rfl,s1 _ _ hn,hV.tk (TKF.same s1),fun v1 R1 hv1 c1 l1 wl hh1=>?_⟩
 refine ⟨_,rfl,_,rfl,_,rfl,o,m,n,kd,x,i,N,rvs,L,rfl,s1 _ _ ho,s1 _ _ hm,s1 _ _ hn,hV.tk (TKF.same s1),hi,fun v2 b2 R2 H2 s2 hv2 up2 l2 hh2=>?_⟩
 have s12:=s1.trans s2
 have hv12:=hv1.mono s2
 dsimp only [Cl.Tru] at q
 generalize lrow L r=lr at *
 refine ⟨_,rfl,_,rfl,b,tx,td,m,N,rfl,s12 _ _ hb,s12 _ _ hm,?_⟩
 refine ⟨_,rfl,_,rfl,e,ux,ud,m,N,rfl,s12 _ _ he,s12 _ _ hm,?_⟩
 refine ⟨_,rfl,_,rfl,sm rfl,fun l hl=>?_⟩
 have s3:=same_new hl (.lst [v1,v2])
 have e3:upd H2 l (.lst [v1,v2]) l=some (.lst [v1,v2]):=upd_same
 have hw1:=hv12.mono s3
 have hw2:=hv2.mono s3
 generalize upd H2 l (.lst [v1,v2])=H3 at *
 have s13:=s12.trans s3
 have eP:allP [(lr.1,R1),(b2,R2)]=R1++R2:=by unfold allP;simp
 refine ⟨_,_,l,[v1,v2],[(lr.1,R1),(b2,R2)],rfl,e3,rfl,fun i hi=>?_,(by rw [eP,List.length_append];omega),fun lp ns H4 s4 hlp hpl hnl=>?_⟩
 ·have:i=0∨i=1:=by simp at hi;omega
  rcases this with rfl | rfl
  ·exact ⟨v1,rfl,hw1⟩
  ·exact ⟨v2,rfl,hw2⟩
 rw [eP] at hpl
 have s14:=s13.trans s4
 have hz1:=hw1.mono s4
 have hz2:=hw2.mono s4
 have iff0:eachB way c (heldN lr.1 R1) (heldN b2 R2) ns=true↔_:=each_iff (way:=way) (c:=c) hpl (fun m k hm hno=>held_like c1.up hm fun y hy=>hno y (List.mem_append_left _ hy)) (fun m k hm hno=>held_like up2 hm fun y hy=>hno y (List.mem_append_right _ hy))
 have iff1:eachB way c (heldN lr.1 R1) (heldN b2 R2) ns=true↔∀ k,numA N tx+td≤k→k≤numA N ux+ud→bnd way (heldW lr k) (othV N L kd x k+c)=true:=by
  rw [iff0]
  constructor
  ·intro z k k1 k2
   rw [← hh1,← hh2]
   exact z k k1 k2
  ·intro z k k1 k2
   rw [hh1,hh2]
   exact z k k1 k2
 refine ⟨lp,rfl,⟨_,SqL.of hlp⟩,for_list (xs:=ns.map V.int) (fun i σ G=>∃ u1,σ=[some (.ref a),some (.ref m),some (.ref n),some (.ref b),some (.ref e),some (.str r),some (.str way),some (.ref o),some (.int c),some v1,some v2,u1]∧Same H4 G∧
  (ns.take i).all (fun k=>bnd way (heldN lr.1 R1 k) (heldN b2 R2 k+c))=true) ⟨none,rfl,Same.refl _,rfl⟩ ?_ ?_ ?_⟩
 ·rintro i σ G _ ⟨u1,rfl,sG,_⟩
  exact SqL.of (sG _ _ hlp)
 ·rintro i y σ G hy ⟨u1,rfl,sG,hall⟩
  have hi:i < ns.length:=by
   have:=(List.getElem?_eq_some_iff.mp hy).1
   rw [List.length_map] at this
   exact this
  rw [List.getElem?_map,List.getElem?_eq_getElem hi] at hy
  cases hy
  refine ⟨_,rfl,_,rfl,v1,ns[i],(lr.1,R1),rfl,hz1.mono sG,⟨c1.up,by show R1.length≤600;omega⟩,?_⟩
  refine ⟨_,rfl,_,rfl,_,rfl,v2,ns[i],(b2,R2),rfl,hz2.mono sG,⟨up2,by show R2.length≤600;omega⟩,_,rfl,_,_,rfl,rfl,?_⟩
  refine ⟨_,_,way,rfl,_,rfl,?_⟩
  dsimp only
  have etk:(ns.take (i+1)).all (fun k=>bnd way (heldN lr.1 R1 k) (heldN b2 R2 k+c))=bnd way (heldN lr.1 R1 ns[i]) (heldN b2 R2 ns[i]+c):=by
   rw [List.take_succ,List.getElem?_eq_getElem hi,List.all_append,hall]
   simp
  cases hbd:bnd way (heldN lr.1 R1 ns[i]) (heldN b2 R2 ns[i]+c) with
  | true=>
   rw [hbd] at etk
   refine iteF ?_
   exact ⟨_,rfl,sG,etk⟩
  | false=>
   refine iteT ?_
   have ef:eachB way c (heldN lr.1 R1) (heldN b2 R2) ns=false:=by
    unfold eachB
    rw [List.all_eq_false]
    exact ⟨ns[i],List.getElem_mem hi,by rw [hbd];simp⟩
   rw [ef] at iff1
   exact q _ _ (s14.trans sG) iff1
 ·rintro σ G ⟨u1,rfl,sG,hall⟩
  rw [List.length_map,List.take_length] at hall
  exact q _ _ (s14.trans sG) (by unfold eachB at iff1;rw [hall] at iff1;exact iff1)
theorem ok_rise {f:Addr} {fd:FuncData} (F:Fun K "rise_holds" "rise_holds" sRise_holds f fd) (B:Free0 mg) (F_row_at:Fn P w K mg base 1 "row_at" ["r","rows"] (spRow_at K)) (F_run_places:Fn P w K mg base 1 "run_places" ["t","u","held_rows"] (spRun K)) (F_place_at:Fn P w K mg base 2 "place_at" ["place","numbers"] spPlace_at)
  (F_entry:Fn P w K mg base 2 "entry" ["row","p"] (spEntry K)):FnOk P w K mg base CX0 4 f fd ["claim","numbers","rows"] (spHoldsP isRi K):=by
 have sc:FnScope ["claim","numbers","rows","t","u","r","row","places","values"] ["claim","numbers","rows"] (defScope sRise_holds):=⟨rfl,rfl,rfl,by decide +kernel,rfl,by decide +kernel,by decide +kernel⟩
 refine F.ok sc (fun vs H Q E h=>?_) (fun cdv A outer s H vs Q E hr h=>?_)
 ·obtain ⟨v,C,m,n,i,N,rvs,L,rfl,_⟩:=h
  rfl
 obtain ⟨v,C,m,n,i,N,rvs,L,rfl,hv,ok,hm,hn,hV,hi,q⟩:=h
 cases C with
 | least=>exact ok.elim
 | each=>exact ok.elim
 | rise tx td ux ud r=>
 have hu:=hu_of hr
 obtain ⟨a,b,c,rfl,ha,hb,hc⟩:=ri_inv hv
 refine ⟨_,(pss_cons (ps_asg (pe_slice sl_tup (pv 0) (po_some pe_int) po_none) (pg_tup rfl (pgs_cons (pg_name (i:=3) sc.nd rfl (by first | exact Or.inl rfl | exact Or.inr rfl)) (pgs_cons (pg_name (i:=4) sc.nd rfl (by first | exact Or.inl rfl | exact Or.inr rfl)) (pgs_cons (pg_name (i:=5) sc.nd rfl (by first | exact Or.inl rfl | exact Or.inr rfl)) pgs_nil)))))
   (pss_cons (ps_set (i:=6) sc.nd rfl (by first | exact Or.inl rfl | exact Or.inr rfl) (pe_fn F_row_at hr (pa_c (pv 5) (pa_c (pv 2) pa_nil))))
   (pss_cons (ps_set (i:=7) sc.nd rfl (by first | exact Or.inl rfl | exact Or.inr rfl) (pe_fn F_run_places hr (pa_c (pe_fn F_place_at hr (pa_c (pv 3) (pa_c (pv 1) pa_nil))) (pa_c (pe_fn F_place_at hr (pa_c (pv 4) (pa_c (pv 1) pa_nil))) (pa_c (pe_lst (pa_c (pv 6) pa_nil)) pa_nil)))))
   (pss_cons (ps_setcomp (i:=8) sc.nd rfl (by first | exact Or.inl rfl | exact Or.inr rfl) ["k"] [6] rfl (comp_ok (sc:=defScope sRise_holds) (N:=["claim","numbers","rows","t","u","r","row","places","values"]) rfl rfl (by decide +kernel)) (pi_list (pv 7)) (fun s H ex=>⟨(pg_name (i:=0) (show List.Nodup (["k","row"]:List Str) by decide +kernel) rfl (by first | exact Or.inl rfl | exact Or.inr rfl)),pts_nil,(pe_fn F_entry hr (pa_c (pv 1) (pa_c (pv 0) pa_nil)))⟩))
   (pss_one (ps_ret (pe_cmpR (op_eqInts hu) (pv 8) (pe_cB call_sorted_intsM (by rfl) B.sorted_ bt_sorted (pa_c (pv 8) pa_nil)) (nomark _)))))))),?_⟩
 refine ⟨_,rfl,_,rfl,a,_,rfl,SqT.of ha,(fun h=>absurd h.1 (by show ¬ (HT.sIx 4 0 (some 1)=0);decide)),fun p hp=>?_⟩
 have s1:=same_new hp (.tup (cutV [V.str "rise",V.ref b,V.ref c,V.str r] (some 1) none))
 refine ⟨p,_,rfl,SqT.of upd_same,rfl,_,_,rfl,_,_,rfl,_,_,rfl,rfl,?_⟩
 generalize upd H p (.tup (cutV [V.str "rise",V.ref b,V.ref c,V.str r] (some 1) none))=H1 at *
 have hb1:=s1 _ _ hb
 have hc1:=s1 _ _ hc
 have hm1:=s1 _ _ hm
 refine ⟨_,rfl,_,rfl,r,n,i,rvs,L,rfl,s1 _ _ hn,hV.tk (TKF.same s1),fun v R hv c1 l1 wl hh=>?_⟩
 dsimp only [Cl.Tru] at q
 generalize lrow L r=lr at *
 refine ⟨_,rfl,_,rfl,b,tx,td,m,N,rfl,hb1,hm1,?_⟩
 refine ⟨_,rfl,_,rfl,c,ux,ud,m,N,rfl,hc1,hm1,?_⟩
 refine ⟨_,rfl,sm rfl,fun l hl=>?_⟩
 have s2:=same_new hl (.lst [v])
 have e2:upd H1 l (.lst [v]) l=some (.lst [v]):=upd_same
 have hv2:=hv.mono s2
 generalize upd H1 l (.lst [v])=H2 at *
 have eP:allP [(lr.1,R)]=R:=by unfold allP;simp
 refine ⟨_,_,l,[v],[(lr.1,R)],rfl,e2,rfl,fun i hi=>?_,(by rw [eP];omega),fun l2 ns H3 s3 hl2 hpl hnl=>?_⟩
 ·have:i=0:=by simp at hi;omega
  subst this
  exact ⟨v,rfl,hv2⟩
 rw [eP] at hpl
 have s13:=s1.trans (s2.trans s3)
 have hv3:=hv2.mono s3
 have iff0:=rise_iff (f:=heldN lr.1 R) hpl (fun m k hm hno=>held_like c1.up hm hno)
 have iff1:risesB (heldN lr.1 R) ns=true↔∀ k l,numA N tx+td≤k→k < l→l≤numA N ux+ud→heldW lr k≤heldW lr l:=by
  rw [iff0]
  constructor
  ·intro z k l k1 k2 k3
   rw [← hh,← hh]
   exact z k l k1 k2 k3
  ·intro z k l k1 k2 k3
   rw [hh,hh]
   exact z k l k1 k2 k3
 refine ⟨_,rfl,l2,rfl,⟨_,SqL.of hl2⟩,fun p3 hp3=>?_⟩
 have s4:=same_new hp3 (.lst [])
 refine comp_list (xs:=ns.map V.int) (fun i σ' G'=>∃ u3,σ'=[u3,some v]∧Same H3 G'∧G' p3=some (.lst (((ns.take i).map fun k=>heldN lr.1 R k).map V.int))) ⟨none,rfl,s4,upd_same⟩ ?_ ?_ ?_
 ·rintro i σ' G' _ ⟨u3,rfl,sG',_⟩
  exact SqL.of (sG' _ _ hl2)
 ·rintro i x σ' G' hx ⟨u3,rfl,sG',hGp⟩
  have hi:i < ns.length:=by
   have:=(List.getElem?_eq_some_iff.mp hx).1
   rw [List.length_map] at this
   exact this
  rw [List.getElem?_map,List.getElem?_eq_getElem hi] at hx
  cases hx
  unfold gName tYes
  refine iteT ?_
  refine ⟨_,rfl,_,rfl,v,ns[i],(lr.1,R),rfl,hv3.mono sG',⟨c1.up,by show R.length≤600;omega⟩,?_⟩
  refine ⟨_,hGp,?_,_,rfl,?_,?_⟩
  ·rw [List.length_map,List.length_map,List.length_take]
   exact small1000 (by omega)
  ·intro c o e
   rw [upd_ne (ne_of_none e hp3)]
   exact sG' _ _ e
  ·rw [upd_same,List.take_succ,List.getElem?_eq_getElem hi,List.map_append,List.map_append]
   rfl
 ·rintro σ' G' ⟨u3,rfl,sG',hGp⟩
  rw [List.length_map,List.take_length] at hGp
  have hvl:(ns.map fun k=>heldN lr.1 R k).length=ns.length:=List.length_map _
  unfold risesB at iff1
  have hvs':ns.map (heldN lr.1 R)=(ns.map fun k=>heldN lr.1 R k):=rfl
  rw [hvs'] at iff1
  generalize hvs:(ns.map fun k=>heldN lr.1 R k)=vs at *
  refine ⟨_,rfl,_,rfl,p3,vs,rfl,SqL.of hGp,by omega,fun l4 ms hl4 hperm hsort=>?_⟩
  have s5:=same_new hl4 (.lst (ms.map V.int))
  refine ⟨p3,l4,vs,ms,rfl,rfl,SqL.of (s5 _ _ hGp),SqL.of upd_same,hperm.length_eq.symm,?_⟩
  have eb:decide (vs=ms)=decide (vs.Pairwise (·≤·)):=by
   rw [decide_eq_decide]
   constructor
   ·intro h
    rw [h]
    exact hsort
   ·intro h
    exact hperm.symm.eq_of_pairwise (fun x y _ _ h1 h2=>Int.le_antisymm h1 h2) h hsort
  rw [eb]
  exact q _ _ (s13.trans (sG'.trans s5)) iff1
theorem ok_holdsP {f:Addr} {fd:FuncData} (F:Fun K "holds" "holds" sHoldsP f fd) (F_least_holds:Fn P w K mg base 4 "least_holds" ["claim","numbers","rows"] (spHoldsP isLe K)) (F_each_holds:Fn P w K mg base 4 "each_holds" ["claim","numbers","rows"] (spHoldsP isEa K)) (F_rise_holds:Fn P w K mg base 4 "rise_holds" ["claim","numbers","rows"] (spHoldsP isRi K)):FnOk P w K mg base CX0 5 f fd ["claim","numbers","rows"] (spHoldsP (fun _=>True) K):=by
 have sc:FnScope ["claim","numbers","rows"] ["claim","numbers","rows"] (defScope sHoldsP):=⟨rfl,rfl,rfl,by decide +kernel,rfl,by decide +kernel,by decide +kernel⟩
 refine F.ok sc (fun vs H Q E h=>?_) (fun cdv A outer s H vs Q E hr h=>?_)
 ·obtain ⟨v,C,m,n,i,N,rvs,L,rfl,_⟩:=h
  rfl
 obtain ⟨v,C,m,n,i,N,rvs,L,rfl,hv,_,rest⟩:=h
 refine ⟨_,(pss_cons (ps_if (pt_cmpR op_eq (pe_ix ix_tup (pv 0) pe_int (fun _ _=>rfl)) pe_str (nomark _)) (pss_one (ps_ret (pe_fn F_least_holds hr (pa_c (pv 0) (pa_c (pv 1) (pa_c (pv 2) pa_nil)))))) pss_nil)
   (pss_cons (ps_if (pt_cmpR op_eq (pe_ix ix_tup (pv 0) pe_int (fun _ _=>rfl)) pe_str (nomark _)) (pss_one (ps_ret (pe_fn F_each_holds hr (pa_c (pv 0) (pa_c (pv 1) (pa_c (pv 2) pa_nil)))))) pss_nil)
   (pss_one (ps_ret (pe_fn F_rise_holds hr (pa_c (pv 0) (pa_c (pv 1) (pa_c (pv 2) pa_nil)))))))),?_⟩
 cases C with
 | least ta tb c=>
  obtain ⟨a,u,z,rfl,ha,_,_⟩:=le_inv hv
  refine ⟨_,rfl,a,_,_,_,rfl,rfl,SqT.of ha,rfl,rfl,_,rfl,?_⟩
  rw [decide_eq_true rfl]
  refine iteT ?_
  exact ⟨_,rfl,_,rfl,_,rfl,_,.least ta tb c,m,n,i,N,rvs,L,rfl,hv,trivial,rest⟩
 | each tx td ux ud r way kd x c=>
  obtain ⟨a,b,e,o,rfl,ha,_⟩:=ea_inv hv
  refine ⟨_,rfl,a,_,_,_,rfl,rfl,SqT.of ha,rfl,rfl,_,rfl,?_⟩
  rw [decide_eq_false (by decide)]
  refine iteF ?_
  refine ⟨_,rfl,a,_,_,_,rfl,rfl,SqT.of ha,rfl,rfl,_,rfl,?_⟩
  rw [decide_eq_true rfl]
  refine iteT ?_
  exact ⟨_,rfl,_,rfl,_,rfl,_,.each tx td ux ud r way kd x c,m,n,i,N,rvs,L,rfl,hv,trivial,rest⟩
 | rise tx td ux ud r=>
  obtain ⟨a,b,c,rfl,ha,_⟩:=ri_inv hv
  refine ⟨_,rfl,a,_,_,_,rfl,rfl,SqT.of ha,rfl,rfl,_,rfl,?_⟩
  rw [decide_eq_false (by decide)]
  refine iteF ?_
  refine ⟨_,rfl,a,_,_,_,rfl,rfl,SqT.of ha,rfl,rfl,_,rfl,?_⟩
  rw [decide_eq_false (by decide)]
  refine iteF ?_
  exact ⟨_,rfl,_,rfl,_,rfl,_,.rise tx td ux ud r,m,n,i,N,rvs,L,rfl,hv,trivial,rest⟩
end
open PySem L2
inductive Pk where
 | num (n:Int) | row (q:LRow)
abbrev Stt:=Nat×List (Str×Int)×List (Str×LRow)
def pkNum (P:List Pk) (j:Nat):Int:=match P[j]? with
 | some (.num n)=>n
 | _=>0
def pkRow (P:List Pk) (j:Nat):LRow:=match P[j]? with
 | some (.row q)=>q
 | _=>(0,[],[])
def stepL (P:List Pk) (s:Stt):Rw→Stt
 | .set x t c=>(s.1,putA s.2.1 x (t.val s.2.1 s.2.2+c),s.2.2)
 | .put r x d t c=>(s.1,s.2.1,putA s.2.2 r ((lrow s.2.2 r).1,(lrow s.2.2 r).2.1,(lrow s.2.2 r).2.2++[(numA s.2.1 x+d,t.val s.2.1 s.2.2+c)]))
 | .any x=>(s.1+1,putA s.2.1 x (pkNum P s.1),s.2.2)
 | .lose r=>(s.1+1,s.2.1,putA s.2.2 r (pkRow P s.1))
def runL (P:List Pk) (s:Stt) (R:List Rw):Stt:=R.foldl (stepL P) s
def pickOk (P:List Pk) (j:Nat):Rw→Prop
 | .any _=>∀ k,P[j]?=some k→∃ n,k=.num n
 | .lose _=>∀ k,P[j]?=some k→∃ q,k=.row q∧q.2.2=[]
 | _=>True
def PkIs (K:PySem.W.Frag) (H:Hp):Pk→V→Prop
 | .num n,v=>v=.int n
 | .row q,v=>RowIs K H q v
def PKs (K:PySem.W.Frag) (H:Hp) (P:List Pk) (vs:List V):Prop:=P.length=vs.length∧∀ (j:Nat) (k:Pk) (v:V),P[j]?=some k→vs[j]?=some v→PkIs K H k v
theorem PkIs.tk {K:PySem.W.Frag} {H H':Hp} {k:Pk} {v:V} (t:TKF H H') (h:PkIs K H k v):PkIs K H' k v:=by
 cases k with
 | num n=>exact h
 | row q=>exact RowIs.tk t h
theorem PKs.tk {K:PySem.W.Frag} {H H':Hp} {P:List Pk} {vs:List V} (t:TKF H H') (h:PKs K H P vs):PKs K H' P vs:=⟨h.1,fun j k v e1 e2=>(h.2 j k v e1 e2).tk t⟩
inductive Rk where
 | row (rw:Rw) | know (C:Cl)
def Rk.toD:Rk→D
 | .row rw=>rw.toD
 | .know C=>.tup [.str "know",C.toD]
def Rk.rw?:Rk→Option Rw
 | .row rw=>some rw
 | .know _=>none
def rwsOf (R:List Rk):List Rw:=R.filterMap Rk.rw?
def stK (P:List Pk) (s:Stt) (R:List Rk):Stt:=runL P s (rwsOf R)
def RowK (H:Hp) (R:List Rk) (qs:List V):Prop:=HeldL H (R.map Rk.toD) qs
def stepK (P:List Pk) (s:Stt):Rk→Stt
 | .row rw=>stepL P s rw
 | .know _=>s
theorem stK_take {P:List Pk} {s:Stt} {R:List Rk} {i:Nat} (h:i < R.length):stK P s (R.take (i+1))=stepK P (stK P s (R.take i)) R[i]:=by
 unfold stK rwsOf runL
 rw [List.take_succ,List.getElem?_eq_getElem h,List.filterMap_append,List.foldl_append]
 cases e:R[i] with
 | row rw=>rfl
 | know C=>rfl
def KnowAt (P:List Pk) (s:Stt) (R:List Rk) (j:Nat):Prop:=∀ C,R[j]?=some (.know C)→C.Tru (stK P s (R.take j)).2.1 (stK P s (R.take j)).2.2
def spThrough (K:PySem.W.Frag):Sp:=fun vs H Q _=>∃ (rl st m n pk:Addr) (R:List Rk) (qs:List V) (N:List (Str×Int)) (rvs:List (Key×V)) (L:List (Str×LRow)) (P:List Pk) (pks:List V),vs=[.ref rl,.ref st]∧
 H rl=some (.lst qs)∧RowK H R qs∧R.length≤60∧H st=some (.tup [.ref m,.ref n,.ref pk])∧H m=some (.dK (nKV N))∧N.length≤60∧H n=some (.dK rvs)∧RV K H 0 rvs L∧L.length≤60∧H pk=some (.lst pks)∧PKs K H P pks∧
 (∀ i rw,R[i]?=some (.row rw)→pickOk P (stK P (0,N,L) (R.take i)).1 rw)∧
 (∀ (i:Nat) (r:Addr) (H':Hp),i < R.length→(∀ j,j < i→KnowAt P (0,N,L) R j)→¬ KnowAt P (0,N,L) R i→Same H H'→H' r=some (.tup [.str "barred",.int i])→Q (.ref r) H')∧
 ∀ (r m' n':Addr) (rvs':List (Key×V)) (H':Hp),(∀ j,j < R.length→KnowAt P (0,N,L) R j)→Same H H'→H' r=some (.tup [.str "through",.ref m',.ref n'])→H m'=none→H n'=none→m'≠n'→H' m'=some (.dK (nKV (stK P (0,N,L) R).2.1))→H' n'=some (.dK rvs')→RV K H' 60 rvs' (stK P (0,N,L) R).2.2→Q (.ref r) H'
theorem know_inv {H:Hp} {C:Cl} {v:V} (h:Held H (Rk.know C).toD v):∃ a u,v=.ref a∧H a=some (.tup [.str "know",u])∧Held H C.toD u:=by
 obtain ⟨a,xs,rfl,ha,h1⟩:=held_tup_inv h
 obtain ⟨v1,r1,rfl,e1,h2⟩:=heldL_cons_inv h1
 obtain ⟨v2,r2,rfl,e2,h3⟩:=heldL_cons_inv h2
 cases heldL_nil_inv h3
 cases held_str_inv e1
 exact ⟨a,v2,rfl,ha,e2⟩
theorem bare_is {K:PySem.W.Frag} {H:Hp} {v:V} (h:RowAt K H v (0,[])):RowIs K H (0,[],[]) v:=⟨[],h,⟨List.Pairwise.nil,trivial⟩,Nat.zero_le _,fun z=>rfl⟩
section
variable {P:Program} {w:World} {K:PySem.W.Frag} {mg:Str→Option Value} {base:Heap}
theorem ok_through {f:Addr} {fd:FuncData} (F:Fun K "through" "through" sThrough f fd) (B:Free0 mg) (Z_enumerate:mg "enumerate" = none) (R0:Bare K mg) (F_term_at:Fn P w K mg base 3 "term_at" ["term","numbers","rows"] (spTerm_at K)) (F_holds:Fn P w K mg base 5 "holds" ["claim","numbers","rows"] (spHoldsP (fun _=>True) K)) (F_put_into:Fn P w K mg base 4 "put_into" ["row","numbers","held"] (spPut_into K)) (F_pick_at:Fn P w K mg base 1 "pick_at" ["picks","n","lacking"] spPick_at):FnOk P w K mg base CX0 6 f fd ["rows","start"] (spThrough K):=by
 have sc:FnScope ["rows","start","numbers","held","picks","taken","n","row","kind"] ["rows","start"] (defScope sThrough):=⟨rfl,rfl,rfl,by decide +kernel,rfl,by decide +kernel,by decide +kernel⟩
 refine F.ok sc (fun vs H Q E h=>?_) (fun cdv A outer s H vs Q E hr h=>?_)
 ·obtain ⟨rl,st,m,n,pk,R,qs,N,rvs,L,Pc,pks,rfl,_⟩:=h
  rfl
 obtain ⟨rl,st,m,n,pk,R,qs,N,rvs,L,Pc,pks,rfl,hrl,hR,hR60,hst,hm,hN,hn,hV,hL,hpk,hP,hok,qb,q⟩:=h
 obtain ⟨ba,eb,hba,hb1,hb2⟩:=R0.ex
 have hu:=hu_of hr
 refine ⟨_,(pss_cons (ps_set (i:=2) sc.nd rfl (by first | exact Or.inl rfl | exact Or.inr rfl) (pe_cT call_dict_copy (by rfl) B.dict_ bt_dict (pa_c (pe_ix ix_tup (pv 1) pe_int (fun _ _=>rfl)) pa_nil)))
   (pss_cons (ps_set (i:=3) sc.nd rfl (by first | exact Or.inl rfl | exact Or.inr rfl) (pe_cT call_dict_copy (by rfl) B.dict_ bt_dict (pa_c (pe_ix ix_tup (pv 1) pe_int (fun _ _=>rfl)) pa_nil)))
   (pss_cons (ps_set (i:=4) sc.nd rfl (by first | exact Or.inl rfl | exact Or.inr rfl) (pe_ix ix_tup (pv 1) pe_int (fun _ _=>rfl)))
   (pss_cons (ps_set (i:=5) sc.nd rfl (by first | exact Or.inl rfl | exact Or.inr rfl) pe_int)
   (pss_cons (ps_for PassesOwn.never rfl (pi_enum (by rfl) Z_enumerate (pa_c (pv 0) pa_nil)) (pg_tup rfl (pgs_cons (pg_name (i:=6) sc.nd rfl (by first | exact Or.inl rfl | exact Or.inr rfl)) (pgs_cons (pg_name (i:=7) sc.nd rfl (by first | exact Or.inl rfl | exact Or.inr rfl)) pgs_nil))) (pss_cons (ps_set (i:=8) sc.nd rfl (by first | exact Or.inl rfl | exact Or.inr rfl) (pe_ix ix_tup (pv 7) pe_int (fun _ _=>rfl)))
   (pss_one (ps_if (pt_cmpR op_eq (pv 8) pe_str (nomark _)) (pss_one (ps_if (pt_not (pt_val (pe_fn F_holds hr (pa_c (pe_ix ix_tup (pv 7) pe_int (fun _ _=>rfl)) (pa_c (pv 2) (pa_c (pv 3) pa_nil)))))) (pss_one (ps_ret (pe_tup (pa_c pe_str (pa_c (pv 6) pa_nil))))) pss_nil)) (pss_one (ps_if (pt_cmpR op_eq (pv 8) pe_str (nomark _)) (pss_one (ps_dput hu (pv 2) (pe_ix ix_tup (pv 7) pe_int (fun _ _=>rfl)) (pe_op op_add (pe_fn F_term_at hr (pa_c (pe_ix ix_tup (pv 7) pe_int (fun _ _=>rfl)) (pa_c (pv 2) (pa_c (pv 3) pa_nil)))) (pe_ix ix_tup (pv 7) pe_int (fun _ _=>rfl))) rfl)) (pss_one (ps_if (pt_cmpR op_eq (pv 8) pe_str (nomark _)) (pss_one (ps_dput hu (pv 3) (pe_ix ix_tup (pv 7) pe_int (fun _ _=>rfl)) (pe_fn F_put_into hr (pa_c (pv 7) (pa_c (pv 2) (pa_c (pv 3) pa_nil)))) rfl)) (pss_one (ps_if (pt_cmpR op_eq (pv 8) pe_str (nomark _)) (pss_cons (ps_dput hu (pv 2) (pe_ix ix_tup (pv 7) pe_int (fun _ _=>rfl)) (pe_fn F_pick_at hr (pa_c (pv 4) (pa_c (pv 5) (pa_c pe_int pa_nil)))) rfl)
   (pss_one (ps_aug (i:=5) sc.nd rfl (by first | exact Or.inl rfl | exact Or.inr rfl) pe_int ip_add))) (pss_cons (ps_dput hu (pv 3) (pe_ix ix_tup (pv 7) pe_int (fun _ _=>rfl)) (pe_fn F_pick_at hr (pa_c (pv 4) (pa_c (pv 5) (pa_c (pe_glob (v:=.ref ba) (by rfl) hba rfl) pa_nil)))) rfl)
   (pss_one (ps_aug (i:=5) sc.nd rfl (by first | exact Or.inl rfl | exact Or.inr rfl) pe_int ip_add)))))))))))))
   (pss_one (ps_ret (pe_tup (pa_c pe_str (pa_c (pv 2) (pa_c (pv 3) pa_nil))))))))))),?_⟩
 refine ⟨_,rfl,st,_,_,_,rfl,rfl,SqT.of hst,rfl,m,_,rfl,hm,fun m' hm'=>?_⟩
 have s1:=same_new hm' (.dK (nKV N))
 have e1:upd H m' (.dK (nKV N)) m'=some (.dK (nKV N)):=upd_same
 generalize upd H m' (.dK (nKV N))=H1 at *
 refine ⟨_,rfl,st,_,_,_,rfl,rfl,SqT.of (s1 _ _ hst),rfl,n,_,rfl,s1 _ _ hn,fun n' hn'=>?_⟩
 have s2:=same_new hn' (.dK rvs)
 have e2:upd H1 n' (.dK rvs) n'=some (.dK rvs):=upd_same
 have nmn:m'≠n':=ne_of_none e1 hn'
 have hn0:H n'=none:=s1.free hn'
 have e12:=s2 _ _ e1
 generalize upd H1 n' (.dK rvs)=H2 at *
 have s02:=s1.trans s2
 refine ⟨_,rfl,st,_,_,_,rfl,rfl,SqT.of (s02 _ _ hst),rfl,?_⟩
 have hql:qs.length=R.length:=by
  have:=hR.length
  rw [List.length_map] at this
  exact this.symm
 have hV2:RV K H2 0 rvs L:=hV.tk (TKF.same s02)
 refine ⟨_,rfl,rl,rfl,⟨_,SqL.of (s02 _ _ hrl)⟩,?_⟩
 refine for_enum (xs:=qs) (fun i σ G=>∃ x6 x7 x8 rvs2,σ=[some (.ref rl),some (.ref st),some (.ref m'),some (.ref n'),some (.ref pk),some (.int ((stK Pc (0,N,L) (R.take i)).1:Nat)),x6,x7,x8]∧Same H G∧G m'=some (.dK (nKV (stK Pc (0,N,L) (R.take i)).2.1))∧G n'=some (.dK rvs2)∧RV K G i rvs2 (stK Pc (0,N,L) (R.take i)).2.2∧
  (stK Pc (0,N,L) (R.take i)).2.1.length≤60+i∧(stK Pc (0,N,L) (R.take i)).2.2.length≤60+i∧∀ j,j < i→KnowAt Pc (0,N,L) R j) ?_ ?_ ?_ ?_
 ·exact ⟨none,none,none,rvs,rfl,s02,e12,e2,hV2,hN,hL,fun j hj=>absurd hj (Nat.not_lt_zero _)⟩
 ·rintro i σ G _ ⟨x6,x7,x8,rvs2,rfl,sG,_⟩
  exact SqL.of (sG _ _ hrl)
 ·rintro i y σ G t hy ⟨x6,x7,x8,rvs2,rfl,sG,hGm,hGn,hGV,hl1,hl2,hkn⟩ ht
  have hi:i < R.length:=by
   have:=(List.getElem?_eq_some_iff.mp hy).1
   omega
  obtain ⟨y',f1,f2⟩:=hR.get (j:=i) (d:=R[i].toD) (by rw [List.getElem?_map,List.getElem?_eq_getElem hi];rfl)
  rw [hy] at f1
  cases f1
  have hpo:=hok i
  rw [List.getElem?_eq_getElem hi] at hpo
  have est:=stK_take (P:=Pc) (s:=(0,N,L)) hi
  have knS:(∀ C,R[i]=.know C→C.Tru (stK Pc (0,N,L) (R.take i)).2.1 (stK Pc (0,N,L) (R.take i)).2.2)→∀ j,j < i+1→KnowAt Pc (0,N,L) R j:=fun h j hj=>by
   rcases Nat.lt_or_ge j i with c | c
   ·exact hkn j c
   ·have:j=i:=by omega
    subst this
    intro C e
    rw [List.getElem?_eq_getElem hi] at e
    exact h C (Option.some.inj e)
  have knN:(∃ C,R[i]=.know C∧¬ C.Tru (stK Pc (0,N,L) (R.take i)).2.1 (stK Pc (0,N,L) (R.take i)).2.2)→¬ KnowAt Pc (0,N,L) R i:=fun ⟨C,e,h⟩ z=>h (z C (by rw [List.getElem?_eq_getElem hi,e]))
  have tG:=same_new ht (.tup [.int i,y])
  have eG:upd G t (.tup [.int i,y]) t=some (.tup [.int i,y]):=upd_same
  generalize upd G t (.tup [.int i,y])=G1 at *
  have sG1:=sG.trans tG
  have hGm1:=tG _ _ hGm
  have hGn1:=tG _ _ hGn
  have hGV1:=hGV.tk (TKF.same tG)
  have hrv:=hGV.len
  rw [est]
  generalize stK Pc (0,N,L) (R.take i)=S at *
  obtain ⟨j,N1,L1⟩:=S
  dsimp only at hGm hGn hGV hl1 hl2 hpo hGm1 hGV1 hrv knS knN
  generalize R[i]=rk at *
  refine ⟨t,_,rfl,SqT.of eG,rfl,_,_,rfl,_,_,rfl,rfl,?_⟩
  have f2':=f2.mono sG1
  cases rk with
  | know C=>
   obtain ⟨a,u,rfl,ha,hu'⟩:=know_inv f2'
   refine ⟨_,rfl,a,_,_,_,rfl,rfl,SqT.of ha,rfl,?_⟩
   refine ⟨_,rfl,rfl,_,rfl,?_⟩
   rw [decide_eq_true rfl]
   refine iteT ?_
   refine ⟨_,rfl,a,_,_,_,rfl,rfl,SqT.of ha,rfl,_,rfl,_,rfl,u,C,m',n',i,N1,rvs2,L1,rfl,hu',trivial,hGm1,hGn1,hGV1,by omega,fun b G2 s2 hb=>?_⟩
   refine ⟨_,rfl,?_⟩
   cases b with
   | true=>
    refine iteF ?_
    exact ⟨_,_,_,rvs2,rfl,sG1.trans s2,s2 _ _ hGm1,s2 _ _ hGn1,(hGV1.tk (TKF.same s2)).up (Nat.le_succ _),by show N1.length≤_;omega,by show L1.length≤_;omega,knS fun C' e=>by cases e;exact hb.mp rfl⟩
   | false=>
    refine iteT ?_
    refine ⟨_,rfl,sm rfl,fun r hr'=>?_⟩
    have t1:=same_new hr' (.tup [V.str "barred",V.int i])
    exact qb i r _ hi hkn (knN ⟨C,rfl,fun z=>by have:=hb.mpr z;cases this⟩) (sG1.trans (s2.trans t1)) upd_same
  | row rw=>
   have hpo:=hpo rw rfl
   have knT:=knS (fun C e=>by cases e)
   clear knN knS
   cases rw with
   | set x tm c=>
    obtain ⟨a,u,rfl,ha,hu'⟩:=set_inv f2'
    refine ⟨_,rfl,a,_,_,_,rfl,rfl,SqT.of ha,rfl,?_⟩
    refine ⟨_,rfl,rfl,_,rfl,?_⟩
    rw [decide_eq_false (by decide)]
    refine iteF ?_
    refine ⟨_,rfl,rfl,_,rfl,?_⟩
    rw [decide_eq_true rfl]
    refine iteT ?_
    refine ⟨_,rfl,a,_,_,_,rfl,rfl,SqT.of ha,rfl,_,rfl,_,rfl,u,tm,m',n',i,N1,rvs2,L1,rfl,hu',hGm1,hGn1,hGV1,by omega,?_⟩
    refine ⟨_,rfl,a,_,_,_,rfl,rfl,SqT.of ha,rfl,_,_,rfl,rfl,_,rfl,_,rfl,a,_,_,_,rfl,rfl,SqT.of ha,rfl,m',_,rfl,DPut.k (k:=Sum.inr x) hGm1 (small1000 (by unfold nKV;rw [List.length_map];omega)),?_⟩
    dsimp only
    rw [nkv_put]
    refine ⟨_,_,_,rvs2,rfl,fun b o e=>?_,upd_same,?_,(hGV1.tk (TKF.updD hGm1)).up (Nat.le_succ _),?_,by show L1.length≤_;omega,knT⟩
    ·rw [upd_ne (ne_of_none e hm')];exact sG1 _ _ e
    ·rw [upd_ne nmn.symm];exact hGn1
    ·have:=putA_len N1 x (tm.val N1 L1+c)
     show (putA N1 x (tm.val N1 L1+c)).length≤_
     omega
   | put r x d tm c=>
    obtain ⟨a,b,u,rfl,ha,hb,hu'⟩:=put_inv f2'
    refine ⟨_,rfl,a,_,_,_,rfl,rfl,SqT.of ha,rfl,?_⟩
    refine ⟨_,rfl,rfl,_,rfl,?_⟩
    rw [decide_eq_false (by decide)]
    refine iteF ?_
    refine ⟨_,rfl,rfl,_,rfl,?_⟩
    rw [decide_eq_false (by decide)]
    refine iteF ?_
    refine ⟨_,rfl,rfl,_,rfl,?_⟩
    rw [decide_eq_true rfl]
    refine iteT ?_
    refine ⟨_,rfl,_,rfl,_,rfl,.ref a,r,x,d,c,tm,m',n',i,N1,rvs2,L1,rfl,f2',hGm1,hGn1,hGV1,by omega,fun z G2 s2 hz hw=>?_⟩
    have hGn2:=s2 _ _ hGn1
    refine ⟨_,rfl,_,rfl,a,_,_,_,rfl,rfl,SqT.of (s2 _ _ ha),rfl,n',_,rfl,DPut.k (k:=Sum.inr r) hGn2 (small1000 (by omega)),?_⟩
    have t3:TKF G2 (upd G2 n' (.dK (putK rvs2 (Sum.inr r) z))):=TKF.updD hGn2
    refine ⟨_,_,_,_,rfl,fun b o e=>?_,?_,upd_same,?_,by show N1.length≤_;omega,?_,knT⟩
    ·rw [upd_ne (ne_of_none e hn0)];exact s2 _ _ (sG1 _ _ e)
    ·rw [upd_ne nmn];exact s2 _ _ hGm1
    ·refine (((hGV1.tk (TKF.same s2)).up (Nat.le_succ _)).put hz ?_).tk t3
     rw [List.length_append]
     show (lrow L1 r).2.2.length+1≤i+1
     omega
    ·have:=putA_len L1 r ((lrow L1 r).1,(lrow L1 r).2.1,(lrow L1 r).2.2++[(numA N1 x+d,tm.val N1 L1+c)])
     exact Nat.le_trans this (by omega)
   | any x=>
    obtain ⟨a,rfl,ha⟩:=is_inv f2'
    refine ⟨_,rfl,a,_,_,_,rfl,rfl,SqT.of ha,rfl,?_⟩
    refine ⟨_,rfl,rfl,_,rfl,?_⟩
    rw [decide_eq_false (by decide)]
    refine iteF ?_
    refine ⟨_,rfl,rfl,_,rfl,?_⟩
    rw [decide_eq_false (by decide)]
    refine iteF ?_
    refine ⟨_,rfl,rfl,_,rfl,?_⟩
    rw [decide_eq_false (by decide)]
    refine iteF ?_
    refine ⟨_,rfl,rfl,_,rfl,?_⟩
    rw [decide_eq_true rfl]
    refine iteT ?_
    refine ⟨_,rfl,_,rfl,pk,j,.int 0,pks,rfl,sG1 _ _ hpk,fun v hv=>?ga,fun hle=>?gb⟩
    case' ga=>
     obtain ⟨kk,hkk⟩:∃ kk,Pc[j]?=some kk:=by
      have:=(List.getElem?_eq_some_iff.mp hv).1
      exact ⟨_,List.getElem?_eq_getElem (by rw [hP.1];exact this)⟩
     obtain ⟨nv,rfl⟩:=hpo kk hkk
     have hvv:v=.int nv:=hP.2 j _ v hkk hv
     subst hvv
     have hnv:pkNum Pc j=nv:=by unfold pkNum;rw [hkk]
    case' gb=>
     obtain ⟨nv,hnv0⟩:∃ nv:Int,nv=0:=⟨0,rfl⟩
     have hnv:pkNum Pc j=nv:=by unfold pkNum;rw [List.getElem?_eq_none (by rw [hP.1];exact hle),hnv0]
     rw [← hnv0]
    all_goals
     refine ⟨_,rfl,_,rfl,a,_,_,_,rfl,rfl,SqT.of ha,rfl,m',_,rfl,DPut.k (k:=Sum.inr x) hGm1 (small1000 (by unfold nKV;rw [List.length_map];omega)),?_⟩
     rw [nkv_put]
     refine ⟨_,rfl,_,_,rfl,rfl,?_⟩
     refine ⟨some (.int i),some (.ref a),some (.str "any"),rvs2,?_,fun b o e=>?_,?_,?_,(hGV1.tk (TKF.updD hGm1)).up (Nat.le_succ _),?_,by show L1.length≤_;omega,knT⟩
     ·rfl
     ·rw [upd_ne (ne_of_none e hm')];exact sG1 _ _ e
     ·show upd G1 m' _ m'=some (.dK (nKV (putA N1 x (pkNum Pc j))))
      rw [hnv]
      exact upd_same
     ·rw [upd_ne nmn.symm];exact hGn1
     ·have:=putA_len N1 x (pkNum Pc j)
      show (putA N1 x (pkNum Pc j)).length≤_
      omega
   | lose r=>
    obtain ⟨a,rfl,ha⟩:=is_inv f2'
    refine ⟨_,rfl,a,_,_,_,rfl,rfl,SqT.of ha,rfl,?_⟩
    refine ⟨_,rfl,rfl,_,rfl,?_⟩
    rw [decide_eq_false (by decide)]
    refine iteF ?_
    refine ⟨_,rfl,rfl,_,rfl,?_⟩
    rw [decide_eq_false (by decide)]
    refine iteF ?_
    refine ⟨_,rfl,rfl,_,rfl,?_⟩
    rw [decide_eq_false (by decide)]
    refine iteF ?_
    refine ⟨_,rfl,rfl,_,rfl,?_⟩
    rw [decide_eq_false (by decide)]
    refine iteF ?_
    have hbare:RowIs K G1 (0,[],[]) (.ref ba):=bare_is (bare_row (hb1 G1) (hb2 G1))
    refine ⟨_,rfl,_,rfl,pk,j,.ref ba,pks,rfl,sG1 _ _ hpk,fun v hv=>?gc,fun hle=>?gd⟩
    case' gc=>
     obtain ⟨kk,hkk⟩:∃ kk,Pc[j]?=some kk:=by
      have:=(List.getElem?_eq_some_iff.mp hv).1
      exact ⟨_,List.getElem?_eq_getElem (by rw [hP.1];exact this)⟩
     obtain ⟨lq,rfl,hws⟩:=hpo kk hkk
     have hvv:RowIs K G1 lq v:=((show RowIs K H lq v from hP.2 j _ v hkk hv)).tk (TKF.same sG1)
     have hnv:pkRow Pc j=lq:=by unfold pkRow;rw [hkk]
     rw [← hnv] at hvv hws
     clear hbare
    case' gd=>
     have hnv:pkRow Pc j=(0,[],[]):=by unfold pkRow;rw [List.getElem?_eq_none (by rw [hP.1];exact hle)]
     have hvv:=hbare
     rw [← hnv] at hvv
     have hws:(pkRow Pc j).2.2=[]:=by rw [hnv]
     clear hbare
     generalize V.ref ba=v at *
    all_goals
     refine ⟨_,rfl,_,rfl,a,_,_,_,rfl,rfl,SqT.of ha,rfl,n',_,rfl,DPut.k (k:=Sum.inr r) hGn1 (small1000 (by omega)),?_⟩
     have t3:TKF G1 (upd G1 n' (.dK (putK rvs2 (Sum.inr r) v))):=TKF.updD hGn1
     refine ⟨_,rfl,_,_,rfl,rfl,?_⟩
     refine ⟨some (.int i),some (.ref a),some (.str "lose"),_,?_,fun b o e=>?_,?_,upd_same,?_,by show N1.length≤_;omega,?_,knT⟩
     ·rfl
     ·rw [upd_ne (ne_of_none e hn0)];exact sG1 _ _ e
     ·rw [upd_ne nmn];exact hGm1
     ·refine ((hGV1.up (Nat.le_succ _)).put hvv ?_).tk t3
      rw [hws]
      exact Nat.zero_le _
     ·exact Nat.le_trans (putA_len L1 r (pkRow Pc j)) (by omega)
 ·rintro σ G ⟨x6,x7,x8,rvs2,rfl,sG,hGm,hGn,hGV,hl1,hl2,hkn⟩
  rw [hql,List.take_length] at *
  refine ⟨_,rfl,_,rfl,sm rfl,fun r hr'=>?_⟩
  have t1:=same_new hr' (.tup [V.str "through",V.ref m',V.ref n'])
  exact q r m' n' rvs2 _ (fun j hj=>hkn j hj) (sG.trans t1) upd_same hm' hn0 nmn (t1 _ _ hGm) (t1 _ _ hGn) ((hGV.tk (TKF.same t1)).up hR60)
end
end LW
namespace L2
open PySem PySem.Spec PyProof.Rows PySem.W
theorem strs_are:∀ {ys:List Str} {its:List Value},Vals (ys.map V.str) its→StrsAre its ys
 | [],_,r=>by cases r;exact .nil
 | y :: ys,_,r=>by
  cases r with
  | cons h t=>
   obtain ⟨k,rfl⟩:=h
   exact .cons y k (strs_are t)
theorem mt_join {X:Cx}:MtR X "str.join" (fun x xs H Q=>∃ (sep:Str) (l:Addr) (ys:List Str),x=.str sep∧xs=[.ref l]∧SqL X.K H l (ys.map V.str)∧(ys.map (·.length)).sum+ys.length * sep.length≤16777216∧Q (.str (Txt.join sep ys)) H):=by
 intro pins s σ H x xs v us Q I rx rs h
 obtain ⟨sep,l,ys,rfl,rfl,hl,hb,q⟩:=h
 obtain ⟨t,rfl⟩:=rx
 obtain ⟨u,rfl,ru⟩:=vals1 rs
 cases ru
 obtain ⟨its,rv,pl,hz⟩:=I.list hl
 refine join_list pl.isList (by simpa using strs_are rv) hb fun t' k=>?_
 exact ⟨.str (Txt.join sep ys),H,I.kept (t':=k) fun b o e=>e,⟨t',rfl⟩,q⟩
section
variable {X:Cx} {tg:Expr}
end
open PySem PySem.Spec PyProof.Rows PySem.W
section
variable {prog:Program} {w:World} {A:Around} {E:Value→Shared→Prop} {s:Shared}
theorem cat_none {t b:Addr} {vs ws:List Value} {Q:Value→Shared→Prop} (ht:IsTup s.heap t vs.toArray) (hb:IsTup s.heap b ws.toArray) (hv:vs=[]) (h:Q (.ref b) s):wpAny (model prog w) A (binaryOp .Add (.ref t) (.ref b)) Q E s:=by
 obtain ⟨⟨cls,dd,data,sl⟩,ho,hc,n,hd⟩:=id ht
 obtain ⟨⟨cls2,dd2,data2,sl2⟩,ho2,hc2,n2,hd2⟩:=id hb
 simp only at hc hd hc2 hd2
 subst hc hd hc2 hd2
 exact concat_meets ⟨_,ho,rfl⟩ ⟨_,ho2,rfl⟩ noFill_tuple_add seq_tuple_add PySem.F.slot_tuple_add PySem.F.entry_tuple_add (PySem.F.args_tuple_add_2 _ _)
   (tuple_addW0 t b vs.toArray ws.toArray n n2 dd dd2 sl sl2 (by simp [hv])) ⟨ho,ho2,h⟩
theorem eqBool_refs {a b:Addr} {Q:Bool→Shared→Prop} (hab:a≠b) (h:wpAny (model prog w) A (richCompare .Eq (.ref a) (.ref b)) (fun v s'=>v=.bool true∧Q true s') E s):wpAny (model prog w) A (eqBool (.ref a) (.ref b)) Q E s:=by
 unfold eqBool
 refine wpAny_holding ?_
 have hne:(Value.ref a == Value.ref b)=false:=by
  rw [beq_eq_false_iff_ne]
  intro e
  cases e
  exact hab rfl
 rw [if_neg (by rw [hne];decide)]
 show wpAny _ _ (richCompare .Eq (.ref a) (.ref b) >>= fun v=>truthOfDropped v) _ _ _
 refine wpAny_bind (wpAny_mono h (fun v s' hv=>?_) fun _ _ e=>e)
 obtain ⟨rfl,q⟩:=hv
 exact wpAny_truthy_bool q
theorem forIn_yields {α β:Type} {b₀:β} {f:α→β→Sem (ForInStep β)} {Q:β→Shared→Prop}:∀ (ps:List α),(∀ p∈ps,∀ Q':ForInStep β→Shared→Prop,Q' (.yield b₀) s→wpAny (model prog w) A (f p b₀) Q' E s)→Q b₀ s→wpAny (model prog w) A (forIn ps b₀ f) Q E s
 | [],_,q=>by
  rw [List.forIn_nil]
  exact wpAny_pure q
 | p :: ps,h,q=>by
  rw [List.forIn_cons]
  exact wpAny_bind (h p List.mem_cons_self _ (forIn_yields ps (fun p' hp=>h p' (List.mem_cons_of_mem _ hp)) q))
theorem ne_tuples {l b:Addr} {items items2:Array Value} {Q:Value→Shared→Prop} (hl:s.heap.IsTuple l items) (hb:s.heap.IsTuple b items2) (hsz:items.size=items2.size) (hu:A.units < cLine)
  (hj:∀ p∈items.toList.zip items2.toList,∀ (Q':Bool→Shared→Prop) (E':Value→Shared→Prop),Q' true s→wpAny (model prog w) A.in1 (eqBool p.1 p.2) Q' E' s) (q:Q (.bool false) s):wpAny (model prog w) A (compareOp .NotEq (.ref l) (.ref b)) Q E s:=by
 have tl:IsTup s.heap l items:=hl
 have tb:IsTup s.heap b items2:=hb
 refine wpAny_richCompare_same_room (op:=.NotEq) tl.typeIs tb.typeIs PySem.F.slot_tuple_ne (wpAny_call_entry PySem.F.slot_tuple_ne tl.typeIs PySem.F.entry_tuple_ne ?_ (PySem.F.args_tuple_ne_2 _ _)) hu
 show wpAny _ _ (pure (Value.ref l,[Value.ref b]) >>= _) _ _ _
 refine wpAny_bind (wpAny_pure ?_)
 dsimp only
 refine wpAny_bind (wpAny_isInstance tb.typeIs sub_tuple_tuple ?_)
 simp only [Bool.not_true,Bool.false_eq_true,if_false]
 refine wpAny_bind (tupleItemsOf_ tl (wpAny_bind (tupleItemsOf_ tb (wpAny_bind ?_))))
 refine forIn_yields _ (fun p hp Q' q'=>?_) ?_
 ·obtain ⟨x,y⟩:=p
  dsimp only
  refine wpAny_bind (hj (x,y) hp _ _ ?_)
  simp only [Bool.not_true,Bool.false_eq_true,if_false]
  exact wpAny_pure q'
 ·dsimp only
  rw [hsz]
  refine wpAny_pure ⟨_,rfl,?_⟩
  have e:Builtin.Tuple.tupleCompareSizes .NotEq items2.size items2.size=Value.bool false:=by simp [Builtin.Tuple.tupleCompareSizes]
  rw [e]
  exact ⟨(fun x=>nomatch x),q⟩
end
section
variable {X:Cx} {pins:List (Addr×Obj)} {σ:St} {H:Hp} {s:Shared}
theorem vals_3 {x y z:V} {us:List Value} (r:Vals [x,y,z] us):∃ u v w',us=[u,v,w']∧RelV x u∧RelV y v∧RelV z w':=by
 cases r with
 | cons h1 t=>
  obtain ⟨u,v,rfl,h2,h3⟩:=vals2 t
  exact ⟨_,u,v,rfl,h1,h2,h3⟩
theorem eq_dicts (I:Inv X pins σ H s) {A:Around} {n:Nat} {a b:Addr} {kvs kvs':List (Key×V)} {Q:Bool→Shared→Prop} {E:Value→Shared→Prop} (hu:A.units+1+n < cLine) (ha:H a=some (.dK kvs)) (hb:H b=some (.dK kvs')) (h:LikeD X.K H n kvs kvs') (q:Q true s) :
  wpAny (model X.prog X.w) A (eqBool (.ref a) (.ref b)) Q E s:=by
 by_cases hab:a=b
 ·subst hab
  exact SeqAt.EqAt.same _ X.prog X.w E Q q
 ·obtain ⟨hl,lk⟩:=h
  obtain ⟨_,ea,vs,ra,da⟩:=dk_of I.hok ha
  obtain ⟨_,eb,vs',rb,db⟩:=dk_of I.hok hb
  have e:vs.length=vs'.length:=by rw [← ra.length,← rb.length];exact hl
  refine eqBool_refs hab ?_
  show wpAny _ _ (compareOp .Eq (.ref a) (.ref b)) _ _ _
  refine PySem.W.keq_eq ea eb da db (by omega) (fun _=>hits_likeV I (A:=A.in1) (Rl:=LikeV X.K H n) (fun x y u v h r1 r2=>eqAt_like I n _ x y u v (by show A.units+1+n < cLine;exact hu) h r1 r2) rb ra lk) ?_
  rw [e]
  simp only [beq_self_eq_true,Bool.and_self]
  exact ⟨trivial,q⟩
theorem op_neDDL (n:Nat) (hu:X.A.units+1+1+n < cLine):OpR X (compareOp .NotEq) (fun x y H Q=>∃ (t t' a a' b b' c c':Addr) (k1 k1' k2 k2':List (Key×V)),x=.ref t∧y=.ref t'∧H t=some (.tup [.ref a,.ref b,.ref c])∧H t'=some (.tup [.ref a',.ref b',.ref c'])∧
  H a=some (.dK k1)∧H a'=some (.dK k1')∧LikeD X.K H n k1 k1'∧H b=some (.dK k2)∧H b'=some (.dK k2')∧LikeD X.K H n k2 k2'∧LikeV X.K H (n+1) (.ref c) (.ref c')∧Q (.bl false) H):=by
 intro pins s σ H x y v u Q I rx ry h
 obtain ⟨t,t',a,a',b,b',c,c',k1,k1',k2,k2',rfl,rfl,ht,ht',ha,ha',l1,hb,hb',l2,l3,q⟩:=h
 cases rx;cases ry
 obtain ⟨its,rva,ta,_⟩:=I.tuple (SqT.of ht)
 obtain ⟨its2,rvb,tb,_⟩:=I.tuple (SqT.of ht')
 obtain ⟨u1,u2,u3,rfl,r1,r2,r3⟩:=vals_3 rva
 obtain ⟨w1,w2,w3,rfl,q1,q2,q3⟩:=vals_3 rvb
 cases r1;cases r2;cases r3;cases q1;cases q2;cases q3
 refine ne_tuples (show s.heap.IsTuple t _ from ta) (show s.heap.IsTuple t' _ from tb) rfl (by omega) (fun p hp Q' E' q'=>?_) ⟨.bl false,H,I,rfl,q⟩
 have hp':p=(Value.ref a,Value.ref a')∨p=(Value.ref b,Value.ref b')∨p=(Value.ref c,Value.ref c'):=by simpa using hp
 rcases hp' with rfl | rfl | rfl
 ·exact eq_dicts I (by show X.A.units+1+1+n < cLine;exact hu) ha ha' l1 q'
 ·exact eq_dicts I (by show X.A.units+1+1+n < cLine;exact hu) hb hb' l2 q'
 ·exact eqAt_like I (n+1) X.A.in1 _ _ _ _ (by show X.A.units+1+(n+1) < cLine;omega) l3 rfl rfl X.prog X.w E' Q' q'
end
open PySem PySem.Spec PyProof.Rows PySem.W
def rCatTC:R2:=fun x y H Q=>∃ a b xs ys,x=.ref a∧y=.ref b∧H a=some (.tup xs)∧H b=some (.tup ys)∧xs.length+ys.length≤sizeLine∧∀ p H',Same H H'→H' p=some (.tup (xs++ys))→Q (.ref p) H'
theorem op_catTC {X:Cx}:OpR X (binaryOp .Add) rCatTC:=by
 intro pins s σ H x y v u Q I rx ry h
 obtain ⟨a,b,xs,ys,rfl,rfl,ha,hb,hz,q⟩:=h
 by_cases hx:xs=[]
 ·cases rx
  cases ry
  obtain ⟨its,r1,p1,_⟩:=I.tuple (SqT.of ha)
  obtain ⟨its2,r2,p2,_⟩:=I.tuple (SqT.of hb)
  subst hx
  exact cat_none p1 p2 (r1.nil_iff.mpr rfl) ⟨.ref b,H,I,rfl,q b H (Same.refl _) hb⟩
 ·refine op_catT pins s σ H (.ref a) (.ref b) v u Q I rx ry ⟨a,b,xs,ys,rfl,rfl,SqT.of ha,SqT.of hb,hx,hz,fun hy=>q a H (Same.refl _) (by rw [hy,List.append_nil];exact ha),fun _ p hp=>q p _ (fun c o e=>by rw [upd_ne (ne_of_none e hp)];exact e) upd_same⟩
end L2
namespace LW
open PySem L2
abbrev sCell_at:Stmt:=top 23
abbrev sMix:Stmt:=top 24
abbrev sMade:Stmt:=top 26
abbrev sHolds:Stmt:=top 27
abbrev sStairsL:Stmt:=top 28
abbrev sPlace:Stmt:=top 29
abbrev sTerm:Stmt:=top 30
def lrowD (q:LRow):D:=.tup [.int q.1,.tup (q.2.1.map pD),.tup (q.2.2.map pD)]
theorem lrow_inv {H:Hp} {q:LRow} {v:V} (h:Held H (lrowD q) v):∃ a c e qs ws,v=.ref a∧H a=some (.tup [.int q.1,.ref c,.ref e])∧H c=some (.tup qs)∧HeldL H (q.2.1.map pD) qs∧H e=some (.tup ws)∧HeldL H (q.2.2.map pD) ws:=by
 obtain ⟨a,xs,rfl,ha,h1⟩:=held_tup_inv h
 obtain ⟨v1,r1,rfl,e1,h2⟩:=heldL_cons_inv h1
 obtain ⟨v2,r2,rfl,e2,h3⟩:=heldL_cons_inv h2
 obtain ⟨v3,r3,rfl,e3,h4⟩:=heldL_cons_inv h3
 cases heldL_nil_inv h4
 cases held_int_inv e1
 obtain ⟨c,qs,rfl,hc,g1⟩:=held_tup_inv e2
 obtain ⟨e,ws,rfl,he,g2⟩:=held_tup_inv e3
 exact ⟨a,c,e,qs,ws,rfl,ha,hc,g1,he,g2⟩
def spCell (K:PySem.W.Frag):Sp:=fun vs H Q _=>∃ (a:Addr) (ns:List Int) (k:Int),vs=[.ref a,.int k]∧SqL K H a (ns.map V.int)∧0≤k∧k≤1000∧∀ c:Int,Q (.int c) H
def spMix:Sp:=fun vs H Q _=>∃ (s k:Int),vs=[.int s,.int k]∧∀ c:Int,Q (.int c) H
def spMade:Sp:=fun vs H Q _=>∃ (s n:Int),vs=[.int s,.int n]∧∀ (v:V) (b:Int) (ps:List (Int×Int)) (H':Hp),Same H H'→Rising ps→ps.length≤40→Held H' (lrowD (b,ps,[])) v→Q v H'
def spHoldsL (K:PySem.W.Frag):Sp:=fun vs H Q _=>∃ (v:V) (p:Int) (q:LRow),vs=[v,.int p]∧Held H (lrowD q) v∧Q (.int (heldW q p)) H
theorem two_ints (x y:Int) {i:Int} (h0:0≤i) (h1:i < 2):∃ v,atI [V.int x,V.int y] i=some (.int v):=by
 have:i=0∨i=1:=by omega
 rcases this with rfl | rfl
 ·exact ⟨_,rfl⟩
 ·exact ⟨_,rfl⟩
section
variable {P:Program} {w:World} {K:PySem.W.Frag} {mg:Str→Option Value} {base:Heap}
theorem ok_cell {f:Addr} {fd:FuncData} (F:Fun K "_law_cell_at" "_law_cell_at" sCell_at f fd) (B:Free0 mg):FnOk P w K mg base CX0 1 f fd ["_law_script","_law_k"] (spCell K):=by
 have sc:FnScope ["_law_script","_law_k","_law_number_here"] ["_law_script","_law_k"] (defScope sCell_at):=⟨rfl,rfl,rfl,by decide +kernel,rfl,by decide +kernel,by decide +kernel⟩
 refine F.ok sc (fun vs H Q E h=>?_) (fun cdv A outer s H vs Q E hr h=>?_)
 ·obtain ⟨a,ns,k,rfl,_⟩:=h
  rfl
 obtain ⟨a,ns,k,rfl,hS,h0,h1,q⟩:=h
 have hl:(ns.map V.int).length=ns.length:=List.length_map _
 refine ⟨_,(pss_cons (ps_if (pt_cmpR op_lt (pv 1) (pe_cB call_len_seq (by rfl) B.len_ bt_len (pa_c (pv 0) pa_nil)) (nomark _)) (pss_one (ps_ret (pe_ix ix_list (pv 0) (pv 1) (fun _ _=>rfl)))) pss_nil)
   (pss_cons (ps_set (i:=2) sc.nd rfl (by first | exact Or.inl rfl | exact Or.inr rfl) (pe_op op_add (pe_op op_mul pe_int (pv 1)) pe_int))
   (pss_cons (ps_if (pt_cmpR op_gt (pe_cB call_len_seq (by rfl) B.len_ bt_len (pa_c (pv 0) pa_nil)) pe_int (nomark _)) (pss_one (ps_set (i:=2) sc.nd rfl (by first | exact Or.inl rfl | exact Or.inr rfl) (pe_op op_add (pe_op op_mul (pe_op op_mod (pe_ix ix_list (pv 0) (pe_op op_mod (pv 1) (pe_cB call_len_seq (by rfl) B.len_ bt_len (pa_c (pv 0) pa_nil))) (fun _ _=>rfl)) pe_int) pe_int) (pe_op op_mul (pe_op op_mul pe_int (pv 1)) (pv 1))))) pss_nil)
   (pss_one (ps_ret (pe_op op_mod (pv 2) pe_int)))))),?_⟩
 refine ⟨_,rfl,_,rfl,a,_,rfl,.inl hS,_,_,rfl,rfl,_,rfl,ite2 (fun c=>?_) (fun c=>?_)⟩
 ·have c':k < (ns.length:Int):=by
   have:=of_decide_eq_true c
   rw [hl] at this
   exact this
  exact ⟨_,rfl,_,rfl,a,_,_,_,rfl,rfl,hS,at_map h0 c',q _⟩
 ·refine ⟨_,rfl,_,_,rfl,rfl,.inl ⟨by decide,by decide⟩,_,_,rfl,rfl,?_⟩
  refine ⟨_,rfl,a,_,rfl,.inl hS,_,_,rfl,rfl,_,rfl,ite2 (fun d=>?_) (fun d=>?_)⟩
  ·have d':0 < ns.length:=by
    have:=of_decide_eq_true d
    rw [hl] at this
    omega
   have hm0:0≤k % (ns.length:Int):=Int.emod_nonneg _ (by omega)
   have hm1:k % (ns.length:Int) < (ns.length:Int):=Int.emod_lt_of_pos _ (by omega)
   have hat:atI (ns.map V.int) (k % (((ns.map V.int).length:Nat):Int))=some (.int (ns.getD (k % (ns.length:Int)).toNat 0)):=by
    rw [hl]
    exact at_map hm0 hm1
   refine ⟨_,rfl,_,rfl,_,rfl,a,_,rfl,.inl hS,_,_,rfl,rfl,(by rw [hl];omega),a,_,_,_,rfl,rfl,hS,hat,_,_,rfl,rfl,(by show (0:Int) < _;decide),_,_,rfl,rfl,.inr ⟨by decide,by decide⟩,_,rfl,_,_,rfl,rfl,.inl ⟨by decide,by decide⟩,_,rfl,_,_,rfl,rfl,.inr ⟨by omega,by omega⟩,_,_,rfl,rfl,?_⟩
   exact ⟨_,rfl,_,_,rfl,rfl,(by show (0:Int) < _;decide),q _⟩
  ·exact ⟨_,rfl,_,_,rfl,rfl,(by show (0:Int) < _;decide),q _⟩
theorem ok_mix {f:Addr} {fd:FuncData} (F:Fun K "_law_mix" "_law_mix" sMix f fd):FnOk P w K mg base CX0 1 f fd ["_law_seed","_law_k"] spMix:=by
 have sc:FnScope ["_law_seed","_law_k","_law_number_here"] ["_law_seed","_law_k"] (defScope sMix):=⟨rfl,rfl,rfl,by decide +kernel,rfl,by decide +kernel,by decide +kernel⟩
 refine F.ok sc (fun vs H Q E h=>?_) (fun cdv A outer s H vs Q E hr h=>?_)
 ·obtain ⟨s,k,rfl,_⟩:=h
  rfl
 obtain ⟨s,k,rfl,q⟩:=h
 refine ⟨_,(pss_cons (ps_set (i:=2) sc.nd rfl (by first | exact Or.inl rfl | exact Or.inr rfl) (pe_op op_mod (pe_op op_add (pe_op op_add (pe_op op_mul (pv 0) pe_int) (pe_op op_mul (pv 1) pe_int)) pe_int) pe_int))
   (pss_one (ps_ret (pe_op op_mod (pe_op op_mul (pv 2) (pv 2)) pe_int)))),?_⟩
 have b1:∀ x:Int,0≤x % 2147483647∧x % 2147483647 < 2147483647:=fun x=>⟨Int.emod_nonneg _ (by decide),Int.emod_lt_of_pos _ (by decide)⟩
 refine ⟨_,rfl,_,_,rfl,rfl,.inr ⟨by decide,by decide⟩,_,rfl,_,_,rfl,rfl,.inr ⟨by decide,by decide⟩,_,_,rfl,rfl,_,_,rfl,rfl,_,_,rfl,rfl,(by show (0:Int) < _;decide),?_⟩
 obtain ⟨x1,x2⟩:=b1 (s * 48271+k * 40692+1)
 exact ⟨_,rfl,_,rfl,_,_,rfl,rfl,.inl ⟨by omega,by omega⟩,_,_,rfl,rfl,(by show (0:Int) < _;decide),q _⟩
theorem ok_made {f:Addr} {fd:FuncData} (F:Fun K "_law_made" "_law_made" sMade f fd) (B:Free0 mg) (F_mix:Fn P w K mg base 1 "_law_mix" ["_law_seed","_law_k"] spMix):FnOk P w K mg base CX0 2 f fd ["_law_seed","_law_near"] spMade:=by
 have sc:FnScope ["_law_seed","_law_near","_law_steps","_law_last","_law_base","_law_place_here","_law_k","_law_value"] ["_law_seed","_law_near"] (defScope sMade):=⟨rfl,rfl,rfl,by decide +kernel,rfl,by decide +kernel,by decide +kernel⟩
 refine F.ok sc (fun vs H Q E h=>?_) (fun cdv A outer s H vs Q E hr h=>?_)
 ·obtain ⟨s,n,rfl,_⟩:=h
  rfl
 obtain ⟨sd,nr,rfl,q⟩:=h
 refine ⟨_,(pss_cons (ps_set (i:=2) sc.nd rfl (by first | exact Or.inl rfl | exact Or.inr rfl) (pe_lst pa_nil))
   (pss_cons (ps_set (i:=3) sc.nd rfl (by first | exact Or.inl rfl | exact Or.inr rfl) (pe_op op_sub (pe_op op_mod (pe_op op_mul (pv 1) pe_int) (pe_op op_pow pe_int pe_int)) (pe_op op_mul pe_int (pe_op op_pow pe_int pe_int))))
   (pss_cons (ps_set (i:=4) sc.nd rfl (by first | exact Or.inl rfl | exact Or.inr rfl) (pv 3))
   (pss_cons (ps_set (i:=5) sc.nd rfl (by first | exact Or.inl rfl | exact Or.inr rfl) (pe_op op_sub (pe_ix ix_list (pe_lst (pa_c (pv 1) (pa_c (pe_op op_sub (pv 1) (pe_op op_pow pe_int pe_int)) pa_nil))) (pe_op op_mod (pe_op op_fdivB (pv 0) pe_int) pe_int) (fun _ _=>rfl)) (pe_op op_mod (pe_op op_fdivB (pv 0) pe_int) pe_int)))
   (pss_cons (ps_for PassesOwn.never rfl (pi_range1 (by rfl) B.range_ (pa_c (pe_op op_mod (pv 0) pe_int) pa_nil)) (pg_name (i:=6) sc.nd rfl (by first | exact Or.inl rfl | exact Or.inr rfl)) (pss_cons (ps_set (i:=0) sc.nd rfl (by first | exact Or.inl rfl | exact Or.inr rfl) (pe_fn F_mix hr (pa_c (pv 0) (pa_c (pv 6) pa_nil))))
   (pss_cons (ps_set (i:=7) sc.nd rfl (by first | exact Or.inl rfl | exact Or.inr rfl) (pe_ix ix_list (pe_lst (pa_c (pe_op op_add (pe_op op_add (pv 3) pe_int) (pe_op op_mod (pv 0) pe_int)) (pa_c (pe_op op_sub (pe_op op_sub (pv 3) pe_int) (pe_op op_mod (pv 0) pe_int)) pa_nil))) (pe_op op_mod (pe_op op_fdivB (pv 0) pe_int) pe_int) (fun _ _=>rfl)))
   (pss_cons (ps_expr (pe_bm PySem.F.plainAttrs_list PySem.F.slot_list_append PySem.F.type_list_append mt_append (pv 2) (pa_c (pe_tup (pa_c (pv 5) (pa_c (pv 7) pa_nil))) pa_nil)))
   (pss_cons (ps_set (i:=3) sc.nd rfl (by first | exact Or.inl rfl | exact Or.inr rfl) (pv 7))
   (pss_one (ps_set (i:=5) sc.nd rfl (by first | exact Or.inl rfl | exact Or.inr rfl) (pe_op op_add (pe_op op_add (pe_op op_add (pv 5) pe_int) (pe_op op_mod (pe_op op_fdivB (pv 0) pe_int) pe_int)) (pe_op op_mul (pe_op op_pow pe_int pe_int) (pe_cT call_int1 (by rfl) B.int_ bt_int (pa_c (pe_cmpR op_eq (pe_op op_mod (pe_op op_fdivB (pv 0) pe_int) pe_int) pe_int (nomark _)) pa_nil)))))))))))
   (pss_one (ps_ret (pe_tup (pa_c (pv 4) (pa_c (pe_cT call_tuple_of (by rfl) B.tuple_ bt_tuple (pa_c (pv 2) pa_nil)) (pa_c (pe_tup pa_nil) pa_nil))))))))))),?_⟩
 refine ⟨sm rfl,fun l hl=>?_⟩
 have s1:=same_new hl (.lst [])
 have e1:upd H l (.lst []) l=some (.lst []):=upd_same
 generalize upd H l (.lst [])=H1 at *
 refine ⟨_,rfl,_,_,rfl,rfl,.inr ⟨by decide,by decide⟩,_,_,rfl,rfl,⟨by decide,by decide,by decide⟩,_,_,rfl,rfl,(by show (0:Int) < _;decide),_,_,rfl,rfl,⟨by decide,by decide,by decide⟩,_,_,rfl,rfl,.inl ⟨by decide,by decide⟩,_,_,rfl,rfl,?_⟩
 dsimp only
 generalize nr * 1000003 % 10 ^ Int.toNat 17 - 5 * 10 ^ Int.toNat 16=b0 at *
 refine ⟨_,rfl,?_⟩
 refine ⟨_,rfl,_,rfl,_,_,rfl,rfl,⟨by decide,by decide,by decide⟩,_,_,rfl,rfl,sm rfl,fun l2 hl2=>?_⟩
 dsimp only
 have s2:=same_new hl2 (.lst [V.int nr,V.int (nr - 10 ^ Int.toNat 17)])
 have e2:upd H1 l2 (.lst [V.int nr,V.int (nr - 10 ^ Int.toNat 17)]) l2=some (.lst [V.int nr,V.int (nr - 10 ^ Int.toNat 17)]):=upd_same
 generalize upd H1 l2 (.lst [V.int nr,V.int (nr - 10 ^ Int.toNat 17)])=H2 at *
 obtain ⟨p0,hp0⟩:=two_ints nr (nr - 10 ^ Int.toNat 17) (i:=sd / 3 % 2) (Int.emod_nonneg _ (by decide)) (Int.emod_lt_of_pos _ (by decide))
 refine ⟨_,rfl,_,_,rfl,rfl,⟨by decide,by decide⟩,_,_,rfl,rfl,(by show (0:Int) < _;decide),l2,_,_,_,rfl,rfl,SqL.of e2,hp0,_,rfl,_,_,rfl,rfl,⟨by decide,by decide⟩,_,_,rfl,rfl,(by show (0:Int) < _;decide),_,_,rfl,rfl,?_⟩
 dsimp only
 generalize p0 - sd / 6 % 4=pl0 at *
 refine ⟨_,rfl,_,_,rfl,rfl,(by show (0:Int) < _;decide),?_⟩
 obtain ⟨cnt,hcnt⟩:∃ cnt,cnt=sd % 4:=⟨_,rfl⟩
 have c0:0≤cnt:=by rw [hcnt];exact Int.emod_nonneg _ (by decide)
 have c1:cnt≤40:=by
  have:=Int.emod_lt_of_pos sd (b:=4) (by decide)
  omega
 have e1':H2 l=some (.lst []):=s2 _ _ e1
 have sH3:=s1.trans s2
 refine ⟨cnt,by rw [hcnt],by omega,by omega,?_⟩
 refine for_range (n:=cnt.toNat) (fun i σ G=>∃ (u6 u7:Option V) (sd' last pl:Int) (ps:List (Int×Int)) (xs:List V),σ=[some (.int sd'),some (.int nr),some (.ref l),some (.int last),some (.int b0),some (.int pl),u6,u7]∧Same H G∧G l=some (.lst xs)∧HeldL G (ps.map pD) xs∧Rising ps∧(∀ z∈ps,z.1 < pl)∧ps.length=i) ?_ ?_ ?_
 ·exact ⟨none,none,sd,b0,pl0,[],[],rfl,sH3,e1',heldL_nil,List.Pairwise.nil,fun z hz=>(by cases hz),rfl⟩
 ·rintro i σ G hi ⟨u6,u7,sd',last,pl,ps,xs,rfl,sG,hGl,hxs,hup,hlt,hpl⟩
  refine ⟨_,rfl,_,rfl,sd',_,rfl,fun sd2=>?_⟩
  refine ⟨_,rfl,_,_,rfl,rfl,_,rfl,_,_,rfl,rfl,(by show (0:Int) < _;decide),_,_,rfl,rfl,_,rfl,_,_,rfl,rfl,_,rfl,_,_,rfl,rfl,(by show (0:Int) < _;decide),_,_,rfl,rfl,sm rfl,fun l4 hl4=>?_⟩
  have s4:=same_new hl4 (.lst [V.int (last+1+sd2 % 3),V.int (last - 1 - sd2 % 3)])
  have e4:upd G l4 (.lst [V.int (last+1+sd2 % 3),V.int (last - 1 - sd2 % 3)]) l4=some (.lst [V.int (last+1+sd2 % 3),V.int (last - 1 - sd2 % 3)]):=upd_same
  obtain ⟨val,hval⟩:=two_ints (last+1+sd2 % 3) (last - 1 - sd2 % 3) (i:=sd2 / 3 % 2) (Int.emod_nonneg _ (by decide)) (Int.emod_lt_of_pos _ (by decide))
  refine ⟨_,rfl,_,_,rfl,rfl,⟨by decide,by decide⟩,_,_,rfl,rfl,(by show (0:Int) < _;decide),l4,_,_,_,rfl,rfl,SqL.of e4,hval,?_⟩
  have hGl4:=s4 _ _ hGl
  have hxs4:=hxs.mono s4
  have sG4:=sG.trans s4
  refine ⟨_,rfl,.inl ⟨rfl,_,SqL.of hGl4⟩,_,rfl,_,rfl,sm rfl,fun t ht=>?_⟩
  have s5:=same_new ht (.tup [V.int pl,V.int val])
  have e5:upd (upd G l4 (.lst [V.int (last+1+sd2 % 3),V.int (last - 1 - sd2 % 3)])) t (.tup [V.int pl,V.int val]) t=some (.tup [V.int pl,V.int val]):=upd_same
  have hGl5:=s5 _ _ hGl4
  have hxs5:=hxs4.mono s5
  have sG5:=sG4.trans s5
  have hxl:=hxs.length
  rw [List.length_map] at hxl
  refine ⟨l,_,_,rfl,rfl,hGl5,small1000 (by omega),?_⟩
  have e6:upd (upd (upd G l4 (.lst [V.int (last+1+sd2 % 3),V.int (last - 1 - sd2 % 3)])) t (.tup [V.int pl,V.int val])) l (.lst (xs++[.ref t])) l=some (.lst (xs++[.ref t])):=upd_same
  have tk:TK (upd (upd G l4 (.lst [V.int (last+1+sd2 % 3),V.int (last - 1 - sd2 % 3)])) t (.tup [V.int pl,V.int val])) (upd (upd (upd G l4 (.lst [V.int (last+1+sd2 % 3),V.int (last - 1 - sd2 % 3)])) t (.tup [V.int pl,V.int val])) l (.lst (xs++[.ref t]))):=TK.upd hGl5 (by intro xs z;cases z)
  have hx6:=heldL_snoc (tk.heldL hxs5) (tk.held (held_tup e5 (heldL_cons held_int (heldL_cons held_int heldL_nil))))
  have s6:Same H (upd (upd (upd G l4 (.lst [V.int (last+1+sd2 % 3),V.int (last - 1 - sd2 % 3)])) t (.tup [V.int pl,V.int val])) l (.lst (xs++[.ref t]))):=fun c o e=>by rw [upd_ne (ne_of_none e hl)];exact sG5 _ _ e
  refine ⟨_,rfl,?_⟩
  have done:∀ (y:Int) (u7:Option V),0≤y→∃ (u6 u7':Option V) (sd'' last' pl':Int) (ps':List (Int×Int)) (xs':List V),[some (.int sd2),some (.int nr),some (.ref l),some (.int val),some (.int b0),some (.int (pl+1+sd2 / 6 % 3+10 ^ Int.toNat 17 * y)),u7,some (.int val)]=[some (.int sd''),some (.int nr),some (.ref l),some (.int last'),some (.int b0),some (.int pl'),u6,u7']∧Same H (upd (upd (upd G l4 (.lst [V.int (last+1+sd2 % 3),V.int (last - 1 - sd2 % 3)])) t (.tup [V.int pl,V.int val])) l (.lst (xs++[.ref t])))∧(upd (upd (upd G l4 (.lst [V.int (last+1+sd2 % 3),V.int (last - 1 - sd2 % 3)])) t (.tup [V.int pl,V.int val])) l (.lst (xs++[.ref t]))) l=some (.lst xs')∧HeldL (upd (upd (upd G l4 (.lst [V.int (last+1+sd2 % 3),V.int (last - 1 - sd2 % 3)])) t (.tup [V.int pl,V.int val])) l (.lst (xs++[.ref t]))) (ps'.map pD) xs'∧Rising ps'∧(∀ z∈ps',z.1 < pl')∧ps'.length=i+1:=by
   intro y u7 hy
   have m0:=Int.emod_nonneg (sd2 / 6) (b:=3) (by decide)
   have hb:pl < pl+1+sd2 / 6 % 3+10 ^ Int.toNat 17 * y:=by
    have:(10:Int) ^ Int.toNat 17=100000000000000000:=by decide
    rw [this]
    omega
   refine ⟨u7,some (.int val),sd2,val,_,ps++[(pl,val)],xs++[.ref t],rfl,s6,e6,by rw [List.map_append];exact hx6,List.pairwise_append.mpr ⟨hup,List.pairwise_singleton _ _,fun x hx y hy=>by rw [List.mem_singleton.mp hy];exact hlt x hx⟩,fun z hz=>?_,by rw [List.length_append,hpl];rfl⟩
   rcases List.mem_append.mp hz with hz | hz
   ·exact Int.lt_trans (hlt z hz) hb
   ·rw [List.mem_singleton.mp hz];exact hb
  refine ⟨_,rfl,_,_,rfl,rfl,_,rfl,_,_,rfl,rfl,⟨by decide,by decide⟩,_,_,rfl,rfl,(by show (0:Int) < _;decide),_,_,rfl,rfl,_,_,rfl,rfl,⟨by decide,by decide,by decide⟩,_,rfl,_,_,rfl,rfl,⟨by decide,by decide⟩,_,_,rfl,rfl,(by show (0:Int) < _;decide),rfl,.inr ⟨_,rfl,?_⟩⟩
  refine ⟨_,_,rfl,rfl,.inr ⟨by split <;> decide,by split <;> decide⟩,_,_,rfl,rfl,?_⟩
  exact done _ _ (by split <;> decide)
 ·rintro σ G ⟨u6,u7,sd',last,pl,ps,xs,rfl,sG,hGl,hxs,hup,hlt,hpl⟩
  refine ⟨_,rfl,_,rfl,l,_,rfl,.inl ⟨SqL.of hGl,fun t ht=>?_⟩⟩
  have s3:=same_new ht (.tup xs)
  have e3:upd G t (.tup xs) t=some (.tup xs):=upd_same
  generalize upd G t (.tup xs)=G1 at *
  refine ⟨sm rfl,fun z hz=>?_⟩
  have s4:=same_new hz (.tup [])
  have e4:upd G1 z (.tup []) z=some (.tup []):=upd_same
  generalize upd G1 z (.tup [])=G2 at *
  refine ⟨sm rfl,fun r hr'=>?_⟩
  have s5:=same_new hr' (.tup [V.int b0,V.ref t,V.ref z])
  have s45:=s4.trans s5
  refine q _ b0 ps _ (sG.trans (s3.trans s45)) hup (by omega) (held_tup upd_same (heldL_cons held_int (heldL_cons (held_tup (s45 _ _ e3) (hxs.mono (s3.trans s45))) (heldL_cons (held_tup (s5 _ _ e4) heldL_nil) heldL_nil))))
end
open PySem L2
theorem heldW_take {b:Int} {ps ws:List (Int×Int)} {p:Int} {i:Nat} (h:i < ws.length):heldW (b,ps,ws.take (i+1)) p=if ws[i].1=p then ws[i].2 else heldW (b,ps,ws.take i) p:=by
 rw [List.take_succ,List.getElem?_eq_getElem h]
 show heldW (b,ps,ws.take i++[ws[i]]) p=_
 rw [show ws[i]=(ws[i].1,ws[i].2) from rfl,heldW_snoc]
 by_cases c:p=ws[i].1
 ·rw [if_pos c,if_pos c.symm]
 ·rw [if_neg c,if_neg (fun z=>c z.symm)]
theorem heldW_out {b:Int} {ps ws:List (Int×Int)} {p:Int} (h:∀ z∈ws,z.1≠p):heldW (b,ps,ws) p=heldN b ps p:=by
 refine snoc_ind (P:=fun ws=>(∀ z∈ws,z.1≠p)→heldW (b,ps,ws) p=heldN b ps p) (fun _=>rfl) (fun L x ih h=>?_) ws h
 rw [show x=(x.1,x.2) from rfl,heldW_snoc,if_neg (fun z=>h x (by simp) z.symm)]
 exact ih fun z hz=>h z (List.mem_append_left _ hz)
theorem due_held2 {b:Int} {ps ws:List (Int×Int)} {ms:List Int} (h:Rising ps) (E:EndsOk ps ws ms) (p:Int):heldN b (ms.map fun m=>(m,heldW (b,ps,ws) m)) p=heldW (b,ps,ws) p:=by
 have up:Rising (ms.map fun m=>(m,heldW (b,ps,ws) m)):=by
  show List.Pairwise _ _
  rw [List.pairwise_map]
  exact E.up
 rcases held_max b _ up p with ⟨a,e⟩ | ⟨z,hz,a1,a2,e⟩
 ·have no:∀ m∈ms,¬ m≤p:=fun m hm=>a (m,_) (List.mem_map.mpr ⟨m,hm,rfl⟩)
  rw [e,heldW_out fun q hq z=>no p ((E.mem p).mpr (.inr ⟨q,hq,.inl z⟩)) (Int.le_refl _),heldN_none fun q hq=>no q.1 ((E.mem q.1).mpr (.inl ⟨q,hq,rfl⟩))]
 ·obtain ⟨m,hm,rfl⟩:=List.mem_map.mp hz
  have most:∀ m'∈ms,m'≤p→m'≤m:=fun m' hm' hp=>a2 (m',_) (List.mem_map.mpr ⟨m',hm',rfl⟩) hp
  have hmp:m≤p:=a1
  rw [e]
  show heldW (b,ps,ws) m=heldW (b,ps,ws) p
  by_cases hpm:p=m
  ·rw [hpm]
  ·rw [heldW_out (p:=p) fun q hq z=>by
    have:=most p ((E.mem p).mpr (.inr ⟨q,hq,.inl z⟩)) (Int.le_refl _)
    omega,heldW_out (p:=m) fun q hq z=>by
    have:=most (m+1) ((E.mem (m+1)).mpr (.inr ⟨q,hq,.inr (by omega)⟩)) (by omega)
    omega]
   refine (held_like h hmp fun y hy c=>?_).symm
   have:=most y.1 ((E.mem y.1).mpr (.inl ⟨y,hy,rfl⟩)) c.2
   omega
def endsN (ps pl:List (Int×Int)):List Int:=ps.map (·.1)++pl.flatMap fun q=>[q.1,q.1+1]
theorem ends_len (ps pl:List (Int×Int)):(endsN ps pl).length=ps.length+2 * pl.length:=by
 unfold endsN
 rw [List.length_append,List.length_map]
 congr 1
 induction pl with
 | nil=>rfl
 | cons q r ih=>rw [List.flatMap_cons,List.length_append,ih,List.length_cons];simp only [List.length_cons,List.length_nil];omega
theorem ends_take {ps pl:List (Int×Int)} {i:Nat} (h:i < pl.length):endsN ps (pl.take (i+1))=endsN ps (pl.take i)++[pl[i].1,pl[i].1+1]:=by
 unfold endsN
 rw [List.take_succ,List.getElem?_eq_getElem h,List.flatMap_append,List.append_assoc]
 simp
theorem ends_ok {ps pl:List (Int×Int)} {ms:List Int} (hp:ms.Perm (dedup (endsN ps pl))) (hs:ms.Pairwise (·≤·)):EndsOk ps pl ms:=by
 obtain ⟨d1,d2,d3⟩:=dedup_ok (endsN ps pl)
 have nd:ms.Nodup:=hp.nodup_iff.mpr d1
 refine ⟨?_,fun m=>?_⟩
 ·have:=hs.and nd
  exact this.imp fun h=>by have h1:=h.1;have h2:_≠_:=h.2;omega
 ·rw [hp.mem_iff,d3]
  unfold endsN
  rw [List.mem_append,List.mem_map,List.mem_flatMap]
  refine or_congr ⟨fun ⟨q,h1,h2⟩=>⟨q,h1,h2⟩,fun ⟨q,h1,h2⟩=>⟨q,h1,h2⟩⟩ ⟨fun ⟨q,h1,h2⟩=>⟨q,h1,?_⟩,fun ⟨q,h1,h2⟩=>⟨q,h1,?_⟩⟩
  ·rcases List.mem_cons.mp h2 with h | h
   ·exact .inl h.symm
   ·exact .inr (List.mem_singleton.mp h).symm
  ·rcases h2 with h | h
   ·rw [← h];exact List.mem_cons_self
   ·rw [← h];exact List.mem_cons_of_mem _ (List.mem_singleton.mpr rfl)
def spStairsL (K:PySem.W.Frag):Sp:=fun vs H Q _=>∃ (v:V) (q:LRow),vs=[v]∧Held H (lrowD q) v∧Rising q.2.1∧q.2.1.length≤40∧q.2.2.length≤100∧∀ u R H',Same H H'→Held H' (rowD q.1 R) u→Canon q.1 R→R.length≤40+2 * q.2.2.length→(∀ z,heldN q.1 R z=heldW q z)→Q u H'
def spPlace:Sp:=fun vs H Q _=>∃ (s n:Int) (l:Addr) (ws:List Str),vs=[.int s,.ref l,.int n]∧H l=some (.lst (ws.map V.str))∧ws.length=6∧-(10 ^ 18) < n∧n < 10 ^ 18∧∀ (a:Addr) (x:Str) (d:Int) (H':Hp),Same H H'→H' a=some (.tup [.str x,.int d])→Q (.ref a) H'
def spTerm:Sp:=fun vs H Q _=>∃ (s n:Int) (l:Addr) (ws:List Str),vs=[.int s,.ref l,.int n]∧H l=some (.lst (ws.map V.str))∧ws.length=6∧-(10 ^ 18) < n∧n < 10 ^ 18∧∀ (u:V) (t:Tm) (H':Hp),Same H H'→Held H' t.toD u→Q u H'
theorem four_strs (a b c d:Str) {i:Int} (h0:0≤i) (h1:i < 4):∃ z,atI [V.str a,V.str b,V.str c,V.str d] i=some (.str z):=by
 have:i=0∨i=1∨i=2∨i=3:=by omega
 rcases this with rfl | rfl | rfl | rfl
 ·exact ⟨_,rfl⟩
 ·exact ⟨_,rfl⟩
 ·exact ⟨_,rfl⟩
 ·exact ⟨_,rfl⟩
theorem at_strs {xs:List Str} {i:Int} (h0:0≤i) (h:i < (xs.length:Int)):atI (xs.map V.str) i=some (.str (xs.getD i.toNat "")):=by
 have hk:i.toNat < xs.length:=by omega
 have ek:i=((i.toNat:Nat):Int):=by omega
 have q:atI (xs.map V.str) ((i.toNat:Nat):Int)=some (.str (xs.getD i.toNat "")):=atI_nat (by rw [List.getElem?_map,List.getElem?_eq_getElem hk,List.getD_eq_getElem?_getD,List.getElem?_eq_getElem hk] <;> rfl)
 rw [← ek] at q
 exact q
section
variable {P:Program} {w:World} {K:PySem.W.Frag} {mg:Str→Option Value} {base:Heap}
theorem ok_holdsL {f:Addr} {fd:FuncData} (F:Fun K "_law_holds" "_law_holds" sHolds f fd):FnOk P w K mg base CX0 1 f fd ["_law_row","_law_place_here"] (spHoldsL K):=by
 have sc:FnScope ["_law_row","_law_place_here","_law_value","_law_at","_law_number_here"] ["_law_row","_law_place_here"] (defScope sHolds):=⟨rfl,rfl,rfl,by decide +kernel,rfl,by decide +kernel,by decide +kernel⟩
 refine F.ok sc (fun vs H Q E h=>?_) (fun cdv A outer s H vs Q E hr h=>?_)
 ·obtain ⟨v,p,q,rfl,_⟩:=h
  rfl
 obtain ⟨v,p,⟨b,ps,ws⟩,rfl,hv,q⟩:=h
 obtain ⟨a,c,e,qs,us,rfl,ha,hc,hqs,he,hus⟩:=lrow_inv hv
 dsimp only at ha hqs hus
 have hq:=steps_held (K:=K) hqs
 have hw:=steps_held (K:=K) hus
 refine ⟨_,(pss_cons (ps_set (i:=2) sc.nd rfl (by first | exact Or.inl rfl | exact Or.inr rfl) (pe_ix ix_tup (pv 0) pe_int (fun _ _=>rfl)))
   (pss_cons (ps_for PassesOwn.never rfl (pi_tup (pe_ix ix_tup (pv 0) pe_int (fun _ _=>rfl))) (pg_tup rfl (pgs_cons (pg_name (i:=3) sc.nd rfl (by first | exact Or.inl rfl | exact Or.inr rfl)) (pgs_cons (pg_name (i:=4) sc.nd rfl (by first | exact Or.inl rfl | exact Or.inr rfl)) pgs_nil))) (pss_one (ps_if (pt_cmpR op_le (pv 3) (pv 1) (nomark _)) (pss_one (ps_set (i:=2) sc.nd rfl (by first | exact Or.inl rfl | exact Or.inr rfl) (pv 4))) pss_nil)))
   (pss_cons (ps_for PassesOwn.never rfl (pi_tup (pe_ix ix_tup (pv 0) pe_int (fun _ _=>rfl))) (pg_tup rfl (pgs_cons (pg_name (i:=3) sc.nd rfl (by first | exact Or.inl rfl | exact Or.inr rfl)) (pgs_cons (pg_name (i:=4) sc.nd rfl (by first | exact Or.inl rfl | exact Or.inr rfl)) pgs_nil))) (pss_one (ps_if (pt_cmpR op_eq (pv 3) (pv 1) (nomark _)) (pss_one (ps_set (i:=2) sc.nd rfl (by first | exact Or.inl rfl | exact Or.inr rfl) (pv 4))) pss_nil)))
   (pss_one (ps_ret (pv 2)))))),?_⟩
 refine ⟨_,rfl,a,_,_,_,rfl,rfl,SqT.of ha,rfl,?_⟩
 refine ⟨_,rfl,a,_,_,_,rfl,rfl,SqT.of ha,rfl,c,rfl,⟨_,SqT.of hc⟩,?_⟩
 refine for_tup (xs:=qs) (fun i σ G=>∃ u v,σ=[some (.ref a),some (.int p),some (.int (heldN b (ps.take i) p)),u,v]∧H=G) ?_ ?_ ?_ ?_
 ·exact ⟨none,none,rfl,rfl⟩
 ·rintro i σ G _ ⟨u,v,rfl,rfl⟩
  exact SqT.of hc
 ·rintro i x σ G hx ⟨u,v,rfl,rfl⟩
  have hi:i < ps.length:=by
   rw [← hq.1]
   exact (List.getElem?_eq_some_iff.mp hx).1
  obtain ⟨c',e1,e2⟩:=hq.2 i hi
  rw [hx] at e1
  cases e1
  have es:heldN b (ps.take (i+1)) p=if ps[i].1≤p then ps[i].2 else heldN b (ps.take i) p:=by
   rw [List.take_succ,List.getElem?_eq_getElem hi]
   exact heldN_snoc _ _ _ _
  refine ⟨c',_,rfl,e2,rfl,_,_,rfl,_,_,rfl,rfl,?_⟩
  refine ⟨_,rfl,_,rfl,_,_,rfl,rfl,_,rfl,ite2 (fun d=>?_) (fun d=>?_)⟩
  ·have d':=of_decide_eq_true d
   rw [if_pos d'] at es
   exact ⟨_,rfl,some (.int ps[i].1),some (.int ps[i].2),by rw [es];rfl,rfl⟩
  ·have d':¬ ps[i].1≤p:=fun z=>d (decide_eq_true z)
   rw [if_neg d'] at es
   exact ⟨some (.int ps[i].1),some (.int ps[i].2),by rw [es];rfl,rfl⟩
 rintro σ G ⟨u,v,rfl,rfl⟩
 rw [hq.1,List.take_length]
 refine ⟨_,rfl,a,_,_,_,rfl,rfl,SqT.of ha,rfl,e,rfl,⟨_,SqT.of he⟩,?_⟩
 refine for_tup (xs:=us) (fun i σ G=>∃ u v,σ=[some (.ref a),some (.int p),some (.int (heldW (b,ps,ws.take i) p)),u,v]∧H=G) ?_ ?_ ?_ ?_
 ·exact ⟨u,v,rfl,rfl⟩
 ·rintro i σ G _ ⟨u,v,rfl,rfl⟩
  exact SqT.of he
 ·rintro i x σ G hx ⟨u,v,rfl,rfl⟩
  have hi:i < ws.length:=by
   rw [← hw.1]
   exact (List.getElem?_eq_some_iff.mp hx).1
  obtain ⟨c',e1,e2⟩:=hw.2 i hi
  rw [hx] at e1
  cases e1
  have es:=heldW_take (b:=b) (ps:=ps) (p:=p) hi
  refine ⟨c',_,rfl,e2,rfl,_,_,rfl,_,_,rfl,rfl,?_⟩
  refine ⟨_,rfl,_,rfl,rfl,_,rfl,ite2 (fun d=>?_) (fun d=>?_)⟩
  ·have d':ws[i].1=p:=by
    have:=of_decide_eq_true d
    injection this
   rw [if_pos d'] at es
   exact ⟨_,rfl,some (.int ws[i].1),some (.int ws[i].2),by rw [es];rfl,rfl⟩
  ·have d':¬ ws[i].1=p:=fun z=>d (decide_eq_true (congrArg V.int z))
   rw [if_neg d'] at es
   exact ⟨some (.int ws[i].1),some (.int ws[i].2),by rw [es];rfl,rfl⟩
 ·rintro σ G ⟨u,v,rfl,rfl⟩
  rw [hw.1,List.take_length]
  exact ⟨_,rfl,q⟩
theorem ok_place {f:Addr} {fd:FuncData} (F:Fun K "_law_place" "_law_place" sPlace f fd) (B:Free0 mg):FnOk P w K mg base CX0 1 f fd ["_law_seed","_law_w","_law_near"] spPlace:=by
 have sc:FnScope ["_law_seed","_law_w","_law_near","_law_x"] ["_law_seed","_law_w","_law_near"] (defScope sPlace):=⟨rfl,rfl,rfl,by decide +kernel,rfl,by decide +kernel,by decide +kernel⟩
 refine F.ok sc (fun vs H Q E h=>?_) (fun cdv A outer s H vs Q E hr h=>?_)
 ·obtain ⟨s,n,l,ws,rfl,_⟩:=h
  rfl
 obtain ⟨s,n,l,ws,rfl,hl,hw8,hn0,hn1,q⟩:=h
 refine ⟨_,(pss_cons (ps_set (i:=3) sc.nd rfl (by first | exact Or.inl rfl | exact Or.inr rfl) (pe_ix ix_list (pe_lst (pa_c pe_str (pa_c (pe_ix ix_list (pv 1) pe_int (fun _ _=>rfl)) (pa_c (pe_ix ix_list (pv 1) pe_int (fun _ _=>rfl)) (pa_c (pe_ix ix_list (pv 1) pe_int (fun _ _=>rfl)) pa_nil))))) (pe_op op_mod (pv 0) pe_int) (fun _ _=>rfl)))
   (pss_one (ps_ret (pe_tup (pa_c (pv 3) (pa_c (pe_op op_add (pe_op op_sub (pe_op op_mod (pe_op op_fdivB (pv 0) pe_int) pe_int) pe_int) (pe_op op_mul (pv 2) (pe_cT call_int1 (by rfl) B.int_ bt_int (pa_c (pe_cmpR op_eq (pv 3) pe_str (nomark _)) pa_nil)))) pa_nil)))))),?_⟩
 have h0:=at_strs (xs:=ws) (i:=0) (by decide) (by rw [hw8];decide)
 have h1:=at_strs (xs:=ws) (i:=1) (by decide) (by rw [hw8];decide)
 have h2:=at_strs (xs:=ws) (i:=2) (by decide) (by rw [hw8];decide)
 refine ⟨_,rfl,l,_,_,_,rfl,rfl,SqL.of hl,h0,_,rfl,l,_,_,_,rfl,rfl,SqL.of hl,h1,_,rfl,l,_,_,_,rfl,rfl,SqL.of hl,h2,sm rfl,fun l1 hl1=>?_⟩
 generalize ws.getD (Int.toNat 0) "" = x0 at *
 generalize ws.getD (Int.toNat 1) "" = x1 at *
 generalize ws.getD (Int.toNat 2) "" = x2 at *
 have s1:=same_new hl1 (.lst [V.str "",V.str x0,V.str x1,V.str x2])
 have e1:upd H l1 (.lst [V.str "",V.str x0,V.str x1,V.str x2]) l1=some (.lst [V.str "",V.str x0,V.str x1,V.str x2]):=upd_same
 generalize upd H l1 (.lst [V.str "",V.str x0,V.str x1,V.str x2])=H1 at *
 obtain ⟨x,hx⟩:=four_strs "" x0 x1 x2 (i:=s % 4) (Int.emod_nonneg _ (by decide)) (Int.emod_lt_of_pos _ (by decide))
 refine ⟨_,rfl,_,_,rfl,rfl,(by show (0:Int) < _;decide),l1,_,_,_,rfl,rfl,SqL.of e1,hx,?_⟩
 refine ⟨_,rfl,_,rfl,_,_,rfl,rfl,⟨by decide,by decide⟩,_,_,rfl,rfl,(by show (0:Int) < _;decide),_,_,rfl,rfl,_,rfl,_,rfl,rfl,.inr ⟨_,rfl,?_⟩⟩
 refine ⟨_,_,rfl,rfl,.inr ⟨by split <;> decide,by split <;> decide⟩,_,_,rfl,rfl,sm rfl,fun a ha=>?_⟩
 exact q a x _ _ (s1.trans (same_new ha _)) upd_same
theorem ok_term {f:Addr} {fd:FuncData} (F:Fun K "_law_term" "_law_term" sTerm f fd) (B:Free0 mg) (F_place:Fn P w K mg base 1 "_law_place" ["_law_seed","_law_w","_law_near"] spPlace):FnOk P w K mg base CX0 2 f fd ["_law_seed","_law_w","_law_near"] spTerm:=by
 have sc:FnScope ["_law_seed","_law_w","_law_near"] ["_law_seed","_law_w","_law_near"] (defScope sTerm):=⟨rfl,rfl,rfl,by decide +kernel,rfl,by decide +kernel,by decide +kernel⟩
 refine F.ok sc (fun vs H Q E h=>?_) (fun cdv A outer s H vs Q E hr h=>?_)
 ·obtain ⟨s,n,l,ws,rfl,_⟩:=h
  rfl
 obtain ⟨s,n,l,ws,rfl,hl,hw8,hn0,hn1,q⟩:=h
 refine ⟨_,(pss_cons (ps_if (pt_cmpR op_lt (pe_op op_mod (pv 0) pe_int) pe_int (nomark _)) (pss_one (ps_ret (pe_tup (pa_c pe_str (pa_c (pe_ix ix_list (pe_lst (pa_c pe_str (pa_c (pe_ix ix_list (pv 1) pe_int (fun _ _=>rfl)) (pa_c (pe_ix ix_list (pv 1) pe_int (fun _ _=>rfl)) (pa_c (pe_ix ix_list (pv 1) pe_int (fun _ _=>rfl)) pa_nil))))) (pe_op op_mod (pe_op op_fdivB (pv 0) pe_int) pe_int) (fun _ _=>rfl)) pa_nil))))) pss_nil)
   (pss_one (ps_ret (pe_tup (pa_c pe_str (pa_c (pe_ix ix_list (pv 1) (pe_op op_add pe_int (pe_op op_mod (pe_op op_fdivB (pv 0) pe_int) pe_int)) (fun _ _=>rfl)) (pa_c (pe_fn F_place hr (pa_c (pe_op op_fdivB (pv 0) pe_int) (pa_c (pv 1) (pa_c (pv 2) pa_nil)))) pa_nil))))))),?_⟩
 have h0:=at_strs (xs:=ws) (i:=0) (by decide) (by rw [hw8];decide)
 have h1:=at_strs (xs:=ws) (i:=1) (by decide) (by rw [hw8];decide)
 have h2:=at_strs (xs:=ws) (i:=2) (by decide) (by rw [hw8];decide)
 refine ⟨_,rfl,_,_,rfl,rfl,(by show (0:Int) < _;decide),_,_,rfl,rfl,_,rfl,ite2 (fun c=>?_) (fun c=>?_)⟩
 ·refine ⟨_,rfl,l,_,_,_,rfl,rfl,SqL.of hl,h0,_,rfl,l,_,_,_,rfl,rfl,SqL.of hl,h1,_,rfl,l,_,_,_,rfl,rfl,SqL.of hl,h2,sm rfl,fun l1 hl1=>?_⟩
  generalize ws.getD (Int.toNat 0) "" = x0 at *
  generalize ws.getD (Int.toNat 1) "" = x1 at *
  generalize ws.getD (Int.toNat 2) "" = x2 at *
  have s1:=same_new hl1 (.lst [V.str "",V.str x0,V.str x1,V.str x2])
  have e1:upd H l1 (.lst [V.str "",V.str x0,V.str x1,V.str x2]) l1=some (.lst [V.str "",V.str x0,V.str x1,V.str x2]):=upd_same
  generalize upd H l1 (.lst [V.str "",V.str x0,V.str x1,V.str x2])=H1 at *
  obtain ⟨x,hx⟩:=four_strs "" x0 x1 x2 (i:=s / 3 % 4) (Int.emod_nonneg _ (by decide)) (Int.emod_lt_of_pos _ (by decide))
  refine ⟨_,rfl,_,_,rfl,rfl,⟨by decide,by decide⟩,_,_,rfl,rfl,(by show (0:Int) < _;decide),l1,_,_,_,rfl,rfl,SqL.of e1,hx,sm rfl,fun a ha=>?_⟩
  exact q _ (.is x) _ (s1.trans (same_new ha _)) (held_tup upd_same (heldL_cons held_str (heldL_cons held_str heldL_nil)))
 ·have m0:=Int.emod_nonneg (s / 3) (b:=3) (by decide)
  have m1:=Int.emod_lt_of_pos (s / 3) (b:=3) (by decide)
  have h3:=at_strs (xs:=ws) (i:=3+s / 3 % 3) (by omega) (by rw [hw8];omega)
  refine ⟨_,rfl,_,rfl,_,_,rfl,rfl,⟨by decide,by decide⟩,_,_,rfl,rfl,(by show (0:Int) < _;decide),_,_,rfl,rfl,l,_,_,_,rfl,rfl,SqL.of hl,h3,?_⟩
  generalize ws.getD (3+s / 3 % 3).toNat "" = r at *
  refine ⟨_,rfl,_,_,rfl,rfl,⟨by decide,by decide⟩,_,rfl,_,rfl,_,n,l,ws,rfl,hl,hw8,hn0,hn1,fun a x d H1 s1 ha=>?_⟩
  refine ⟨sm rfl,fun t ht=>?_⟩
  have s2:=same_new ht (.tup [V.str "at",V.str r,V.ref a])
  exact q _ (.at_ r x d) _ (s1.trans s2) (held_tup upd_same (heldL_cons held_str (heldL_cons held_str (heldL_cons (held_tup (s2 _ _ ha) (heldL_cons held_str (heldL_cons held_int heldL_nil))) heldL_nil))))
end
open PySem L2
abbrev sNumber:Stmt:=top 31
abbrev sWorth:Stmt:=top 32
abbrev sPut:Stmt:=top 33
abbrev sGone:Stmt:=top 34
section
variable {P:Program} {w:World} {K:PySem.W.Frag} {mg:Str→Option Value} {base:Heap}
theorem ok_stairsL {f:Addr} {fd:FuncData} (F:Fun K "_law_stairs" "_law_stairs" sStairsL f fd) (B:Free0 mg) (F_holds:Fn P w K mg base 1 "_law_holds" ["_law_row","_law_place_here"] (spHoldsL K)):FnOk P w K mg base CX0 2 f fd ["_law_row"] (spStairsL K):=by
 have sc:FnScope ["_law_row","_law_places","_law_at","_law_number_here","_law_last","_law_steps","_law_place_here","_law_value"] ["_law_row"] (defScope sStairsL):=⟨rfl,rfl,rfl,by decide +kernel,rfl,by decide +kernel,by decide +kernel⟩
 refine F.ok sc (fun vs H Q E h=>?_) (fun cdv A outer s H vs Q E hr h=>?_)
 ·obtain ⟨v,q,rfl,_⟩:=h
  rfl
 obtain ⟨v,⟨b,ps,ws⟩,rfl,hv,hup,hl,hwl,q⟩:=h
 dsimp only at hup hl hwl q
 have hv0:=hv
 obtain ⟨a,c,e,qs,us,rfl,ha,hc,hqs,he,hus⟩:=lrow_inv hv
 dsimp only at ha hqs hus
 have hq:=steps_held (K:=K) hqs
 have hw:=steps_held (K:=K) hus
 have hlen:=hq.1
 refine ⟨_,(pss_cons (ps_setcomp (i:=1) sc.nd rfl (by first | exact Or.inl rfl | exact Or.inr rfl) ["_law_at","_law_number_here"] [] rfl (comp_ok (sc:=defScope sStairsL) (N:=["_law_row","_law_places","_law_at","_law_number_here","_law_last","_law_steps","_law_place_here","_law_value"]) rfl rfl (by decide +kernel)) (pi_tup (pe_ix ix_tup (pv 0) pe_int (fun _ _=>rfl))) (fun s H ex=>⟨(pg_tupK (K:=K) (n:=2) rfl (pgs_cons (pg_name (i:=0) (show List.Nodup (["_law_at","_law_number_here"]:List Str) by decide +kernel) rfl (by first | exact Or.inl rfl | exact Or.inr rfl)) (pgs_cons (pg_name (i:=1) (show List.Nodup (["_law_at","_law_number_here"]:List Str) by decide +kernel) rfl (by first | exact Or.inl rfl | exact Or.inr rfl)) pgs_nil))),pts_nil,(pv 0)⟩))
   (pss_cons (ps_for PassesOwn.never rfl (pi_tup (pe_ix ix_tup (pv 0) pe_int (fun _ _=>rfl))) (pg_tup rfl (pgs_cons (pg_name (i:=2) sc.nd rfl (by first | exact Or.inl rfl | exact Or.inr rfl)) (pgs_cons (pg_name (i:=3) sc.nd rfl (by first | exact Or.inl rfl | exact Or.inr rfl)) pgs_nil))) (pss_one (ps_expr (pe_bm PySem.F.plainAttrs_list PySem.F.slot_list_extend PySem.F.type_list_extend mt_extend (pv 1) (pa_c (pe_lst (pa_c (pv 2) (pa_c (pe_op op_add (pv 2) pe_int) pa_nil))) pa_nil)))))
   (pss_cons (ps_set (i:=4) sc.nd rfl (by first | exact Or.inl rfl | exact Or.inr rfl) (pe_ix ix_tup (pv 0) pe_int (fun _ _=>rfl)))
   (pss_cons (ps_set (i:=5) sc.nd rfl (by first | exact Or.inl rfl | exact Or.inr rfl) (pe_lst pa_nil))
   (pss_cons (ps_for PassesOwn.never rfl (pi_list (pe_cB (call_sorted_setM (P:=P) (w:=w) rfl) (by rfl) B.sorted_ bt_sorted (pa_c (pe_cT (call_set_intsP (P:=P) (w:=w) rfl) (by rfl) B.set_ bt_set (pa_c (pv 1) pa_nil)) pa_nil))) (pg_name (i:=6) sc.nd rfl (by first | exact Or.inl rfl | exact Or.inr rfl)) (pss_cons (ps_set (i:=7) sc.nd rfl (by first | exact Or.inl rfl | exact Or.inr rfl) (pe_fn F_holds hr (pa_c (pv 0) (pa_c (pv 6) pa_nil))))
   (pss_one (ps_if (pt_cmpR op_ne (pv 7) (pv 4) (nomark _)) (pss_cons (ps_expr (pe_bm PySem.F.plainAttrs_list PySem.F.slot_list_append PySem.F.type_list_append mt_append (pv 5) (pa_c (pe_tup (pa_c (pv 6) (pa_c (pv 7) pa_nil))) pa_nil)))
   (pss_one (ps_set (i:=4) sc.nd rfl (by first | exact Or.inl rfl | exact Or.inr rfl) (pv 7)))) pss_nil))))
   (pss_one (ps_ret (pe_tup (pa_c (pe_ix ix_tup (pv 0) pe_int (fun _ _=>rfl)) (pa_c (pe_cT call_tuple_of (by rfl) B.tuple_ bt_tuple (pa_c (pv 5) pa_nil)) pa_nil)))))))))),?_⟩
 refine ⟨_,rfl,a,_,_,_,rfl,rfl,SqT.of ha,rfl,c,rfl,⟨_,SqT.of hc⟩,fun p hp=>?_⟩
 have s2:=same_new hp (.lst [])
 refine comp_tup (xs:=qs) (fun i σ' G'=>∃ u3 u4,σ'=[u3,u4]∧Same H G'∧G' p=some (.lst ((ps.take i).map fun q=>V.int q.1))) ⟨none,none,rfl,s2,upd_same⟩ ?_ ?_ ?_
 ·rintro i σ' G' _ ⟨u3,u4,rfl,sG',_⟩
  exact SqT.of (sG' _ _ hc)
 ·rintro i x σ' G' hx ⟨u3,u4,rfl,sG',hGp⟩
  have hi:i < ps.length:=by
   rw [← hlen]
   exact (List.getElem?_eq_some_iff.mp hx).1
  obtain ⟨c',f1,f2⟩:=hq.2 i hi
  rw [hx] at f1
  cases f1
  refine ⟨c',_,rfl,sG'.sqT f2,rfl,_,_,rfl,_,_,rfl,rfl,?_⟩
  unfold tYes
  refine iteT ?_
  refine ⟨_,rfl,_,hGp,?_,_,_,rfl,?_,?_⟩
  ·rw [List.length_map,List.length_take]
   exact small1000 (by omega)
  ·intro z o e
   rw [upd_ne (ne_of_none e hp)]
   exact sG' _ _ e
  ·rw [upd_same,List.take_succ,List.getElem?_eq_getElem hi,List.map_append]
   rfl
 rintro σ' H1 ⟨u3,u4,rfl,s1,hGp⟩
 rw [hlen,List.take_length] at hGp
 have e1:H1 p=some (.lst ((endsN ps (ws.take 0)).map V.int)):=by
  rw [hGp]
  unfold endsN
  rw [List.take_zero,List.flatMap_nil,List.append_nil,List.map_map]
  rfl
 clear hGp s2
 refine ⟨_,rfl,a,_,_,_,rfl,rfl,SqT.of (s1 _ _ ha),rfl,e,rfl,⟨_,SqT.of (s1 _ _ he)⟩,?_⟩
 refine for_tup (xs:=us) (fun i σ G=>∃ x2 x3,σ=[some (.ref a),some (.ref p),x2,x3,none,none,none,none]∧Same H G∧G p=some (.lst ((endsN ps (ws.take i)).map V.int))) ?_ ?_ ?_ ?_
 ·exact ⟨none,none,rfl,s1,e1⟩
 ·rintro i σ G _ ⟨x2,x3,rfl,sG,_⟩
  exact SqT.of (sG _ _ he)
 ·rintro i x σ G hx ⟨x2,x3,rfl,sG,hGp⟩
  have hi:i < ws.length:=by
   rw [← hw.1]
   exact (List.getElem?_eq_some_iff.mp hx).1
  obtain ⟨c',f1,f2⟩:=hw.2 i hi
  rw [hx] at f1
  cases f1
  refine ⟨c',_,rfl,sG.sqT f2,rfl,_,_,rfl,_,_,rfl,rfl,?_⟩
  refine ⟨_,rfl,.inl ⟨rfl,_,SqL.of hGp⟩,_,rfl,_,rfl,_,_,rfl,rfl,sm rfl,fun l1 hl1=>?_⟩
  dsimp only
  have t1:=same_new hl1 (.lst [V.int ws[i].1,V.int (ws[i].1+1)])
  have f1:upd G l1 (.lst [V.int ws[i].1,V.int (ws[i].1+1)]) l1=some (.lst [V.int ws[i].1,V.int (ws[i].1+1)]):=upd_same
  generalize upd G l1 (.lst [V.int ws[i].1,V.int (ws[i].1+1)])=G1 at *
  refine ⟨p,l1,_,_,rfl,rfl,t1 _ _ hGp,f1,small (by rw [List.length_map,ends_len,List.length_take];simp only [List.length_cons,List.length_nil];omega),?_⟩
  refine ⟨_,_,rfl,fun z o e=>?_,?_⟩
  ·rw [upd_ne (ne_of_none e hp)]
   exact t1 _ _ (sG _ _ e)
  ·rw [upd_same,ends_take hi,List.map_append]
   rfl
 rintro σ H3 ⟨x2,x3,rfl,s3,e3⟩
 rw [hw.1,List.take_length] at e3
 refine ⟨_,rfl,a,_,_,_,rfl,rfl,SqT.of (s3 _ _ ha),rfl,?_⟩
 refine ⟨sm rfl,fun ls hls=>?_⟩
 have t4:=same_new hls (.lst [])
 have e4:upd H3 ls (.lst []) ls=some (.lst []):=upd_same
 generalize upd H3 ls (.lst [])=H4 at *
 have s4:=s3.trans t4
 have hel:(endsN ps ws).length≤1000:=by rw [ends_len];omega
 refine ⟨_,rfl,p,_,rfl,SqL.of (t4 _ _ e3),hel,fun v hvs=>?_⟩
 obtain ⟨d1,d2,d3⟩:=dedup_ok (endsN ps ws)
 refine ⟨v,_,rfl,upd_same,by omega,fun l5 ms hl5 hperm hsort=>?_⟩
 have t5:=(same_new hvs (setP P w v (dedup (endsN ps ws)))).trans (same_new hl5 (.lst (ms.map V.int)))
 have e5:upd (upd H4 v (setP P w v (dedup (endsN ps ws)))) l5 (.lst (ms.map V.int)) l5=some (.lst (ms.map V.int)):=upd_same
 have n5:l5≠ls:=(ne_of_none ((same_new hvs (setP P w v (dedup (endsN ps ws)))) _ _ e4) hl5).symm
 generalize upd (upd H4 v (setP P w v (dedup (endsN ps ws)))) l5 (.lst (ms.map V.int))=H5 at *
 have s5:=s4.trans t5
 have e45:=t5 _ _ e4
 have E:=ends_ok hperm hsort
 have hml:ms.length≤ps.length+2 * ws.length:=by rw [hperm.length_eq];rw [ends_len] at d2;exact d2
 have hls0:H ls=none:=s3.free hls
 refine ⟨l5,rfl,⟨_,SqL.of e5⟩,?_⟩
 refine for_list (xs:=ms.map V.int) (fun i σ G=>∃ x6 x7 xs,σ=[some (.ref a),some (.ref p),x2,x3,some (.int (stN b ((ms.take i).map fun x=>(x,heldW (b,ps,ws) x))).1),some (.ref ls),x6,x7]∧Same H G∧G l5=some (.lst (ms.map V.int))∧G ls=some (.lst xs)∧HeldL G ((stN b ((ms.take i).map fun x=>(x,heldW (b,ps,ws) x))).2.map pD) xs) ?_ ?_ ?_ ?_
 ·exact ⟨none,none,[],rfl,s5,e5,e45,heldL_nil⟩
 ·rintro i σ G _ ⟨x6,x7,xs,rfl,sG,hG5,hGs,hx⟩
  exact SqL.of hG5
 ·rintro i x σ G hx ⟨x6,x7,xs,rfl,sG,hG5,hGs,hxs⟩
  have hi:i < ms.length:=by
   have:=(List.getElem?_eq_some_iff.mp hx).1
   rw [List.length_map] at this
   exact this
  rw [List.getElem?_map,List.getElem?_eq_getElem hi] at hx
  cases hx
  have est:stN b ((ms.take (i+1)).map fun x=>(x,heldW (b,ps,ws) x))=if heldW (b,ps,ws) ms[i]=(stN b ((ms.take i).map fun x=>(x,heldW (b,ps,ws) x))).1 then stN b ((ms.take i).map fun x=>(x,heldW (b,ps,ws) x)) else (heldW (b,ps,ws) ms[i],(stN b ((ms.take i).map fun x=>(x,heldW (b,ps,ws) x))).2++[(ms[i],heldW (b,ps,ws) ms[i])]):=by
   rw [List.take_succ,List.getElem?_eq_getElem hi,List.map_append]
   exact stN_snoc _ _ _
  have hsl:(stN b ((ms.take i).map fun x=>(x,heldW (b,ps,ws) x))).2.length≤i:=by
   have:=stN_len b ((ms.take i).map fun x=>(x,heldW (b,ps,ws) x))
   rw [List.length_map,List.length_take] at this
   omega
  rw [est]
  generalize stN b ((ms.take i).map fun x=>(x,heldW (b,ps,ws) x))=ST at *
  obtain ⟨ah,st⟩:=ST
  dsimp only at hsl hxs est
  unfold gName
  refine ⟨_,rfl,_,rfl,.ref a,ms[i],(b,ps,ws),rfl,hv0.mono sG,?_⟩
  generalize heldW (b,ps,ws) ms[i]=hp' at *
  generalize ms[i]=mi at *
  refine ⟨_,rfl,_,rfl,rfl,_,rfl,?_⟩
  by_cases hva:hp'=ah
  ·rw [hva,decide_eq_true rfl]
   refine iteF ?_
   refine ⟨some (.int mi),some (.int ah),xs,?_,sG,hG5,hGs,?_⟩
   ·rw [if_pos rfl];rfl
   ·rw [if_pos rfl];exact hxs
  ·rw [decide_eq_false (fun z=>hva (by injection z))]
   refine iteT ?_
   refine ⟨_,rfl,.inl ⟨rfl,_,SqL.of hGs⟩,_,rfl,_,rfl,sm rfl,fun t ht=>?_⟩
   have u3:=same_new ht (.tup [V.int mi,V.int hp'])
   have g3:upd G t (.tup [V.int mi,V.int hp']) t=some (.tup [V.int mi,V.int hp']):=upd_same
   generalize upd G t (.tup [V.int mi,V.int hp'])=G1 at *
   have hxl:=hxs.length
   rw [List.length_map] at hxl
   refine ⟨ls,_,_,rfl,rfl,u3 _ _ hGs,small1000 (by omega),?_⟩
   have tk:TK G1 (upd G1 ls (.lst (xs++[.ref t]))):=TK.upd (u3 _ _ hGs) (by intro xs z;cases z)
   refine ⟨_,rfl,some (.int mi),some (.int hp'),xs++[.ref t],?_,?_,?_,upd_same,?_⟩
   ·rw [if_neg hva];rfl
   ·intro c o e
    rw [upd_ne (ne_of_none e hls0)]
    exact u3 _ _ (sG _ _ e)
   ·rw [upd_ne n5]
    exact u3 _ _ hG5
   ·rw [if_neg hva,List.map_append]
    exact heldL_snoc (tk.heldL (hxs.mono u3)) (tk.held (held_tup g3 (heldL_cons held_int (heldL_cons held_int heldL_nil))))
 ·rintro σ G ⟨x6,x7,xs,rfl,sG,hG5,hGs,hxs⟩
  rw [List.length_map,List.take_length] at hxs
  refine ⟨_,rfl,a,_,_,_,rfl,rfl,SqT.of (sG _ _ ha),rfl,_,rfl,ls,_,rfl,.inl ⟨SqL.of hGs,fun t ht=>?_⟩⟩
  have u3:=same_new ht (.tup xs)
  have g3:upd G t (.tup xs) t=some (.tup xs):=upd_same
  generalize upd G t (.tup xs)=G1 at *
  refine ⟨sm rfl,fun r hr'=>?_⟩
  have u4:=same_new hr' (.tup [V.int b,V.ref t])
  have up2:Rising (ms.map fun x=>(x,heldW (b,ps,ws) x)):=by
   show List.Pairwise _ _
   rw [List.pairwise_map]
   exact E.up
  refine q _ _ _ (sG.trans (u3.trans u4)) (held_tup upd_same (heldL_cons held_int (heldL_cons (held_tup (u4 _ _ g3) (hxs.mono (u3.trans u4))) heldL_nil))) (canon_st b up2) ?_ fun z=>?_
  ·have:=stN_len b (ms.map fun x=>(x,heldW (b,ps,ws) x))
   rw [List.length_map] at this
   omega
  ·rw [held_st b _ up2,due_held2 hup E]
end
open PySem L2
def RP (F:LRow→V→Prop):List (Key×V)→List (Str×LRow)→Prop
 | [],[]=>True
 | p :: r,q :: t=>(p.1=Sum.inr q.1∧F q.2 p.2)∧RP F r t
 | _,_=>False
theorem RP.imp {F G:LRow→V→Prop} (f:∀ q v,F q v→G q v):∀ {rvs:List (Key×V)} {L:List (Str×LRow)},RP F rvs L→RP G rvs L
 | [],[],_=>trivial
 | _ :: _,_ :: _,⟨⟨h1,h2⟩,h4⟩=>⟨⟨h1,f _ _ h2⟩,RP.imp f h4⟩
theorem RP.len {F:LRow→V→Prop}:∀ {rvs:List (Key×V)} {L:List (Str×LRow)},RP F rvs L→rvs.length=L.length
 | [],[],_=>rfl
 | _ :: _,_ :: _,⟨_,h4⟩=>by rw [List.length_cons,List.length_cons,RP.len h4]
theorem RP.val {F:LRow→V→Prop} (r:Str):∀ {rvs:List (Key×V)} {L:List (Str×LRow)},RP F rvs L→(valV rvs (Sum.inr r)=none∧lkA L r=none)∨∃ v q,valV rvs (Sum.inr r)=some v∧lkA L r=some q∧F q v
 | [],[],_=>.inl ⟨rfl,rfl⟩
 | p :: rvs,q :: L,⟨⟨h1,h2⟩,h4⟩=>by
  by_cases h:q.1=r
  ·refine .inr ⟨p.2,q.2,valV_pos (by rw [h1,h]),?_,h2⟩
   unfold lkA
   rw [List.find?_cons,decide_eq_true h]
   rfl
  ·have e1:valV (p :: rvs) (Sum.inr r)=valV rvs (Sum.inr r):=valV_neg (by rw [h1];exact fun z=>h (Sum.inr.inj z))
   have e2:lkA (q :: L) r=lkA L r:=by
    unfold lkA
    rw [List.find?_cons,decide_eq_false h]
   rw [e1,e2]
   exact RP.val r h4
theorem RP.any {F:LRow→V→Prop} (r:Str):∀ {rvs:List (Key×V)} {L:List (Str×LRow)},RP F rvs L→(rvs.any fun kv=>decide (kv.1=(Sum.inr r:Key)))=L.any fun q=>decide (q.1=r)
 | [],[],_=>rfl
 | p :: rvs,q :: L,⟨⟨h1,_⟩,h4⟩=>by rw [List.any_cons,List.any_cons,RP.any r h4,h1,inr_dec]
theorem RP.snoc {F:LRow→V→Prop} {r:Str} {v:V} {q:LRow} (hq:F q v):∀ {rvs:List (Key×V)} {L:List (Str×LRow)},RP F rvs L→RP F (rvs++[(Sum.inr r,v)]) (L++[(r,q)])
 | [],[],_=>⟨⟨rfl,hq⟩,trivial⟩
 | _ :: _,_ :: _,⟨h1,h4⟩=>⟨h1,RP.snoc hq h4⟩
theorem RP.repl {F:LRow→V→Prop} {r:Str} {v:V} {q:LRow} (hq:F q v):∀ {rvs:List (Key×V)} {L:List (Str×LRow)},RP F rvs L→RP F (rvs.map fun kv=>if kv.1=(Sum.inr r:Key) then (kv.1,v) else kv) (L.map fun z=>if z.1=r then (z.1,q) else z)
 | [],[],_=>trivial
 | p :: rvs,z :: L,⟨⟨h1,h2⟩,h4⟩=>by
  refine ⟨?_,RP.repl hq h4⟩
  dsimp only
  by_cases h:z.1=r
  ·rw [if_pos h,if_pos (by rw [h1,h])]
   exact ⟨h1,hq⟩
  ·rw [if_neg h,if_neg (by rw [h1];exact fun t=>h (Sum.inr.inj t))]
   exact ⟨h1,h2⟩
theorem RP.put {F:LRow→V→Prop} {rvs:List (Key×V)} {L:List (Str×LRow)} (h:RP F rvs L) {r:Str} {v:V} {q:LRow} (hq:F q v):RP F (putK rvs (Sum.inr r) v) (putA L r q):=by
 unfold putK putA
 rw [h.any r]
 split
 ·exact h.repl hq
 ·exact h.snoc hq
def LF (H:Hp) (n:Nat) (q:LRow) (v:V):Prop:=Held H (lrowD q) v∧Rising q.2.1∧q.2.1.length≤40∧q.2.2.length≤n
theorem LF.tk {H H':Hp} {n:Nat} {q:LRow} {v:V} (t:TK H H') (h:LF H n q v):LF H' n q v:=⟨t.held h.1,h.2⟩
theorem LF.up {H:Hp} {n m:Nat} {q:LRow} {v:V} (hm:n≤m) (h:LF H n q v):LF H m q v:=⟨h.1,h.2.1,h.2.2.1,Nat.le_trans h.2.2.2 hm⟩
def spWorth:Sp:=fun vs H Q _=>∃ (v:V) (t:Tm) (m n:Addr) (k:Nat) (N:List (Str×Int)) (lvs:List (Key×V)) (L:List (Str×LRow)),vs=[v,.ref m,.ref n]∧Held H t.toD v∧H m=some (.dK (nKV N))∧H n=some (.dK lvs)∧RP (LF H k) lvs L∧∀ H',Same H H'→Q (.int (t.val N L)) H'
def spPut:Sp:=fun vs H Q _=>∃ (n:Addr) (r:Str) (p x:Int) (k:Nat) (lvs:List (Key×V)) (L:List (Str×LRow)),vs=[.ref n,.str r,.int p,.int x]∧H n=some (.dK lvs)∧RP (LF H k) lvs L∧L.length≤500∧k≤100∧
 ∀ lvs' H',Keep n H H'→H' n=some (.dK lvs')→RP (LF H' (k+1)) lvs' (putA L r ((lrow L r).1,(lrow L r).2.1,(lrow L r).2.2++[(p,x)]))→Q .non H'
section
variable {P:Program} {w:World} {K:PySem.W.Frag} {mg:Str→Option Value} {base:Heap}
theorem ok_number {f:Addr} {fd:FuncData} (F:Fun K "_law_number" "_law_number" sNumber f fd):FnOk P w K mg base CX0 1 f fd ["_law_x","_law_numbers"] spNumber_at:=by
 have sc:FnScope ["_law_x","_law_numbers"] ["_law_x","_law_numbers"] (defScope sNumber):=⟨rfl,rfl,rfl,by decide +kernel,rfl,by decide +kernel,by decide +kernel⟩
 refine F.ok sc (fun vs H Q E h=>?_) (fun cdv A outer s H vs Q E hr h=>?_)
 ·obtain ⟨x,m,N,rfl,_⟩:=h
  rfl
 obtain ⟨x,m,N,rfl,hm,q⟩:=h
 have hu:=hu_of hr
 refine ⟨_,(pss_cons (ps_if (pt_cmpR op_eq (pv 0) pe_str (nomark _)) (pss_one (ps_ret pe_int)) pss_nil)
   (pss_one (ps_ret (pe_dget2 hu (pv 1) (pv 0) pe_int ⟨rfl,rfl,rfl,rfl⟩)))),?_⟩
 unfold numA at q
 refine ⟨_,rfl,rfl,_,rfl,ite2 (fun c=>?_) (fun c=>?_)⟩
 ·have c':x = "":=by
   have:=of_decide_eq_true c
   injection this
  rw [if_pos c'] at q
  exact q
 ·rw [if_neg (fun e=>c (decide_eq_true (congrArg V.str e)))] at q
  refine ⟨_,rfl,m,rfl,.inl ⟨_,.inl hm⟩,_,rfl,_,DGet.k (k:=Sum.inr x) hm,?_⟩
  rw [nkv_val]
  cases e:lkA N x with
  | none=>rw [e] at q;exact q
  | some z=>rw [e] at q;exact q
theorem ok_worth {f:Addr} {fd:FuncData} (F:Fun K "_law_worth" "_law_worth" sWorth f fd) (F_number:Fn P w K mg base 1 "_law_number" ["_law_x","_law_numbers"] spNumber_at) (F_holds:Fn P w K mg base 1 "_law_holds" ["_law_row","_law_place_here"] (spHoldsL K)):FnOk P w K mg base CX0 2 f fd ["_law_term_here","_law_numbers","_law_rows"] spWorth:=by
 have sc:FnScope ["_law_term_here","_law_numbers","_law_rows","_law_place_here"] ["_law_term_here","_law_numbers","_law_rows"] (defScope sWorth):=⟨rfl,rfl,rfl,by decide +kernel,rfl,by decide +kernel,by decide +kernel⟩
 refine F.ok sc (fun vs H Q E h=>?_) (fun cdv A outer s H vs Q E hr h=>?_)
 ·obtain ⟨v,t,m,n,k,N,lvs,L,rfl,_⟩:=h
  rfl
 obtain ⟨v,t,m,n,k,N,lvs,L,rfl,hv,hm,hn,hV,q⟩:=h
 have hu:=hu_of hr
 refine ⟨_,(pss_cons (ps_if (pt_cmpR op_eq (pe_ix ix_tup (pv 0) pe_int (fun _ _=>rfl)) pe_str (nomark _)) (pss_one (ps_ret (pe_fn F_number hr (pa_c (pe_ix ix_tup (pv 0) pe_int (fun _ _=>rfl)) (pa_c (pv 1) pa_nil))))) pss_nil)
   (pss_cons (ps_set (i:=3) sc.nd rfl (by first | exact Or.inl rfl | exact Or.inr rfl) (pe_op op_add (pe_fn F_number hr (pa_c (pe_ix ix_tup (pe_ix ix_tup (pv 0) pe_int (fun _ _=>rfl)) pe_int (fun _ _=>rfl)) (pa_c (pv 1) pa_nil))) (pe_ix ix_tup (pe_ix ix_tup (pv 0) pe_int (fun _ _=>rfl)) pe_int (fun _ _=>rfl))))
   (pss_one (ps_ret (pe_fn F_holds hr (pa_c (pe_dget2 hu (pv 2) (pe_ix ix_tup (pv 0) pe_int (fun _ _=>rfl)) (pe_tup (pa_c pe_int (pa_c (pe_tup pa_nil) (pa_c (pe_tup pa_nil) pa_nil)))) ⟨rfl,rfl,rfl,rfl⟩) (pa_c (pv 3) pa_nil))))))),?_⟩
 cases t with
 | is x=>
  obtain ⟨a,rfl,ha⟩:=is_inv hv
  refine ⟨_,rfl,a,_,_,_,rfl,rfl,SqT.of ha,rfl,rfl,_,rfl,?_⟩
  rw [decide_eq_true rfl]
  refine iteT ?_
  exact ⟨_,rfl,a,_,_,_,rfl,rfl,SqT.of ha,rfl,_,rfl,x,m,N,rfl,hm,q H (Same.refl _)⟩
 | at_ r x d=>
  obtain ⟨a,b,rfl,ha,hb⟩:=at_inv hv
  refine ⟨_,rfl,a,_,_,_,rfl,rfl,SqT.of ha,rfl,rfl,_,rfl,?_⟩
  rw [decide_eq_false (by decide)]
  refine iteF ?_
  refine ⟨_,rfl,a,_,_,_,rfl,rfl,SqT.of ha,rfl,b,_,_,_,rfl,rfl,SqT.of hb,rfl,_,rfl,x,m,N,rfl,hm,?_⟩
  refine ⟨_,rfl,a,_,_,_,rfl,rfl,SqT.of ha,rfl,b,_,_,_,rfl,rfl,SqT.of hb,rfl,_,_,rfl,rfl,?_⟩
  refine ⟨_,rfl,n,rfl,.inl ⟨_,.inl hn⟩,_,rfl,a,_,_,_,rfl,rfl,SqT.of ha,rfl,?_⟩
  refine ⟨sm rfl,fun z1 hz1=>?_⟩
  have s1:=same_new hz1 (.tup [])
  have e1:upd H z1 (.tup []) z1=some (.tup []):=upd_same
  generalize upd H z1 (.tup [])=H1 at *
  refine ⟨sm rfl,fun z2 hz2=>?_⟩
  have s2:=same_new hz2 (.tup [])
  have e2:upd H1 z2 (.tup []) z2=some (.tup []):=upd_same
  generalize upd H1 z2 (.tup [])=H2 at *
  refine ⟨sm rfl,fun z3 hz3=>?_⟩
  have s3:=same_new hz3 (.tup [V.int 0,V.ref z1,V.ref z2])
  have e3:upd H2 z3 (.tup [V.int 0,V.ref z1,V.ref z2]) z3=some (.tup [V.int 0,V.ref z1,V.ref z2]):=upd_same
  generalize upd H2 z3 (.tup [V.int 0,V.ref z1,V.ref z2])=H3 at *
  have s13:=s1.trans (s2.trans s3)
  have hbare:Held H3 (lrowD (0,[],[])) (.ref z3):=held_tup e3 (heldL_cons held_int (heldL_cons (held_tup ((s2.trans s3) _ _ e1) heldL_nil) (heldL_cons (held_tup (s3 _ _ e2) heldL_nil) heldL_nil)))
  refine ⟨_,DGet.k (k:=Sum.inr r) (s13 _ _ hn),?_⟩
  have hrow:Held H3 (lrowD (lrow L r)) ((valV lvs (Sum.inr r)).getD (.ref z3)):=by
   unfold lrow
   rcases hV.val r with ⟨f1,f2⟩ | ⟨u,lq,f1,f2,f3⟩
   ·rw [f1,f2];exact hbare
   ·rw [f1,f2];exact f3.1.mono s13
  exact ⟨_,rfl,_,_,lrow L r,rfl,hrow,q H3 s13⟩
theorem ok_put {f:Addr} {fd:FuncData} (F:Fun K "_law_put" "_law_put" sPut f fd):FnOk P w K mg base CX0 1 f fd ["_law_rows","_law_r","_law_place_here","_law_value"] spPut:=by
 have sc:FnScope ["_law_rows","_law_r","_law_place_here","_law_value","_law_base","_law_steps","_law_writes"] ["_law_rows","_law_r","_law_place_here","_law_value"] (defScope sPut):=⟨rfl,rfl,rfl,by decide +kernel,rfl,by decide +kernel,by decide +kernel⟩
 refine F.ok sc (fun vs H Q E h=>?_) (fun cdv A outer s H vs Q E hr h=>?_)
 ·obtain ⟨n,r,p,x,k,lvs,L,rfl,_⟩:=h
  rfl
 obtain ⟨n,r,p,x,k,lvs,L,rfl,hn,hV,hL,hk,q⟩:=h
 have hu:=hu_of hr
 refine ⟨_,(pss_cons (ps_asg (pe_dget2 hu (pv 0) (pv 1) (pe_tup (pa_c pe_int (pa_c (pe_tup pa_nil) (pa_c (pe_tup pa_nil) pa_nil)))) ⟨rfl,rfl,rfl,rfl⟩) (pg_tup rfl (pgs_cons (pg_name (i:=4) sc.nd rfl (by first | exact Or.inl rfl | exact Or.inr rfl)) (pgs_cons (pg_name (i:=5) sc.nd rfl (by first | exact Or.inl rfl | exact Or.inr rfl)) (pgs_cons (pg_name (i:=6) sc.nd rfl (by first | exact Or.inl rfl | exact Or.inr rfl)) pgs_nil)))))
   (pss_one (ps_dput hu (pv 0) (pv 1) (pe_tup (pa_c (pv 4) (pa_c (pv 5) (pa_c (pe_op op_catTC (pv 6) (pe_tup (pa_c (pe_tup (pa_c (pv 2) (pa_c (pv 3) pa_nil))) pa_nil))) pa_nil)))) rfl))),?_⟩
 refine ⟨_,rfl,n,rfl,.inl ⟨_,.inl hn⟩,_,rfl,?_⟩
 refine ⟨sm rfl,fun z1 hz1=>?_⟩
 have s1:=same_new hz1 (.tup [])
 have e1:upd H z1 (.tup []) z1=some (.tup []):=upd_same
 generalize upd H z1 (.tup [])=H1 at *
 refine ⟨sm rfl,fun z2 hz2=>?_⟩
 have s2:=same_new hz2 (.tup [])
 have e2:upd H1 z2 (.tup []) z2=some (.tup []):=upd_same
 generalize upd H1 z2 (.tup [])=H2 at *
 refine ⟨sm rfl,fun z3 hz3=>?_⟩
 have s3:=same_new hz3 (.tup [V.int 0,V.ref z1,V.ref z2])
 have e3:upd H2 z3 (.tup [V.int 0,V.ref z1,V.ref z2]) z3=some (.tup [V.int 0,V.ref z1,V.ref z2]):=upd_same
 generalize upd H2 z3 (.tup [V.int 0,V.ref z1,V.ref z2])=H3 at *
 have s13:=s1.trans (s2.trans s3)
 have hbare:Held H3 (lrowD (0,[],[])) (.ref z3):=held_tup e3 (heldL_cons held_int (heldL_cons (held_tup ((s2.trans s3) _ _ e1) heldL_nil) (heldL_cons (held_tup (s3 _ _ e2) heldL_nil) heldL_nil)))
 refine ⟨_,DGet.k (k:=Sum.inr r) (s13 _ _ hn),?_⟩
 have hrow:LF H3 k (lrow L r) ((valV lvs (Sum.inr r)).getD (.ref z3)):=by
  unfold lrow
  rcases hV.val r with ⟨f1,f2⟩ | ⟨u,lq,f1,f2,f3⟩
  ·rw [f1,f2];exact ⟨hbare,List.Pairwise.nil,Nat.zero_le _,Nat.zero_le _⟩
  ·rw [f1,f2];exact f3.tk (TK.same s13)
 generalize (valV lvs (Sum.inr r)).getD (.ref z3)=rv at *
 generalize lrow L r=lq at *
 obtain ⟨b,ps,ws⟩:=lq
 obtain ⟨h1,h2,h3,h4⟩:=hrow
 dsimp only at h2 h3 h4 q
 obtain ⟨a,c,e,qs,us,rfl,ha,hc,hqs,he,hus⟩:=lrow_inv h1
 dsimp only at ha hqs hus
 have hul:=hus.length
 rw [List.length_map] at hul
 refine ⟨a,_,rfl,SqT.of ha,rfl,_,_,rfl,_,_,rfl,_,_,rfl,rfl,?_⟩
 refine ⟨_,rfl,_,rfl,_,rfl,_,rfl,_,rfl,sm rfl,fun t4 ht4=>?_⟩
 have s4:=same_new ht4 (.tup [V.int p,V.int x])
 have e4:upd H3 t4 (.tup [V.int p,V.int x]) t4=some (.tup [V.int p,V.int x]):=upd_same
 generalize upd H3 t4 (.tup [V.int p,V.int x])=H4 at *
 refine ⟨sm rfl,fun t5 ht5=>?_⟩
 have s5:=same_new ht5 (.tup [V.ref t4])
 have e5:upd H4 t5 (.tup [V.ref t4]) t5=some (.tup [V.ref t4]):=upd_same
 generalize upd H4 t5 (.tup [V.ref t4])=H5 at *
 have s45:=s4.trans s5
 refine ⟨e,t5,_,_,rfl,rfl,s45 _ _ he,e5,small (by simp only [List.length_cons,List.length_nil];omega),fun t6 H6 s6 e6=>?_⟩
 refine ⟨sm rfl,fun t7 ht7=>?_⟩
 have s7:=same_new ht7 (.tup [V.int b,V.ref c,V.ref t6])
 have e7:upd H6 t7 (.tup [V.int b,V.ref c,V.ref t6]) t7=some (.tup [V.int b,V.ref c,V.ref t6]):=upd_same
 generalize upd H6 t7 (.tup [V.int b,V.ref c,V.ref t6])=H7 at *
 have s47:=s45.trans (s6.trans s7)
 have s17:=s13.trans s47
 have hn7:=s17 _ _ hn
 refine ⟨_,rfl,_,rfl,n,_,rfl,DPut.k (k:=Sum.inr r) hn7 (small1000 (by rw [hV.len];omega)),?_⟩
 have hnew:Held H7 (lrowD (b,ps,ws++[(p,x)])) (.ref t7):=by
  refine held_tup e7 (heldL_cons held_int (heldL_cons (held_tup (s47 _ _ hc) (hqs.mono s47)) (heldL_cons (held_tup (s7 _ _ e6) ?_) heldL_nil)))
  show HeldL H7 ((ws++[(p,x)]).map pD) _
  rw [List.map_append]
  exact heldL_snoc (hus.mono s47) (held_tup ((s5.trans (s6.trans s7)) _ _ e4) (heldL_cons held_int (heldL_cons held_int heldL_nil)))
 have tk:TK H7 (upd H7 n (.dK (putK lvs (Sum.inr r) (.ref t7)))):=TK.upd hn7 (by intro xs z;cases z)
 refine q _ _ (fun z o hz e=>by rw [upd_ne hz];exact s17 _ _ e) upd_same ?_
 refine RP.put (RP.imp (fun lq v h=>((h.tk (TK.same s17)).tk tk).up (Nat.le_succ _)) hV) ⟨tk.held hnew,h2,h3,?_⟩
 show (ws++[(p,x)]).length≤k+1
 rw [List.length_append]
 show ws.length+1≤k+1
 omega
end
open PySem L2
abbrev sStart:Stmt:=top 35
abbrev sDrawn:Stmt:=top 36
abbrev sPick:Stmt:=top 37
def pickV (H:Hp) (P:List Pk) (j:Nat) (pv:V):Rw→Prop
 | .any _=>pv=.int (pkNum P j)
 | .lose _=>LF H 0 (pkRow P j) pv
 | _=>True
def spGone:Sp:=fun vs H Q _=>∃ (v:V) (rw:Rw) (m n:Addr) (pv:V) (k:Nat) (N:List (Str×Int)) (lvs:List (Key×V)) (L:List (Str×LRow)) (P:List Pk) (j:Nat),vs=[v,.ref m,.ref n,pv]∧Held H rw.toD v∧H m=some (.dK (nKV N))∧H n=some (.dK lvs)∧m≠n∧RP (LF H k) lvs L∧N.length≤500∧L.length≤500∧k≤99∧pickV H P j pv rw∧
 ∀ lvs' H',(∀ b o,b≠m→b≠n→H b=some o→H' b=some o)→H' m=some (.dK (nKV (stepL P (j,N,L) rw).2.1))→H' n=some (.dK lvs')→RP (LF H' (k+1)) lvs' (stepL P (j,N,L) rw).2.2→Q .non H'
def WsAt (H:Hp) (l:Addr) (ws:List Str) (n:Int):Prop:=H l=some (.lst (ws.map V.str))∧ws.length=6∧-(10 ^ 18) < n∧n < 10 ^ 18
def spDrawn:Sp:=fun vs H Q _=>∃ (s n:Int) (l:Addr) (ws:List Str),vs=[.int s,.ref l,.int n]∧WsAt H l ws n∧∀ (u:V) (rw:Rw) (H':Hp),Same H H'→Held H' rw.toD u→Q u H'
def isAny:Rw→Bool
 | .any _=>true
 | _=>false
def spPick:Sp:=fun vs H Q _=>∃ (s n:Int) (v:V) (rw:Rw),vs=[.int s,v,.int n]∧Held H rw.toD v∧(isAny rw=true→∀ c H',Same H H'→Q (.int c) H')∧(isAny rw=false→∀ u q H',Same H H'→LF H' 0 q u→Q u H')
def NdA {α:Type} (L:List (Str×α)):Prop:=(L.map (·.1)).Nodup
theorem putA_nd {α:Type} {L:List (Str×α)} (k:Str) (v:α) (h:NdA L):NdA (putA L k v):=by
 unfold NdA putA at *
 split
 ·rename_i c
  rw [List.map_map]
  have e:((fun q:Str×α=>q.1) ∘ fun q=>if q.1=k then (q.1,v) else q)=fun q=>q.1:=by
   funext q
   show (if q.1=k then (q.1,v) else q).1=q.1
   split <;> rfl
  rw [e]
  exact h
 ·rename_i c
  rw [List.map_append,List.nodup_append]
  refine ⟨h,by simp,fun a ha b hb=>?_⟩
  have eb:b=k:=by simpa using hb
  subst eb
  intro e
  subst e
  obtain ⟨q,hq,rfl⟩:=List.mem_map.mp ha
  exact c (List.any_eq_true.mpr ⟨q,hq,decide_eq_true rfl⟩)
def spStart (K:PySem.W.Frag):Sp:=fun vs H Q _=>∃ (sa l:Addr) (ns:List Int) (ws:List Str) (n:Int),vs=[.ref sa,.ref l,.int n]∧SqL K H sa (ns.map V.int)∧WsAt H l ws n∧
 ∀ (t m r:Addr) (N:List (Str×Int)) (lvs:List (Key×V)) (L:List (Str×LRow)) (H':Hp),Same H H'→H' t=some (.tup [.ref m,.ref r])→H m=none→H r=none→m≠r→H' m=some (.dK (nKV N))→H' r=some (.dK lvs)→RP (LF H' 0) lvs L→N.length≤3→L.length≤3→NdA N→NdA L→Q (.ref t) H'
section
variable {P:Program} {w:World} {K:PySem.W.Frag} {mg:Str→Option Value} {base:Heap}
theorem ok_gone {f:Addr} {fd:FuncData} (F:Fun K "_law_gone" "_law_gone" sGone f fd) (F_number:Fn P w K mg base 1 "_law_number" ["_law_x","_law_numbers"] spNumber_at) (F_worth:Fn P w K mg base 2 "_law_worth" ["_law_term_here","_law_numbers","_law_rows"] spWorth) (F_put:Fn P w K mg base 1 "_law_put" ["_law_rows","_law_r","_law_place_here","_law_value"] spPut):FnOk P w K mg base CX0 3 f fd ["_law_row","_law_numbers","_law_rows","_law_pick_here"] spGone:=by
 have sc:FnScope ["_law_row","_law_numbers","_law_rows","_law_pick_here","_law_place_here"] ["_law_row","_law_numbers","_law_rows","_law_pick_here"] (defScope sGone):=⟨rfl,rfl,rfl,by decide +kernel,rfl,by decide +kernel,by decide +kernel⟩
 refine F.ok sc (fun vs H Q E h=>?_) (fun cdv A outer s H vs Q E hr h=>?_)
 ·obtain ⟨v,rw,m,n,pkv,k,N,lvs,L,Pc,j,rfl,_⟩:=h
  rfl
 obtain ⟨v,rw,m,n,pkv,k,N,lvs,L,Pc,j,rfl,hv,hm,hn,hmn,hV,hN,hL,hk,hpv,q⟩:=h
 have hu:=hu_of hr
 refine ⟨_,(pss_one (ps_if (pt_cmpR op_eq (pe_ix ix_tup (pv 0) pe_int (fun _ _=>rfl)) pe_str (nomark _)) (pss_one (ps_dput hu (pv 1) (pe_ix ix_tup (pv 0) pe_int (fun _ _=>rfl)) (pe_op op_add (pe_fn F_worth hr (pa_c (pe_ix ix_tup (pv 0) pe_int (fun _ _=>rfl)) (pa_c (pv 1) (pa_c (pv 2) pa_nil)))) (pe_ix ix_tup (pv 0) pe_int (fun _ _=>rfl))) rfl)) (pss_one (ps_if (pt_cmpR op_eq (pe_ix ix_tup (pv 0) pe_int (fun _ _=>rfl)) pe_str (nomark _)) (pss_cons (ps_set (i:=4) sc.nd rfl (by first | exact Or.inl rfl | exact Or.inr rfl) (pe_op op_add (pe_fn F_number hr (pa_c (pe_ix ix_tup (pe_ix ix_tup (pv 0) pe_int (fun _ _=>rfl)) pe_int (fun _ _=>rfl)) (pa_c (pv 1) pa_nil))) (pe_ix ix_tup (pe_ix ix_tup (pv 0) pe_int (fun _ _=>rfl)) pe_int (fun _ _=>rfl))))
   (pss_one (ps_expr (pe_fn F_put hr (pa_c (pv 2) (pa_c (pe_ix ix_tup (pv 0) pe_int (fun _ _=>rfl)) (pa_c (pv 4) (pa_c (pe_op op_add (pe_fn F_worth hr (pa_c (pe_ix ix_tup (pv 0) pe_int (fun _ _=>rfl)) (pa_c (pv 1) (pa_c (pv 2) pa_nil)))) (pe_ix ix_tup (pv 0) pe_int (fun _ _=>rfl))) pa_nil)))))))) (pss_one (ps_if (pt_cmpR op_eq (pe_ix ix_tup (pv 0) pe_int (fun _ _=>rfl)) pe_str (nomark _)) (pss_one (ps_dput hu (pv 1) (pe_ix ix_tup (pv 0) pe_int (fun _ _=>rfl)) (pv 3) rfl)) (pss_one (ps_if (pt_cmpR op_eq (pe_ix ix_tup (pv 0) pe_int (fun _ _=>rfl)) pe_str (nomark _)) (pss_one (ps_dput hu (pv 2) (pe_ix ix_tup (pv 0) pe_int (fun _ _=>rfl)) (pv 3) rfl)) pss_nil)))))))),?_⟩
 cases rw with
 | set x tm c=>
  obtain ⟨a,u,rfl,ha,hu'⟩:=set_inv hv
  refine ⟨_,rfl,a,_,_,_,rfl,rfl,SqT.of ha,rfl,rfl,_,rfl,?_⟩
  rw [decide_eq_true rfl]
  refine iteT ?_
  refine ⟨_,rfl,a,_,_,_,rfl,rfl,SqT.of ha,rfl,_,rfl,_,rfl,u,tm,m,n,k,N,lvs,L,rfl,hu',hm,hn,hV,fun H1 s1=>?_⟩
  refine ⟨_,rfl,a,_,_,_,rfl,rfl,SqT.of (s1 _ _ ha),rfl,_,_,rfl,rfl,_,rfl,_,rfl,a,_,_,_,rfl,rfl,SqT.of (s1 _ _ ha),rfl,m,_,rfl,DPut.k (k:=Sum.inr x) (s1 _ _ hm) (small1000 (by unfold nKV;rw [List.length_map];omega)),?_⟩
  dsimp only
  rw [nkv_put]
  have tk:TK H1 (upd H1 m (.dK (nKV (putA N x (tm.val N L+c))))):=TK.upd (s1 _ _ hm) (by intro xs z;cases z)
  exact q lvs _ (fun b o h1 h2 e=>by rw [upd_ne h1];exact s1 _ _ e) upd_same (by rw [upd_ne hmn.symm];exact s1 _ _ hn) (RP.imp (fun lq v h=>((h.tk (TK.same s1)).tk tk).up (Nat.le_succ _)) hV)
 | put r x d tm c=>
  obtain ⟨a,b,u,rfl,ha,hb,hu'⟩:=put_inv hv
  refine ⟨_,rfl,a,_,_,_,rfl,rfl,SqT.of ha,rfl,rfl,_,rfl,?_⟩
  rw [decide_eq_false (by decide)]
  refine iteF ?_
  refine ⟨_,rfl,a,_,_,_,rfl,rfl,SqT.of ha,rfl,rfl,_,rfl,?_⟩
  rw [decide_eq_true rfl]
  refine iteT ?_
  refine ⟨_,rfl,a,_,_,_,rfl,rfl,SqT.of ha,rfl,b,_,_,_,rfl,rfl,SqT.of hb,rfl,_,rfl,x,m,N,rfl,hm,?_⟩
  refine ⟨_,rfl,a,_,_,_,rfl,rfl,SqT.of ha,rfl,b,_,_,_,rfl,rfl,SqT.of hb,rfl,_,_,rfl,rfl,?_⟩
  refine ⟨_,rfl,_,rfl,a,_,_,_,rfl,rfl,SqT.of ha,rfl,_,rfl,_,rfl,a,_,_,_,rfl,rfl,SqT.of ha,rfl,_,rfl,_,rfl,u,tm,m,n,k,N,lvs,L,rfl,hu',hm,hn,hV,fun H1 s1=>?_⟩
  refine ⟨_,rfl,a,_,_,_,rfl,rfl,SqT.of (s1 _ _ ha),rfl,_,_,rfl,rfl,?_⟩
  refine ⟨n,r,_,_,k,lvs,L,rfl,s1 _ _ hn,RP.imp (fun lq v h=>h.tk (TK.same s1)) hV,hL,by omega,fun lvs' H2 k2 hn2 hV2=>?_⟩
  exact q lvs' H2 (fun b o h1 h2 e=>k2 _ _ h2 (s1 _ _ e)) (k2 _ _ hmn (s1 _ _ hm)) hn2 hV2
 | any x=>
  obtain ⟨a,rfl,ha⟩:=is_inv hv
  have hpv':pkv=.int (pkNum Pc j):=hpv
  subst hpv'
  refine ⟨_,rfl,a,_,_,_,rfl,rfl,SqT.of ha,rfl,rfl,_,rfl,?_⟩
  rw [decide_eq_false (by decide)]
  refine iteF ?_
  refine ⟨_,rfl,a,_,_,_,rfl,rfl,SqT.of ha,rfl,rfl,_,rfl,?_⟩
  rw [decide_eq_false (by decide)]
  refine iteF ?_
  refine ⟨_,rfl,a,_,_,_,rfl,rfl,SqT.of ha,rfl,rfl,_,rfl,?_⟩
  rw [decide_eq_true rfl]
  refine iteT ?_
  refine ⟨_,rfl,_,rfl,_,rfl,a,_,_,_,rfl,rfl,SqT.of ha,rfl,m,_,rfl,DPut.k (k:=Sum.inr x) hm (small1000 (by unfold nKV;rw [List.length_map];omega)),?_⟩
  rw [nkv_put]
  have tk:TK H (upd H m (.dK (nKV (putA N x (pkNum Pc j))))):=TK.upd hm (by intro xs z;cases z)
  exact q lvs _ (fun b o h1 h2 e=>by rw [upd_ne h1];exact e) upd_same (by rw [upd_ne hmn.symm];exact hn) (RP.imp (fun lq v h=>(h.tk tk).up (Nat.le_succ _)) hV)
 | lose r=>
  obtain ⟨a,rfl,ha⟩:=is_inv hv
  have hpv':LF H 0 (pkRow Pc j) pkv:=hpv
  refine ⟨_,rfl,a,_,_,_,rfl,rfl,SqT.of ha,rfl,rfl,_,rfl,?_⟩
  rw [decide_eq_false (by decide)]
  refine iteF ?_
  refine ⟨_,rfl,a,_,_,_,rfl,rfl,SqT.of ha,rfl,rfl,_,rfl,?_⟩
  rw [decide_eq_false (by decide)]
  refine iteF ?_
  refine ⟨_,rfl,a,_,_,_,rfl,rfl,SqT.of ha,rfl,rfl,_,rfl,?_⟩
  rw [decide_eq_false (by decide)]
  refine iteF ?_
  refine ⟨_,rfl,a,_,_,_,rfl,rfl,SqT.of ha,rfl,rfl,_,rfl,?_⟩
  rw [decide_eq_true rfl]
  refine iteT ?_
  refine ⟨_,rfl,_,rfl,_,rfl,a,_,_,_,rfl,rfl,SqT.of ha,rfl,n,_,rfl,DPut.k (k:=Sum.inr r) hn (small1000 (by rw [hV.len];omega)),?_⟩
  have tk:TK H (upd H n (.dK (putK lvs (Sum.inr r) pkv))):=TK.upd hn (by intro xs z;cases z)
  exact q _ _ (fun b o h1 h2 e=>by rw [upd_ne h2];exact e) (by rw [upd_ne hmn];exact hm) upd_same (RP.put (RP.imp (fun lq v h=>(h.tk tk).up (Nat.le_succ _)) hV) ((hpv'.tk tk).up (Nat.zero_le _)))
theorem ok_drawn {f:Addr} {fd:FuncData} (F:Fun K "_law_drawn" "_law_drawn" sDrawn f fd) (B:Free0 mg) (F_mix:Fn P w K mg base 1 "_law_mix" ["_law_seed","_law_k"] spMix) (F_place:Fn P w K mg base 1 "_law_place" ["_law_seed","_law_w","_law_near"] spPlace) (F_term:Fn P w K mg base 2 "_law_term" ["_law_seed","_law_w","_law_near"] spTerm):FnOk P w K mg base CX0 3 f fd ["_law_seed","_law_w","_law_near"] spDrawn:=by
 have sc:FnScope ["_law_seed","_law_w","_law_near","_law_kind","_law_more","_law_term_here"] ["_law_seed","_law_w","_law_near"] (defScope sDrawn):=⟨rfl,rfl,rfl,by decide +kernel,rfl,by decide +kernel,by decide +kernel⟩
 refine F.ok sc (fun vs H Q E h=>?_) (fun cdv A outer s H vs Q E hr h=>?_)
 ·obtain ⟨s,n,l,ws,rfl,_⟩:=h
  rfl
 obtain ⟨s,n,l,ws,rfl,⟨hl,hw8,hn0,hn1⟩,q⟩:=h
 refine ⟨_,(pss_cons (ps_set (i:=3) sc.nd rfl (by first | exact Or.inl rfl | exact Or.inr rfl) (pe_op op_mod (pv 0) pe_int))
   (pss_cons (ps_set (i:=4) sc.nd rfl (by first | exact Or.inl rfl | exact Or.inr rfl) (pe_ix ix_list (pe_lst (pa_c (pe_op op_sub (pe_op op_mod (pe_op op_fdivB (pv 0) pe_int) pe_int) pe_int) (pa_c (pe_op op_sub (pe_op op_mod (pe_op op_mul (pv 0) pe_int) (pe_op op_mul pe_int (pe_op op_pow pe_int pe_int))) (pe_op op_pow pe_int pe_int)) pa_nil))) (pe_cT call_int1 (by rfl) B.int_ bt_int (pa_c (pe_cmpR op_eq (pe_op op_mod (pe_op op_fdivB (pv 0) pe_int) pe_int) pe_int (nomark _)) pa_nil)) (fun _ _=>rfl)))
   (pss_cons (ps_set (i:=5) sc.nd rfl (by first | exact Or.inl rfl | exact Or.inr rfl) (pe_fn F_term hr (pa_c (pe_fn F_mix hr (pa_c (pv 0) (pa_c pe_int pa_nil))) (pa_c (pv 1) (pa_c (pv 2) pa_nil)))))
   (pss_cons (ps_if (pt_cmpR op_lt (pv 3) pe_int (nomark _)) (pss_one (ps_ret (pe_tup (pa_c pe_str (pa_c (pe_ix ix_list (pv 1) (pe_op op_mod (pe_op op_fdivB (pv 0) pe_int) pe_int) (fun _ _=>rfl)) (pa_c (pv 5) (pa_c (pv 4) pa_nil))))))) pss_nil)
   (pss_cons (ps_if (pt_cmpR op_lt (pv 3) pe_int (nomark _)) (pss_one (ps_ret (pe_tup (pa_c pe_str (pa_c (pe_ix ix_list (pv 1) (pe_op op_add pe_int (pe_op op_mod (pe_op op_fdivB (pv 0) pe_int) pe_int)) (fun _ _=>rfl)) (pa_c (pe_fn F_place hr (pa_c (pe_fn F_mix hr (pa_c (pv 0) (pa_c pe_int pa_nil))) (pa_c (pv 1) (pa_c (pv 2) pa_nil)))) (pa_c (pv 5) (pa_c (pv 4) pa_nil)))))))) pss_nil)
   (pss_cons (ps_if (pt_cmpR op_eq (pv 3) pe_int (nomark _)) (pss_one (ps_ret (pe_tup (pa_c pe_str (pa_c (pe_ix ix_list (pv 1) (pe_op op_mod (pe_op op_fdivB (pv 0) pe_int) pe_int) (fun _ _=>rfl)) pa_nil))))) pss_nil)
   (pss_one (ps_ret (pe_tup (pa_c pe_str (pa_c (pe_ix ix_list (pv 1) (pe_op op_add pe_int (pe_op op_mod (pe_op op_fdivB (pv 0) pe_int) pe_int)) (fun _ _=>rfl)) pa_nil))))))))))),?_⟩
 have m0:=Int.emod_nonneg (s / 6) (b:=3) (by decide)
 have m1:=Int.emod_lt_of_pos (s / 6) (b:=3) (by decide)
 have hx:=at_strs (xs:=ws) (i:=s / 6 % 3) m0 (by rw [hw8];omega)
 have hy:=at_strs (xs:=ws) (i:=3+s / 6 % 3) (by omega) (by rw [hw8];omega)
 generalize ws.getD (s / 6 % 3).toNat "" = x at *
 generalize ws.getD (3+s / 6 % 3).toNat "" = y at *
 refine ⟨_,rfl,_,_,rfl,rfl,(by show (0:Int) < _;decide),?_⟩
 refine ⟨_,rfl,_,_,rfl,rfl,⟨by decide,by decide⟩,_,_,rfl,rfl,(by show (0:Int) < _;decide),_,_,rfl,rfl,_,rfl,_,_,rfl,rfl,.inr ⟨by decide,by decide⟩,_,_,rfl,rfl,⟨by decide,by decide,by decide⟩,_,_,rfl,rfl,.inl ⟨by decide,by decide⟩,_,_,rfl,rfl,(by show (0:Int) < _;decide),_,_,rfl,rfl,⟨by decide,by decide,by decide⟩,_,_,rfl,rfl,sm rfl,fun l1 hl1=>?_⟩
 dsimp only
 generalize s / 6 % 7 - 3=c1 at *
 generalize s * 7919 % (2 * 10 ^ Int.toNat 15) - 10 ^ Int.toNat 15=c2 at *
 have s1:=same_new hl1 (.lst [V.int c1,V.int c2])
 have e1:upd H l1 (.lst [V.int c1,V.int c2]) l1=some (.lst [V.int c1,V.int c2]):=upd_same
 generalize upd H l1 (.lst [V.int c1,V.int c2])=H1 at *
 refine ⟨_,rfl,_,_,rfl,rfl,⟨by decide,by decide⟩,_,_,rfl,rfl,(by show (0:Int) < _;decide),rfl,.inr ⟨_,rfl,?_⟩⟩
 obtain ⟨mo,hmo⟩:=two_ints c1 c2 (i:=if decide (V.int (s / 42 % 3)=V.int 1)=true then 1 else 0) (by split <;> decide) (by split <;> decide)
 refine ⟨l1,_,_,_,rfl,rfl,SqL.of e1,hmo,?_⟩
 clear hmo e1
 refine ⟨_,rfl,s,1,rfl,fun s2=>?_⟩
 refine ⟨_,rfl,_,rfl,s2,n,l,ws,rfl,s1 _ _ hl,hw8,hn0,hn1,fun u tm H2 t2 hu=>?_⟩
 have s02:=s1.trans t2
 refine ⟨_,rfl,_,_,rfl,rfl,_,rfl,ite2 (fun c=>?_) (fun c=>?_)⟩
 ·refine ⟨_,rfl,_,rfl,_,_,rfl,rfl,⟨by decide,by decide⟩,_,_,rfl,rfl,(by show (0:Int) < _;decide),l,_,_,_,rfl,rfl,SqL.of (s02 _ _ hl),hx,_,rfl,_,rfl,sm rfl,fun t ht=>?_⟩
  have s3:=same_new ht (.tup [V.str "set",V.str x,u,V.int mo])
  exact q _ (.set x tm mo) _ (s02.trans s3) (held_tup upd_same (heldL_cons held_str (heldL_cons held_str (heldL_cons (hu.mono s3) (heldL_cons held_int heldL_nil)))))
 refine ⟨_,rfl,_,_,rfl,rfl,_,rfl,ite2 (fun c=>?_) (fun c=>?_)⟩
 ·refine ⟨_,rfl,_,rfl,_,_,rfl,rfl,⟨by decide,by decide⟩,_,_,rfl,rfl,(by show (0:Int) < _;decide),_,_,rfl,rfl,l,_,_,_,rfl,rfl,SqL.of (s02 _ _ hl),hy,?_⟩
  refine ⟨_,rfl,s,2,rfl,fun s3=>?_⟩
  refine ⟨_,rfl,_,rfl,s3,n,l,ws,rfl,s02 _ _ hl,hw8,hn0,hn1,fun a z d H3 t3 ha=>?_⟩
  refine ⟨_,rfl,_,rfl,sm rfl,fun t ht=>?_⟩
  have s4:=same_new ht (.tup [V.str "put",V.str y,V.ref a,u,V.int mo])
  exact q _ (.put y z d tm mo) _ (s02.trans (t3.trans s4)) (held_tup upd_same (heldL_cons held_str (heldL_cons held_str (heldL_cons (held_tup (s4 _ _ ha) (heldL_cons held_str (heldL_cons held_int heldL_nil))) (heldL_cons (hu.mono (t3.trans s4)) (heldL_cons held_int heldL_nil))))))
 refine ⟨_,rfl,rfl,_,rfl,ite2 (fun c=>?_) (fun c=>?_)⟩
 ·refine ⟨_,rfl,_,rfl,_,_,rfl,rfl,⟨by decide,by decide⟩,_,_,rfl,rfl,(by show (0:Int) < _;decide),l,_,_,_,rfl,rfl,SqL.of (s02 _ _ hl),hx,sm rfl,fun t ht=>?_⟩
  have s3:=same_new ht (.tup [V.str "any",V.str x])
  exact q _ (.any x) _ (s02.trans s3) (held_tup upd_same (heldL_cons held_str (heldL_cons held_str heldL_nil)))
 ·refine ⟨_,rfl,_,rfl,_,_,rfl,rfl,⟨by decide,by decide⟩,_,_,rfl,rfl,(by show (0:Int) < _;decide),_,_,rfl,rfl,l,_,_,_,rfl,rfl,SqL.of (s02 _ _ hl),hy,sm rfl,fun t ht=>?_⟩
  have s3:=same_new ht (.tup [V.str "lose",V.str y])
  exact q _ (.lose y) _ (s02.trans s3) (held_tup upd_same (heldL_cons held_str (heldL_cons held_str heldL_nil)))
end
open PySem L2
section
variable {P:Program} {w:World} {K:PySem.W.Frag} {mg:Str→Option Value} {base:Heap}
theorem ok_pick {f:Addr} {fd:FuncData} (F:Fun K "_law_pick" "_law_pick" sPick f fd) (F_made:Fn P w K mg base 2 "_law_made" ["_law_seed","_law_near"] spMade):FnOk P w K mg base CX0 3 f fd ["_law_seed","_law_row","_law_near"] spPick:=by
 have sc:FnScope ["_law_seed","_law_row","_law_near"] ["_law_seed","_law_row","_law_near"] (defScope sPick):=⟨rfl,rfl,rfl,by decide +kernel,rfl,by decide +kernel,by decide +kernel⟩
 refine F.ok sc (fun vs H Q E h=>?_) (fun cdv A outer s H vs Q E hr h=>?_)
 ·obtain ⟨s,n,v,rw,rfl,_⟩:=h
  rfl
 obtain ⟨s,n,v,rw,rfl,hv,q1,q2⟩:=h
 refine ⟨_,(pss_cons (ps_if (pt_cmpR op_eq (pe_ix ix_tup (pv 1) pe_int (fun _ _=>rfl)) pe_str (nomark _)) (pss_one (ps_ret (pe_ix ix_list (pe_lst (pa_c (pe_op op_sub (pe_op op_add (pv 2) (pe_op op_mod (pv 0) pe_int)) pe_int) (pa_c (pe_op op_sub (pe_op op_mod (pe_op op_mul (pv 0) pe_int) (pe_op op_mul pe_int (pe_op op_pow pe_int pe_int))) (pe_op op_pow pe_int pe_int)) pa_nil))) (pe_op op_mod (pe_op op_fdivB (pv 0) pe_int) pe_int) (fun _ _=>rfl)))) pss_nil)
   (pss_one (ps_ret (pe_fn F_made hr (pa_c (pv 0) (pa_c (pv 2) pa_nil)))))),?_⟩
 have head:∃ a xs k,v=.ref a∧H a=some (.tup (.str k :: xs))∧(isAny rw=true→k = "any")∧(isAny rw=false→¬ k = "any"):=by
  cases rw with
  | set x tm c=>obtain ⟨a,u,rfl,ha,_⟩:=set_inv hv;exact ⟨a,_,_,rfl,ha,fun z=>(by cases z),fun _=>by decide +kernel⟩
  | put r x d tm c=>obtain ⟨a,b,u,rfl,ha,_⟩:=put_inv hv;exact ⟨a,_,_,rfl,ha,fun z=>(by cases z),fun _=>by decide +kernel⟩
  | any x=>obtain ⟨a,rfl,ha⟩:=is_inv hv;exact ⟨a,_,_,rfl,ha,fun _=>rfl,fun z=>(by cases z)⟩
  | lose r=>obtain ⟨a,rfl,ha⟩:=is_inv hv;exact ⟨a,_,_,rfl,ha,fun z=>(by cases z),fun _=>by decide +kernel⟩
 obtain ⟨a,xs,k,rfl,ha,hk1,hk2⟩:=head
 have h0:atI (V.str k :: xs) 0=some (.str k):=atI_nat (xs:=V.str k :: xs) (j:=0) rfl
 refine ⟨_,rfl,a,_,_,_,rfl,rfl,SqT.of ha,h0,rfl,_,rfl,?_⟩
 cases hA:isAny rw with
 | true=>
  rw [hk1 hA,decide_eq_true rfl]
  refine iteT ?_
  refine ⟨_,rfl,_,rfl,_,_,rfl,rfl,(by show (0:Int) < _;decide),_,_,rfl,rfl,_,_,rfl,rfl,_,rfl,_,_,rfl,rfl,.inr ⟨by decide,by decide⟩,_,_,rfl,rfl,⟨by decide,by decide,by decide⟩,_,_,rfl,rfl,.inl ⟨by decide,by decide⟩,_,_,rfl,rfl,(by show (0:Int) < _;decide),_,_,rfl,rfl,⟨by decide,by decide,by decide⟩,_,_,rfl,rfl,sm rfl,fun l1 hl1=>?_⟩
  dsimp only
  generalize n+s % 7 - 3=c1 at *
  generalize s * 982451653 % (2 * 10 ^ Int.toNat 17) - 10 ^ Int.toNat 17=c2 at *
  have s1:=same_new hl1 (.lst [V.int c1,V.int c2])
  have e1:upd H l1 (.lst [V.int c1,V.int c2]) l1=some (.lst [V.int c1,V.int c2]):=upd_same
  generalize upd H l1 (.lst [V.int c1,V.int c2])=H1 at *
  obtain ⟨z,hz⟩:=two_ints c1 c2 (i:=s / 7 % 2) (Int.emod_nonneg _ (by decide)) (Int.emod_lt_of_pos _ (by decide))
  exact ⟨_,rfl,_,_,rfl,rfl,⟨by decide,by decide⟩,_,_,rfl,rfl,(by show (0:Int) < _;decide),l1,_,_,_,rfl,rfl,SqL.of e1,hz,q1 hA z H1 s1⟩
 | false=>
  have hne:=hk2 hA
  rw [decide_eq_false (fun z=>hne (by injection z))]
  refine iteF ?_
  exact ⟨_,rfl,_,rfl,s,n,rfl,fun u b ps H1 s1 hup hl hu=>q2 hA u (b,ps,[]) H1 s1 ⟨hu,hup,hl,Nat.zero_le _⟩⟩
theorem ok_start {f:Addr} {fd:FuncData} (F:Fun K "_law_start" "_law_start" sStart f fd) (B:Free0 mg) (F_cell_at:Fn P w K mg base 1 "_law_cell_at" ["_law_script","_law_k"] (spCell K)) (F_made:Fn P w K mg base 2 "_law_made" ["_law_seed","_law_near"] spMade):FnOk P w K mg base CX0 3 f fd ["_law_script","_law_w","_law_near"] (spStart K):=by
 have sc:FnScope ["_law_script","_law_w","_law_near","_law_numbers","_law_rows","_law_k","_law_cell"] ["_law_script","_law_w","_law_near"] (defScope sStart):=⟨rfl,rfl,rfl,by decide +kernel,rfl,by decide +kernel,by decide +kernel⟩
 refine F.ok sc (fun vs H Q E h=>?_) (fun cdv A outer s H vs Q E hr h=>?_)
 ·obtain ⟨sa,l,ns,ws,n,rfl,_⟩:=h
  rfl
 obtain ⟨sa,l,ns,ws,n,rfl,hS,⟨hl,hw8,hn0,hn1⟩,q⟩:=h
 have hu:=hu_of hr
 refine ⟨_,(pss_cons (ps_set (i:=3) sc.nd rfl (by first | exact Or.inl rfl | exact Or.inr rfl) pe_dnewK)
   (pss_cons (ps_set (i:=4) sc.nd rfl (by first | exact Or.inl rfl | exact Or.inr rfl) pe_dnewK)
   (pss_cons (ps_for PassesOwn.never rfl (pi_range1 (by rfl) B.range_ (pa_c pe_int pa_nil)) (pg_name (i:=5) sc.nd rfl (by first | exact Or.inl rfl | exact Or.inr rfl)) (pss_cons (ps_set (i:=6) sc.nd rfl (by first | exact Or.inl rfl | exact Or.inr rfl) (pe_op op_mod (pe_fn F_cell_at hr (pa_c (pv 0) (pa_c (pe_op op_add pe_int (pv 5)) pa_nil))) pe_int))
   (pss_cons (ps_if (pt_cmpR op_gt (pe_op op_mod (pv 6) pe_int) pe_int (nomark _)) (pss_one (ps_dput hu (pv 3) (pe_ix ix_list (pv 1) (pv 5) (fun _ _=>rfl)) (pe_op op_sub (pe_op op_add (pv 2) (pe_op op_mod (pe_op op_fdivB (pv 6) pe_int) pe_int)) pe_int) rfl)) pss_nil)
   (pss_one (ps_if (pt_cmpR op_gt (pe_op op_mod (pe_op op_fdivB (pv 6) pe_int) pe_int) pe_int (nomark _)) (pss_one (ps_dput hu (pv 4) (pe_ix ix_list (pv 1) (pe_op op_add pe_int (pv 5)) (fun _ _=>rfl)) (pe_fn F_made hr (pa_c (pe_op op_fdivB (pv 6) pe_int) (pa_c (pv 2) pa_nil))) rfl)) pss_nil)))))
   (pss_one (ps_ret (pe_tup (pa_c (pv 3) (pa_c (pv 4) pa_nil)))))))),?_⟩
 refine fun m hm=>?_
 have s1:=same_new hm (.dK [])
 have e1:upd H m (.dK []) m=some (.dK (nKV [])):=upd_same
 generalize upd H m (.dK [])=H1 at *
 refine fun r hr'=>?_
 have s2:=same_new hr' (.dK [])
 have e2:upd H1 r (.dK []) r=some (.dK []):=upd_same
 have nmr:m≠r:=ne_of_none e1 hr'
 have e12:=s2 _ _ e1
 have hr0:H r=none:=s1.free hr'
 generalize upd H1 r (.dK [])=H2 at *
 have s02:=s1.trans s2
 refine ⟨3,rfl,by decide,by decide,?_⟩
 refine for_range (n:=3) (fun i σ G=>∃ x5 x6 N lvs L,σ=[some (.ref sa),some (.ref l),some (.int n),some (.ref m),some (.ref r),x5,x6]∧Same H G∧G m=some (.dK (nKV N))∧G r=some (.dK lvs)∧RP (LF G 0) lvs L∧N.length≤i∧L.length≤i∧NdA N∧NdA L) ?_ ?_ ?_
 ·exact ⟨none,none,[],[],[],rfl,s02,e12,e2,trivial,Nat.le_refl _,Nat.le_refl _,List.nodup_nil,List.nodup_nil⟩
 ·rintro i σ G hi ⟨x5,x6,N,lvs,L,rfl,sG,hGm,hGr,hV,hN,hL,hNd,hLd⟩
  have hx:=at_strs (xs:=ws) (i:=(i:Int)) (by omega) (by rw [hw8];omega)
  have hy:=at_strs (xs:=ws) (i:=3+(i:Int)) (by omega) (by rw [hw8];omega)
  have e0:(0:Int)+(i:Int)=(i:Int):=by omega
  generalize ws.getD (i:Int).toNat "" = x at *
  generalize ws.getD (3+(i:Int)).toNat "" = y at *
  rw [e0]
  refine ⟨_,rfl,_,rfl,_,_,rfl,rfl,sa,ns,_,rfl,sG.seq hS,by omega,by omega,fun c=>?_⟩
  refine ⟨_,_,rfl,rfl,(by show (0:Int) < _;decide),?_⟩
  dsimp only
  generalize c % 2147483647=cell at *
  refine ⟨_,rfl,_,_,rfl,rfl,(by show (0:Int) < _;decide),_,_,rfl,rfl,_,rfl,?_⟩
  refine ite2 (fun d=>?ga) (fun d=>?gb)
  case' ga=>
   refine ⟨_,rfl,_,rfl,_,_,rfl,rfl,⟨by decide,by decide⟩,_,_,rfl,rfl,(by show (0:Int) < _;decide),_,_,rfl,rfl,_,_,rfl,rfl,_,rfl,_,rfl,_,rfl,l,_,_,_,rfl,rfl,SqL.of (sG _ _ hl),hx,m,_,rfl,DPut.k (k:=Sum.inr x) hGm (small1000 (by unfold nKV;rw [List.length_map];omega)),?_⟩
   dsimp only
   rw [nkv_put]
   have hN1:(putA N x (n+cell / 5 % 7 - 3)).length≤i+1:=Nat.le_trans (putA_len _ _ _) (by omega)
   have hNd1:=putA_nd x (n+cell / 5 % 7 - 3) hNd
   have tk1:TK G (upd G m (.dK (nKV (putA N x (n+cell / 5 % 7 - 3))))):=TK.upd hGm (by intro xs z;cases z)
   have sG1:Same H (upd G m (.dK (nKV (putA N x (n+cell / 5 % 7 - 3))))):=fun b o e=>by rw [upd_ne (ne_of_none e hm)];exact sG _ _ e
   have hGm1:upd G m (.dK (nKV (putA N x (n+cell / 5 % 7 - 3)))) m=some (.dK (nKV (putA N x (n+cell / 5 % 7 - 3)))):=upd_same
   have hGr1:upd G m (.dK (nKV (putA N x (n+cell / 5 % 7 - 3)))) r=some (.dK lvs):=by rw [upd_ne nmr.symm];exact hGr
   have hV1:=RP.imp (fun lq v h=>LF.tk tk1 h) hV
   clear sG hGm hGr hV tk1 hN hNd
   generalize upd G m (.dK (nKV (putA N x (n+cell / 5 % 7 - 3))))=G1 at *
   generalize putA N x (n+cell / 5 % 7 - 3)=N1 at *
  case' gb=>
   have hN1:N.length≤i+1:=by omega
   have hNd1:=hNd
   have sG1:=sG
   have hGm1:=hGm
   have hGr1:=hGr
   have hV1:=hV
   clear sG hGm hGr hV hN hNd
   generalize G=G1 at *
   generalize N=N1 at *
  all_goals
   refine ⟨_,rfl,_,_,rfl,rfl,⟨by decide,by decide⟩,_,_,rfl,rfl,(by show (0:Int) < _;decide),_,_,rfl,rfl,_,rfl,?_⟩
   refine ite2 (fun d2=>?_) (fun d2=>?_)
   ·refine ⟨_,rfl,_,_,rfl,rfl,⟨by decide,by decide⟩,_,rfl,_,n,rfl,fun u b ps G2 t2 hup hpl hu'=>?_⟩
    have hGr2:=t2 _ _ hGr1
    refine ⟨_,rfl,_,rfl,_,rfl,_,_,rfl,rfl,l,_,_,_,rfl,rfl,SqL.of (t2 _ _ (sG1 _ _ hl)),hy,r,_,rfl,DPut.k (k:=Sum.inr y) hGr2 (small1000 (by rw [hV1.len];omega)),?_⟩
    have tk2:TK G2 (upd G2 r (.dK (putK lvs (Sum.inr y) u))):=TK.upd hGr2 (by intro xs z;cases z)
    refine ⟨some (.int i),some (.int cell),N1,_,putA L y (b,ps,[]),rfl,fun z o e=>?_,?_,upd_same,?_,hN1,Nat.le_trans (putA_len _ _ _) (by omega),hNd1,putA_nd _ _ hLd⟩
    ·rw [upd_ne (ne_of_none e hr0)];exact t2 _ _ (sG1 _ _ e)
    ·rw [upd_ne nmr];exact t2 _ _ hGm1
    ·exact RP.put (RP.imp (fun lq v h=>LF.tk tk2 (LF.tk (TK.same t2) h)) hV1) ⟨tk2.held hu',hup,hpl,Nat.zero_le _⟩
   ·exact ⟨some (.int i),some (.int cell),N1,lvs,L,rfl,sG1,hGm1,hGr1,hV1,hN1,by omega,hNd1,hLd⟩
 ·rintro σ G ⟨x5,x6,N,lvs,L,rfl,sG,hGm,hGr,hV,hN,hL,hNd,hLd⟩
  refine ⟨_,rfl,_,rfl,sm rfl,fun t ht=>?_⟩
  have s3:=same_new ht (.tup [V.ref m,V.ref r])
  exact q t m r N lvs L _ (sG.trans s3) upd_same hm hr0 nmr (s3 _ _ hGm) (s3 _ _ hGr) (RP.imp (fun lq v h=>LF.tk (TK.same s3) h) hV) hN hL hNd hLd
end
open PySem L2
abbrev sWords:Stmt:=top 25
theorem join_len {ys:List Str} (h:∀ y∈ys,y.length=1):(Txt.join "" ys).length≤ys.length:=by
 have h1:=PySem.StrLaws.join_length_le "" ys
 have e:Txt.join "" ys=("" : Str).join ys:=PySem.StrLaws.glued_eq_join _ _
 rw [e]
 have e2:(ys.map (·.length)).sum=ys.length:=by
  clear h1 e
  induction ys with
  | nil=>rfl
  | cons y r ih=>
   rw [List.map_cons,List.sum_cons,h y List.mem_cons_self,ih fun z hz=>h z (List.mem_cons_of_mem _ hz),List.length_cons]
   omega
 have e3:("" : Str).length=0:=rfl
 rw [e2,e3,Nat.mul_zero] at h1
 exact h1
theorem sum_len {ys:List Str} (h:∀ y∈ys,y.length=1):(ys.map (·.length)).sum=ys.length:=by
 induction ys with
 | nil=>rfl
 | cons y r ih=>
  rw [List.map_cons,List.sum_cons,h y List.mem_cons_self,ih fun z hz=>h z (List.mem_cons_of_mem _ hz),List.length_cons]
  omega
def lettersS:Str:="abcdefghijklmnopqrstuvwxyz"
theorem letter_at {i:Int} (h0:0≤i) (h1:i < 26):∃ c,atI lettersS.cps.toList i=some c:=by
 have hl:lettersS.cps.toList.length=26:=by decide +kernel
 have ek:i=((i.toNat:Nat):Int):=by omega
 have hk:i.toNat < lettersS.cps.toList.length:=by omega
 refine ⟨lettersS.cps.toList[i.toNat],?_⟩
 have:=atI_nat (List.getElem?_eq_getElem hk)
 rw [← ek] at this
 exact this
def qzS:Str:="qz"
theorem qz_at {i:Int} (h0:0≤i) (h1:i < 2):∃ c,atI qzS.cps.toList i=some c:=by
 have hl:qzS.cps.toList.length=2:=by decide +kernel
 have ek:i=((i.toNat:Nat):Int):=by omega
 have hk:i.toNat < qzS.cps.toList.length:=by omega
 refine ⟨qzS.cps.toList[i.toNat],?_⟩
 have:=atI_nat (List.getElem?_eq_getElem hk)
 rw [← ek] at this
 exact this
def ownL:List Str:=["row","is","at","set","put","know","lose","start","entry","own","nought","pick","least","lost"]
def spWords:Sp:=fun vs H Q _=>∃ (c:Int),vs=[.int c,.int 6]∧∀ (l:Addr) (ws:List Str) (H':Hp),ws.length=6→Same H H'→H' l=some (.lst (ws.map V.str))→Q (.ref l) H'
structure QA (X:Cx) (es:List Expr) (t:TA):Prop where
 h:PA X es t
theorem qa_nil {X:Cx}:QA X [] tNil:=⟨pa_nil⟩
theorem qa_str {X:Cx} {es:List Expr} {t:TA} {z:Str} {j:Nat} {pos:Pos} (h:QA X es t):QA X (.Constant (.str z) j pos :: es) (tCons (tC (.str z)) t):=⟨pa_c pe_str h.h⟩
theorem q_setL {X:Cx} {i:Nat} {x:Str} {p1 q pos:Pos} {es:List Expr} {t:TA} (hN:X.N.Nodup) (hi:X.N[i]?=some x) (hx:Loc X.env.scope x) (h:QA X es t) (hf:X.fn x=true∨X.env.scope.names.lookup x=some .local:=by first | exact .inl rfl | exact .inr rfl | assumption) :
  QS X (.Assign [.Name x p1] (.List es q) pos) (tAsg (tLst t) (gName i)):=⟨ps_set hN hi hx (pe_lst h.h) rfl hf⟩
section
variable {P:Program} {w:World} {K:PySem.W.Frag} {mg:Str→Option Value} {base:Heap}
theorem ok_words {f:Addr} {fd:FuncData} (F:Fun K "_law_words" "_law_words" sWords f fd) (B:Free0 mg):FnOk P w K mg base CX0 1 f fd ["_law_cell","_law_many"] spWords:=by
 have sc:FnScope ["_law_cell","_law_many","_law_letters","_law_own","_law_size","_law_spot","_law_words_here","_law_k","_law_base"] ["_law_cell","_law_many"] (defScope sWords):=⟨rfl,rfl,rfl,by decide +kernel,rfl,by decide +kernel,by decide +kernel⟩
 refine F.ok sc (fun vs H Q E h=>?_) (fun cdv A outer s H vs Q E hr h=>?_)
 ·obtain ⟨c,rfl,_⟩:=h
  rfl
 obtain ⟨c,rfl,q⟩:=h
 refine ⟨_,(QSs.h (qss_cons (qs (ps_set (i:=2) sc.nd rfl (by first | exact Or.inl rfl | exact Or.inr rfl) pe_str))
   (qss_cons (q_setL (i:=3) sc.nd rfl (by first | exact Or.inl rfl | exact Or.inr rfl) (qa_str (qa_str (qa_str (qa_str (qa_str (qa_str (qa_str (qa_str (qa_str (qa_str (qa_str (qa_str (qa_str (qa_str qa_nil)))))))))))))))
   (qss_cons (qs (ps_if (pt_cmpR op_eq (pe_op op_mod (pv 0) pe_int) pe_int (nomark _)) (pss_one (ps_ret (pe_comp ["_law_k"] [0,3] rfl (comp_ok (sc:=defScope sWords) (N:=["_law_cell","_law_many","_law_letters","_law_own","_law_size","_law_spot","_law_words_here","_law_k","_law_base"]) rfl rfl (by decide +kernel)) (pi_range1 (by rfl) B.range_ (pa_c (pv 1) pa_nil)) (fun s H ex=>⟨(pg_name (i:=0) (show List.Nodup (["_law_k","_law_cell","_law_own"]:List Str) by decide +kernel) rfl (by first | exact Or.inl rfl | exact Or.inr rfl)),pts_nil,(pe_ix (ix_listK (K:=K)) (pv 2) (pe_op op_mod (pe_op op_add (pe_op op_fdivB (pv 1) pe_int) (pv 0)) pe_int) (fun _ _=>rfl))⟩)))) pss_nil))
   (qss_cons (qs (ps_set (i:=4) sc.nd rfl (by first | exact Or.inl rfl | exact Or.inr rfl) (pe_op op_mod (pv 0) pe_int)))
   (qss_cons (qs (ps_if (pt_cmpR op_eq (pv 4) pe_int (nomark _)) (pss_one (ps_ret (pe_comp ["_law_k"] [0,2] rfl (comp_ok (sc:=defScope sWords) (N:=["_law_cell","_law_many","_law_letters","_law_own","_law_size","_law_spot","_law_words_here","_law_k","_law_base"]) rfl rfl (by decide +kernel)) (pi_range1 (by rfl) B.range_ (pa_c (pv 1) pa_nil)) (fun s H ex=>⟨(pg_name (i:=0) (show List.Nodup (["_law_k","_law_cell","_law_letters"]:List Str) by decide +kernel) rfl (by first | exact Or.inl rfl | exact Or.inr rfl)),pts_nil,(pe_ix ix_str (pv 2) (pe_op op_mod (pe_op op_add (pe_op op_fdivB (pv 1) pe_int) (pv 0)) pe_int) (fun _ _=>rfl))⟩)))) pss_nil))
   (qss_cons (qs (ps_set (i:=5) sc.nd rfl (by first | exact Or.inl rfl | exact Or.inr rfl) (pe_op op_mod (pe_op op_fdivB (pv 0) pe_int) (pv 4))))
   (qss_cons (qs (ps_set (i:=6) sc.nd rfl (by first | exact Or.inl rfl | exact Or.inr rfl) (pe_lst pa_nil)))
   (qss_cons (qs (ps_for PassesOwn.never rfl (pi_range1 (by rfl) B.range_ (pa_c (pv 1) pa_nil)) (pg_name (i:=7) sc.nd rfl (by first | exact Or.inl rfl | exact Or.inr rfl)) (pss_cons (ps_setcomp (i:=8) sc.nd rfl (by first | exact Or.inl rfl | exact Or.inr rfl) ["_law_j"] [0,5,7] rfl (comp_ok (sc:=defScope sWords) (N:=["_law_cell","_law_many","_law_letters","_law_own","_law_size","_law_spot","_law_words_here","_law_k","_law_base"]) rfl rfl (by decide +kernel)) (pi_range1 (by rfl) B.range_ (pa_c (pv 4) pa_nil)) (fun s H ex=>⟨(pg_name (i:=0) (show List.Nodup (["_law_j","_law_cell","_law_spot","_law_k"]:List Str) by decide +kernel) rfl (by first | exact Or.inl rfl | exact Or.inr rfl)),pts_nil,(pe_op op_add (pe_op op_add (pe_op op_fdivB (pv 1) pe_int) (pe_op op_mul (pe_op op_mul pe_int (pv 0)) (pv 0))) (pe_op op_mul (pv 3) (pe_cT call_int1 (by rfl) B.int_ bt_int (pa_c (pe_cmpR op_eq (pv 0) (pv 2) (nomark _)) pa_nil))))⟩))
   (pss_one (ps_expr (pe_bm PySem.F.plainAttrs_list PySem.F.slot_list_append PySem.F.type_list_append mt_append (pv 6) (pa_c (pe_op op_add_str (pe_ix ix_str pe_str (pe_op op_mod (pe_op op_fdivB (pv 0) pe_int) pe_int) (fun _ _=>rfl)) (pe_bm PySem.F.plainAttrs_str PySem.F.slot_str_join PySem.F.type_str_join mt_join pe_str (pa_c (pe_comp ["_law_each"] [2] rfl (comp_ok (sc:=defScope sWords) (N:=["_law_cell","_law_many","_law_letters","_law_own","_law_size","_law_spot","_law_words_here","_law_k","_law_base"]) rfl rfl (by decide +kernel)) (pi_list (pv 8)) (fun s H ex=>⟨(pg_name (i:=0) (show List.Nodup (["_law_each","_law_letters"]:List Str) by decide +kernel) rfl (by first | exact Or.inl rfl | exact Or.inr rfl)),pts_nil,(pe_ix ix_str (pv 1) (pe_op op_mod (pv 0) pe_int) (fun _ _=>rfl))⟩)) pa_nil))) pa_nil)))))))
   (qss_one (qs (ps_ret (pv 6))))))))))))),?_⟩
 refine ⟨sm rfl,fun lo hlo=>?_⟩
 have s1:=same_new hlo (.lst [V.str "row",V.str "is",V.str "at",V.str "set",V.str "put",V.str "know",V.str "lose",V.str "start",V.str "entry",V.str "own",V.str "nought",V.str "pick",V.str "least",V.str "lost"])
 have e1:upd H lo (.lst [V.str "row",V.str "is",V.str "at",V.str "set",V.str "put",V.str "know",V.str "lose",V.str "start",V.str "entry",V.str "own",V.str "nought",V.str "pick",V.str "least",V.str "lost"]) lo=some (.lst (ownL.map V.str)):=upd_same
 generalize upd H lo (.lst [V.str "row",V.str "is",V.str "at",V.str "set",V.str "put",V.str "know",V.str "lose",V.str "start",V.str "entry",V.str "own",V.str "nought",V.str "pick",V.str "least",V.str "lost"])=H1 at *
 have nonneg:∀ {x y:Int},0 < y→0≤x % y∧x % y < y:=fun h=>⟨Int.emod_nonneg _ (by omega),Int.emod_lt_of_pos _ h⟩
 have hlet:lettersS.length≤sizeLine:=by show 26≤sizeLine;rw [sizeLine_eq];decide
 have hqz:qzS.length≤sizeLine:=by show 2≤sizeLine;rw [sizeLine_eq];decide
 refine ⟨_,rfl,_,_,rfl,rfl,(by show (0:Int) < _;decide),rfl,_,rfl,ite2 (fun d=>?_) (fun d=>?_)⟩
 ·refine ⟨_,rfl,6,rfl,by decide,by decide,fun p hp=>?_⟩
  have s2:=same_new hp (.lst [])
  refine comp_range (fun i σ' G'=>∃ (u:Option V) (zs:List Str),σ'=[u,some (.int c),some (.ref lo)]∧Same H1 G'∧G' p=some (.lst (zs.map V.str))∧zs.length=i) ?_ ?_ ?_
  ·exact ⟨none,[],rfl,s2,upd_same,rfl⟩
  ·rintro i σ' G' hi ⟨u,zs,rfl,sG',hGp,hzs⟩
   unfold gName tYes
   refine iteT ?_
   have hb:=nonneg (x:=c / 7+(0+(i:Int))) (y:=14) (by decide)
   have hat:=at_strs (xs:=ownL) (i:=(c / 7+(0+(i:Int))) % 14) hb.1 (by show _ < (14:Int);exact hb.2)
   refine ⟨_,rfl,_,rfl,_,_,rfl,rfl,⟨by decide,by decide⟩,_,rfl,_,_,rfl,rfl,_,_,rfl,rfl,(by show (0:Int) < _;decide),lo,_,_,_,rfl,rfl,SqL.of (sG' _ _ e1),hat,?_⟩
   have hi8:i < 6:=hi
   refine ⟨_,hGp,small1000 (by rw [List.length_map];omega),_,zs++[ownL.getD ((c / 7+(0+(i:Int))) % 14).toNat ""],rfl,fun z o e=>?_,?_,by rw [List.length_append,hzs];rfl⟩
   ·rw [upd_ne (ne_of_none e hp)];exact sG' _ _ e
   ·rw [upd_same,List.map_append];rfl
  ·rintro σ' G' ⟨u,zs,rfl,sG',hGp,hzs⟩
   exact q p zs G' hzs (s1.trans sG') hGp
 refine ⟨_,rfl,_,_,rfl,rfl,(by show (0:Int) < _;decide),?_⟩
 have hsz:=nonneg (x:=c) (y:=8) (by decide)
 dsimp only
 generalize c % 8=size at *
 refine ⟨_,rfl,rfl,_,rfl,ite2 (fun d2=>?_) (fun d2=>?_)⟩
 ·refine ⟨_,rfl,6,rfl,by decide,by decide,fun p hp=>?_⟩
  have s2:=same_new hp (.lst [])
  refine comp_range (fun i σ' G'=>∃ (u:Option V) (zs:List Str),σ'=[u,some (.int c),some (.str lettersS)]∧Same H1 G'∧G' p=some (.lst (zs.map V.str))∧zs.length=i) ?_ ?_ ?_
  ·exact ⟨none,[],rfl,s2,upd_same,rfl⟩
  ·rintro i σ' G' hi ⟨u,zs,rfl,sG',hGp,hzs⟩
   unfold gName tYes
   refine iteT ?_
   have hb:=nonneg (x:=c / 8+(0+(i:Int))) (y:=26) (by decide)
   obtain ⟨ch,hch⟩:=letter_at hb.1 hb.2
   refine ⟨_,rfl,_,rfl,_,_,rfl,rfl,⟨by decide,by decide⟩,_,rfl,_,_,rfl,rfl,_,_,rfl,rfl,(by show (0:Int) < _;decide),lettersS,_,ch,rfl,rfl,hlet,hch,?_⟩
   have hi8:i < 6:=hi
   refine ⟨_,hGp,small1000 (by rw [List.length_map];omega),_,zs++[⟨#[ch]⟩],rfl,fun z o e=>?_,?_,by rw [List.length_append,hzs];rfl⟩
   ·rw [upd_ne (ne_of_none e hp)];exact sG' _ _ e
   ·rw [upd_same,List.map_append];rfl
  ·rintro σ' G' ⟨u,zs,rfl,sG',hGp,hzs⟩
   exact q p zs G' hzs (s1.trans sG') hGp
 have d2':¬ size=0:=fun e=>d2 (decide_eq_true (congrArg V.int e))
 refine ⟨_,rfl,_,_,rfl,rfl,⟨by decide,by decide⟩,_,rfl,_,_,rfl,rfl,(by show (0:Int) < size;omega),?_⟩
 dsimp only
 generalize c / 8 % size=spot at *
 refine ⟨sm rfl,fun lw hlw=>?_⟩
 have s2:=same_new hlw (.lst [])
 have e2:upd H1 lw (.lst []) lw=some (.lst []):=upd_same
 have hlw0:H lw=none:=s1.free hlw
 generalize upd H1 lw (.lst [])=H2 at *
 have s02:=s1.trans s2
 refine ⟨_,rfl,6,rfl,by decide,by decide,?_⟩
 refine for_range (n:=6) (fun i σ G=>∃ (x7 x8:Option V) (zs:List Str),σ=[some (.int c),some (.int 6),some (.str lettersS),some (.ref lo),some (.int size),some (.int spot),some (.ref lw),x7,x8]∧Same H G∧G lw=some (.lst (zs.map V.str))∧zs.length=i) ?_ ?_ ?_
 ·exact ⟨none,none,[],rfl,s02,e2,rfl⟩
 ·rintro i σ G hi ⟨x7,x8,zs,rfl,sG,hGw,hzs⟩
  have hi8:i < 6:=hi
  refine ⟨_,rfl,size,rfl,by omega,by omega,fun p hp=>?_⟩
  have s3:=same_new hp (.lst [])
  have npw:lw≠p:=ne_of_none hGw hp
  refine comp_range (fun j σ' G'=>∃ (u:Option V) (ys:List Int),σ'=[u,some (.int c),some (.int spot),some (.int (0+(i:Int)))]∧Same G G'∧G' p=some (.lst (ys.map V.int))∧ys.length=j) ?_ ?_ ?_
  ·exact ⟨none,[],rfl,s3,upd_same,rfl⟩
  ·rintro j σ' G' hj ⟨u,ys,rfl,sG',hGp,hys⟩
   have hj8:j < size.toNat:=hj
   unfold gName tYes
   refine iteT ?_
   refine ⟨_,rfl,_,_,rfl,rfl,⟨by decide,by decide⟩,_,rfl,_,_,rfl,rfl,.inl ⟨by decide,by decide⟩,_,rfl,_,_,rfl,rfl,.inr ⟨by omega,by omega⟩,_,_,rfl,rfl,_,rfl,_,rfl,_,rfl,rfl,.inr ⟨_,rfl,?_⟩⟩
   refine ⟨_,_,rfl,rfl,.inr ⟨by split <;> decide,by split <;> decide⟩,_,_,rfl,rfl,?_⟩
   refine ⟨_,hGp,small1000 (by rw [List.length_map];omega),_,ys++[c / 432+7 * (0+(j:Int)) * (0+(j:Int))+(0+(i:Int)) * (if decide (V.int (0+(j:Int))=V.int spot)=true then 1 else 0)],rfl,fun z o e=>?_,?_,by rw [List.length_append,hys];rfl⟩
   ·rw [upd_ne (ne_of_none e hp)];exact sG' _ _ e
   ·rw [upd_same,List.map_append];rfl
  rintro σ' G1 ⟨u,ys,rfl,sG1,hG1p,hys⟩
  have hys7:ys.length≤7:=by omega
  have hb:=nonneg (x:=c / 144) (y:=2) (by decide)
  obtain ⟨qc,hqc⟩:=qz_at hb.1 hb.2
  refine ⟨_,rfl,.inl ⟨rfl,_,SqL.of (sG1 _ _ hGw)⟩,?_⟩
  refine ⟨_,rfl,_,_,rfl,rfl,⟨by decide,by decide⟩,_,_,rfl,rfl,(by show (0:Int) < _;decide),qzS,_,qc,rfl,rfl,hqz,hqc,?_⟩
  refine ⟨rfl,_,rfl,p,rfl,⟨_,SqL.of hG1p⟩,fun p2 hp2=>?_⟩
  have s4:=same_new hp2 (.lst [])
  refine comp_list (xs:=ys.map V.int) (fun j σ' G'=>∃ (u:Option V) (zs2:List Str),σ'=[u,some (.str lettersS)]∧Same G1 G'∧G' p2=some (.lst (zs2.map V.str))∧zs2.length=j∧∀ y∈zs2,y.length=1) ?_ ?_ ?_ ?_
  ·exact ⟨none,[],rfl,s4,upd_same,rfl,fun y hy=>(by cases hy)⟩
  ·rintro j σ' G' _ ⟨u,zs2,rfl,sG',_⟩
   exact SqL.of (sG' _ _ hG1p)
  ·rintro j x σ' G' hx ⟨u,zs2,rfl,sG',hGp,hz2,hz1⟩
   have hj:j < ys.length:=by
    have:=(List.getElem?_eq_some_iff.mp hx).1
    rw [List.length_map] at this
    exact this
   rw [List.getElem?_map,List.getElem?_eq_getElem hj] at hx
   cases hx
   generalize ys[j]=yj at *
   unfold gName tYes
   refine iteT ?_
   have hb2:=nonneg (x:=yj) (y:=26) (by decide)
   obtain ⟨ch,hch⟩:=letter_at hb2.1 hb2.2
   refine ⟨_,rfl,_,rfl,_,_,rfl,rfl,(by show (0:Int) < _;decide),lettersS,_,ch,rfl,rfl,hlet,hch,?_⟩
   refine ⟨_,hGp,small1000 (by rw [List.length_map];omega),_,zs2++[⟨#[ch]⟩],rfl,fun z o e=>?_,?_,by rw [List.length_append,hz2];rfl,fun y hy=>?_⟩
   ·rw [upd_ne (ne_of_none e hp2)];exact sG' _ _ e
   ·rw [upd_same,List.map_append];rfl
   ·rcases List.mem_append.mp hy with hy | hy
    ·exact hz1 y hy
    ·rw [List.mem_singleton.mp hy];rfl
  rintro σ' G2 ⟨u,zs2,rfl,sG2,hG2p,hz2,hz1⟩
  rw [List.length_map] at hz2
  have hjl:=join_len hz1
  have hsl:=sum_len hz1
  refine ⟨"",p2,zs2,rfl,rfl,SqL.of hG2p,(by rw [hsl];show zs2.length+zs2.length * 0≤_;omega),?_⟩
  refine ⟨_,_,rfl,rfl,?_,?_⟩
  ·have:(⟨#[qc]⟩:Str).length=1:=rfl
   rw [this]
   exact Nat.le_trans (by omega:1+(Txt.join "" zs2).length≤1000) (small (Nat.le_refl _))
  have hGw2:=sG2 _ _ (sG1 _ _ hGw)
  refine ⟨lw,_,_,rfl,rfl,hGw2,small1000 (by rw [List.length_map];omega),?_⟩
  refine ⟨some (.int (0+(i:Int))),some (.ref p),zs++[(⟨#[qc]⟩:Str)++Txt.join "" zs2],rfl,fun z o e=>?_,?_,by rw [List.length_append,hzs];rfl⟩
  ·rw [upd_ne (ne_of_none e hlw0)];exact sG2 _ _ (sG1 _ _ (sG _ _ e))
  ·rw [upd_same,List.map_append];rfl
 ·rintro σ G ⟨x7,x8,zs,rfl,sG,hGw,hzs⟩
  exact ⟨_,rfl,q lw zs G hzs sG hGw⟩
end
end LW
namespace L2
open PySem PySem.Spec PyProof PyProof.Rows PySem.W
theorem ints_toks:∀ {vs:List Value} {ns:List Int},IntsAre vs ns→∃ l:List (Int×Tok),vs=l.map (fun p=>Value.int p.1 p.2)∧l.map (·.1)=ns
 | _,_,.nil=>⟨[],rfl,rfl⟩
 | _,_,.cons n t h=>by
  obtain ⟨l,e1,e2⟩:=ints_toks h
  exact ⟨(n,t) :: l,by rw [e1];rfl,by rw [List.map_cons,e2]⟩
theorem call_minL {X:Cx} (hc:X.calm=true):CallR X (.builtin "min") (fun xs H Q=>∃ (p:Addr) (ns:List Int),xs=[.ref p]∧SqL X.K H p (ns.map V.int)∧ns≠[]∧∀ m,m∈ns→(∀ d∈ns,m≤d)→Q (.int m) H):=by
 intro pins s σ H xs us Q I r h
 obtain ⟨p,ns,rfl,hq,hne,q⟩:=h
 obtain ⟨u,rfl,rx⟩:=vals1 r
 cases rx
 obtain ⟨its,rv,pl,hz⟩:=I.list hq
 obtain ⟨l,e1,e2⟩:=ints_toks (ints_are rv)
 have hl:0 < l.length:=by
  have:l.length=ns.length:=by rw [← e2,List.length_map]
  rw [this]
  exact List.length_pos_iff.mpr hne
 have ei:its.toArray=intItems l.toArray:=by rw [e1];simp [intItems]
 have hi:=pl.isList
 rw [ei] at hi
 refine min_intList (I.ok.hd hc) hi (by simpa using hl) fun v h' tk hv k=>?_
 obtain ⟨b1,b2⟩:=argBest_lt (numAt l.toArray) (l.toArray.size - 1)
 generalize argBest (fun i j=>decide (numAt l.toArray i < numAt l.toArray j)) (l.toArray.size - 1)=j at *
 have sz:l.toArray.size=l.length:=by simp
 have hj:j < l.length:=by omega
 have en:∀ i (h:i < l.length),numAt l.toArray i=l[i].1:=fun i h=>by simp [numAt,h]
 have ev:v=.int l[j].1 l[j].2:=by
  have:=hv
  simp [intItems,hj] at this
  exact this.symm
 subst ev
 refine ⟨.int l[j].1,H,I.kept k,⟨_,rfl⟩,q _ (by rw [← e2];exact List.mem_map.mpr ⟨_,List.getElem_mem hj,rfl⟩) fun d hd=>?_⟩
 rw [← e2] at hd
 obtain ⟨x,hx,rfl⟩:=List.mem_map.mp hd
 obtain ⟨i,hi,rfl⟩:=List.mem_iff_getElem.mp hx
 have:=b2 i (by omega)
 rw [en j hj,en i hi] at this
 exact this
theorem call_maxL {X:Cx} (hc:X.calm=true):CallR X (.builtin "max") (fun xs H Q=>∃ (p:Addr) (ns:List Int),xs=[.ref p]∧SqL X.K H p (ns.map V.int)∧ns≠[]∧∀ m,m∈ns→(∀ d∈ns,d≤m)→Q (.int m) H):=by
 intro pins s σ H xs us Q I r h
 obtain ⟨p,ns,rfl,hq,hne,q⟩:=h
 obtain ⟨u,rfl,rx⟩:=vals1 r
 cases rx
 obtain ⟨its,rv,pl,hz⟩:=I.list hq
 obtain ⟨l,e1,e2⟩:=ints_toks (ints_are rv)
 have hl:0 < l.length:=by
  have:l.length=ns.length:=by rw [← e2,List.length_map]
  rw [this]
  exact List.length_pos_iff.mpr hne
 have ei:its.toArray=intItems l.toArray:=by rw [e1];simp [intItems]
 have hi:=pl.isList
 rw [ei] at hi
 refine max_intList (I.ok.hd hc) hi (by simpa using hl) fun v h' tk hv k=>?_
 obtain ⟨b1,b2⟩:=argBest_gt (numAt l.toArray) (l.toArray.size - 1)
 generalize argBest (fun i j=>decide (numAt l.toArray i > numAt l.toArray j)) (l.toArray.size - 1)=j at *
 have sz:l.toArray.size=l.length:=by simp
 have hj:j < l.length:=by omega
 have en:∀ i (h:i < l.length),numAt l.toArray i=l[i].1:=fun i h=>by simp [numAt,h]
 have ev:v=.int l[j].1 l[j].2:=by
  have:=hv
  simp [intItems,hj] at this
  exact this.symm
 subst ev
 refine ⟨.int l[j].1,H,I.kept k,⟨_,rfl⟩,q _ (by rw [← e2];exact List.mem_map.mpr ⟨_,List.getElem_mem hj,rfl⟩) fun d hd=>?_⟩
 rw [← e2] at hd
 obtain ⟨x,hx,rfl⟩:=List.mem_map.mp hd
 obtain ⟨i,hi,rfl⟩:=List.mem_iff_getElem.mp hx
 have:=b2 i (by omega)
 rw [en j hj,en i hi] at this
 exact this
open PySem PySem.Spec PyProof.Rows PySem.W
def tJoin (t:TS):TS:=fun D σ H=>∃ J:St→Hp→Prop,t { D with nx:=J } σ H∧∀ σ' H',J σ' H'→D.nx σ' H'
theorem ps_join {X:Cx} {st:Stmt} {t:TS} (h:PS X st t):PS X st (tJoin t):=by
 intro pins s σ H D I q
 obtain ⟨J,q,k⟩:=q
 refine thn (h pins s σ H _ I q) fun f s1 q1=>?_
 cases f with
 | next=>
  obtain ⟨σ',H',I',e⟩:=q1
  exact ⟨σ',H',I',k _ _ e⟩
 | cont=>exact q1
 | brk=>exact q1
 | ret v=>exact q1
end L2
namespace LW
open PySem L2
abbrev sPoints:Stmt:=top 38
abbrev sGaps:Stmt:=top 39
abbrev sTrue:Stmt:=top 40
def PointsOf (t u:Int) (qs:List LRow) (ns:List Int):Prop:=ns.Pairwise (· < ·)∧∀ x,x∈ns↔x=t∨(t < x∧x≤u∧∃ q∈qs,(∃ z∈q.2.1,z.1=x)∨∃ z∈q.2.2,z.1=x∨z.1+1=x)
theorem heldW_like {q:LRow} (up:Rising q.2.1) {m k:Int} (hmk:m≤k) (h1:∀ z∈q.2.1,¬ (m < z.1∧z.1≤k)) (h2:∀ z∈q.2.2,¬ (m < z.1∧z.1≤k)∧¬ (m < z.1+1∧z.1+1≤k)):heldW q k=heldW q m:=by
 obtain ⟨b,ps,ws⟩:=q
 by_cases e:m=k
 ·rw [e]
 ·rw [heldW_out (p:=k) (fun z hz c=>by have:=(h2 z hz).1;omega),heldW_out (p:=m) (fun z hz c=>by have:=(h2 z hz).2;omega)]
  exact held_like up hmk h1
theorem points_at {t u k:Int} {qs:List LRow} {ns:List Int} (h:PointsOf t u qs ns) (up:∀ q∈qs,Rising q.2.1) (h1:t≤k) (h2:k≤u):∃ m∈ns,m≤k∧t≤m∧(∀ x∈ns,x≤k→x≤m)∧∀ q∈qs,heldW q k=heldW q m:=by
 obtain ⟨m,hm,a1,a2,a3⟩:=last_upto ((h.2 t).mpr (.inl rfl)) h1
 refine ⟨m,hm,a1,a2,a3,fun q hq=>heldW_like (up q hq) a1 (fun z hz c=>?_) (fun z hz=>⟨fun c=>?_,fun c=>?_⟩)⟩
 ·have:=a3 z.1 ((h.2 z.1).mpr (.inr ⟨by omega,by omega,q,hq,.inl ⟨z,hz,rfl⟩⟩)) c.2
  omega
 ·have:=a3 z.1 ((h.2 z.1).mpr (.inr ⟨by omega,by omega,q,hq,.inr ⟨z,hz,.inl rfl⟩⟩)) c.2
  omega
 ·have:=a3 (z.1+1) ((h.2 (z.1+1)).mpr (.inr ⟨by omega,by omega,q,hq,.inr ⟨z,hz,.inr rfl⟩⟩)) c.2
  omega
theorem filt_take {α:Type} {l:List α} {p:α→Bool} {i:Nat} (hi:i < l.length):(l.take (i+1)).filter p=(l.take i).filter p++(if p l[i]=true then [l[i]] else []):=by
 rw [List.take_succ,List.getElem?_eq_getElem hi,List.filter_append]
 congr 1
 show List.filter _ [l[i]]=_
 rw [List.filter_cons]
 split <;> rfl
def inTU (t u:Int) (x:Int):Bool:=decide (t < x) && decide (x≤u)
def ptsOf (t u:Int) (q:LRow):List Int:=((q.2.1.filter fun z=>inTU t u z.1).map (·.1))++((q.2.2.filter fun z=>inTU t u z.1).map (·.1))++((q.2.2.filter fun z=>inTU t u (z.1+1)).map fun z=>z.1+1)
theorem pts_len (t u:Int) (q:LRow):(ptsOf t u q).length≤q.2.1.length+2 * q.2.2.length:=by
 unfold ptsOf
 rw [List.length_append,List.length_append,List.length_map,List.length_map,List.length_map]
 have h1:=List.length_filter_le (fun z:Int×Int=>inTU t u z.1) q.2.1
 have h2:=List.length_filter_le (fun z:Int×Int=>inTU t u z.1) q.2.2
 have h3:=List.length_filter_le (fun z:Int×Int=>inTU t u (z.1+1)) q.2.2
 omega
theorem inTU_iff {t u x:Int}:inTU t u x=true↔t < x∧x≤u:=by unfold inTU;rw [Bool.and_eq_true,decide_eq_true_iff,decide_eq_true_iff]
theorem pts_mem {t u x:Int} {q:LRow}:x∈ptsOf t u q↔t < x∧x≤u∧((∃ z∈q.2.1,z.1=x)∨∃ z∈q.2.2,z.1=x∨z.1+1=x):=by
 unfold ptsOf
 rw [List.mem_append,List.mem_append,List.mem_map,List.mem_map,List.mem_map]
 constructor
 ·rintro ((⟨z,hz,rfl⟩ | ⟨z,hz,rfl⟩) | ⟨z,hz,rfl⟩)
  ·obtain ⟨h1,h2⟩:=List.mem_filter.mp hz
   have:=inTU_iff.mp h2
   exact ⟨this.1,this.2,.inl ⟨z,h1,rfl⟩⟩
  ·obtain ⟨h1,h2⟩:=List.mem_filter.mp hz
   have:=inTU_iff.mp h2
   exact ⟨this.1,this.2,.inr ⟨z,h1,.inl rfl⟩⟩
  ·obtain ⟨h1,h2⟩:=List.mem_filter.mp hz
   have:=inTU_iff.mp h2
   exact ⟨this.1,this.2,.inr ⟨z,h1,.inr rfl⟩⟩
 ·rintro ⟨h1,h2,⟨z,hz,rfl⟩ | ⟨z,hz,rfl | rfl⟩⟩
  ·exact .inl (.inl ⟨z,List.mem_filter.mpr ⟨hz,inTU_iff.mpr ⟨h1,h2⟩⟩,rfl⟩)
  ·exact .inl (.inr ⟨z,List.mem_filter.mpr ⟨hz,inTU_iff.mpr ⟨h1,h2⟩⟩,rfl⟩)
  ·exact .inr ⟨z,List.mem_filter.mpr ⟨hz,inTU_iff.mpr ⟨h1,h2⟩⟩,rfl⟩
theorem points_ok {t u:Int} {qs:List LRow} {ns:List Int} (hp:ns.Perm (dedup (t :: qs.flatMap (ptsOf t u)))) (hs:ns.Pairwise (·≤·)):PointsOf t u qs ns:=by
 obtain ⟨d1,d2,d3⟩:=dedup_ok (t :: qs.flatMap (ptsOf t u))
 refine ⟨lt_of_le_nodup hs (hp.nodup_iff.mpr d1),fun x=>?_⟩
 rw [hp.mem_iff,d3,List.mem_cons,List.mem_flatMap]
 refine or_congr Iff.rfl ⟨fun ⟨q,h1,h2⟩=>?_,fun ⟨h1,h2,q,h3,h4⟩=>⟨q,h3,pts_mem.mpr ⟨h1,h2,h4⟩⟩⟩
 obtain ⟨a,b,c⟩:=pts_mem.mp h2
 exact ⟨a,b,q,h1,c⟩
theorem flat_take {t u:Int} {qs:List LRow} {i:Nat} (hi:i < qs.length):(qs.take (i+1)).flatMap (ptsOf t u)=(qs.take i).flatMap (ptsOf t u)++ptsOf t u qs[i]:=by
 rw [List.take_succ,List.getElem?_eq_getElem hi,List.flatMap_append]
 simp
theorem flat_le {t u:Int} {qs:List LRow} (h:∀ q∈qs,q.2.1.length≤40∧q.2.2.length≤100):(qs.flatMap (ptsOf t u)).length≤240 * qs.length:=by
 induction qs with
 | nil=>simp
 | cons q r ih=>
  rw [List.flatMap_cons,List.length_append,List.length_cons]
  have h1:=ih fun q hq=>h q (List.mem_cons_of_mem _ hq)
  have h2:=pts_len t u q
  have h3:=h q List.mem_cons_self
  omega
def spPoints:Sp:=fun vs H Q _=>∃ (t u:Int) (h:Addr) (hs:List V) (qs:List LRow),vs=[.ref h,.int t,.int u]∧H h=some (.lst hs)∧HeldL H (qs.map lrowD) hs∧(∀ q∈qs,q.2.1.length≤40∧q.2.2.length≤100)∧qs.length≤2∧
 ∀ l ns H',Same H H'→H' l=some (.lst (ns.map V.int))→PointsOf t u qs ns→ns.length≤481→Q (.ref l) H'
def GapsOf (f g:Int→Int) (t u:Int) (gs:List Int):Prop:=(∀ k,t≤k→k≤u→∃ x∈gs,x=f k - g k)∧∀ x∈gs,∃ k,t≤k∧k≤u∧x=f k - g k
def spGaps:Sp:=fun vs H Q _=>∃ (v:V) (tx ux r way kd x:Str) (td ud c:Int) (m n:Addr) (k:Nat) (N:List (Str×Int)) (lvs:List (Key×V)) (L:List (Str×LRow)),vs=[v,.ref m,.ref n]∧Held H (Cl.each tx td ux ud r way kd x c).toD v∧H m=some (.dK (nKV N))∧H n=some (.dK lvs)∧RP (LF H k) lvs L∧k≤100∧
 ∀ l gs H',Same H H'→H' l=some (.lst (gs.map V.int))→GapsOf (heldW (lrow L r)) (othV N L kd x) (numA N tx+td) (numA N ux+ud) gs→gs.length≤481→Q (.ref l) H'
def wayOk:Cl→Prop
 | .each _ _ _ _ _ way _ _ _=>way = ">="∨way = "<="
 | _=>True
def spTrue:Sp:=fun vs H Q _=>∃ (v:V) (C:Cl) (m n:Addr) (k:Nat) (N:List (Str×Int)) (lvs:List (Key×V)) (L:List (Str×LRow)),vs=[v,.ref m,.ref n]∧Held H C.toD v∧wayOk C∧H m=some (.dK (nKV N))∧H n=some (.dK lvs)∧RP (LF H k) lvs L∧k≤100∧
 ∀ b H',Same H H'→(b=true↔C.Tru N L)→Q (.bl b) H'
theorem lf_get {H H3:Hp} {k:Nat} {lvs:List (Key×V)} {L:List (Str×LRow)} {r:Str} {z1 z2 z3:Addr} (hV:RP (LF H k) lvs L) (s:Same H H3) (e1:H3 z1=some (.tup [])) (e2:H3 z2=some (.tup [])) (e3:H3 z3=some (.tup [.int 0,.ref z1,.ref z2])):LF H3 k (lrow L r) ((valV lvs (Sum.inr r)).getD (.ref z3)):=by
 unfold lrow
 rcases hV.val r with ⟨f1,f2⟩ | ⟨u,lq,f1,f2,f3⟩
 ·rw [f1,f2]
  exact ⟨held_tup e3 (heldL_cons held_int (heldL_cons (held_tup e1 heldL_nil) (heldL_cons (held_tup e2 heldL_nil) heldL_nil))),List.Pairwise.nil,Nat.zero_le _,Nat.zero_le _⟩
 ·rw [f1,f2];exact f3.tk (TK.same s)
section
variable {P:Program} {w:World} {K:PySem.W.Frag} {mg:Str→Option Value} {base:Heap}
theorem ok_points {f:Addr} {fd:FuncData} (F:Fun K "_law_points" "_law_points" sPoints f fd) (B:Free0 mg):FnOk P w K mg base CX0 1 f fd ["_law_some","_law_t","_law_u"] spPoints:=by
 have sc:FnScope ["_law_some","_law_t","_law_u","_law_places","_law_row"] ["_law_some","_law_t","_law_u"] (defScope sPoints):=⟨rfl,rfl,rfl,by decide +kernel,rfl,by decide +kernel,by decide +kernel⟩
 refine F.ok sc (fun vs H Q E h=>?_) (fun cdv A outer s H vs Q E hr h=>?_)
 ·obtain ⟨t,u,h,hs,qs,rfl,_⟩:=h
  rfl
 obtain ⟨t,u,h,hs,qs,rfl,hh,hq,hb,h2,q⟩:=h
 refine ⟨_,(pss_cons (ps_set (i:=3) sc.nd rfl (by first | exact Or.inl rfl | exact Or.inr rfl) (pe_lst (pa_c (pv 1) pa_nil)))
   (pss_cons (ps_for PassesOwn.never rfl (pi_list (pv 0)) (pg_name (i:=4) sc.nd rfl (by first | exact Or.inl rfl | exact Or.inr rfl)) (pss_cons (ps_expr (pe_bm PySem.F.plainAttrs_list PySem.F.slot_list_extend PySem.F.type_list_extend mt_extend (pv 3) (pa_c (pe_comp ["_law_at","_law_number_here"] [1,2] rfl (comp_ok (sc:=defScope sPoints) (N:=["_law_some","_law_t","_law_u","_law_places","_law_row"]) rfl rfl (by decide +kernel)) (pi_tup (pe_ix ix_tup (pv 4) pe_int (fun _ _=>rfl))) (fun s H ex=>⟨(pg_tupK (K:=K) (n:=2) rfl (pgs_cons (pg_name (i:=0) (show List.Nodup (["_law_at","_law_number_here","_law_t","_law_u"]:List Str) by decide +kernel) rfl (by first | exact Or.inl rfl | exact Or.inr rfl)) (pgs_cons (pg_name (i:=1) (show List.Nodup (["_law_at","_law_number_here","_law_t","_law_u"]:List Str) by decide +kernel) rfl (by first | exact Or.inl rfl | exact Or.inr rfl)) pgs_nil))),(pts_one (pt_chain op_lt op_le (pv 2) (pv 0) (pv 3))),(pv 0)⟩)) pa_nil)))
   (pss_cons (ps_expr (pe_bm PySem.F.plainAttrs_list PySem.F.slot_list_extend PySem.F.type_list_extend mt_extend (pv 3) (pa_c (pe_comp ["_law_at","_law_number_here"] [1,2] rfl (comp_ok (sc:=defScope sPoints) (N:=["_law_some","_law_t","_law_u","_law_places","_law_row"]) rfl rfl (by decide +kernel)) (pi_tup (pe_ix ix_tup (pv 4) pe_int (fun _ _=>rfl))) (fun s H ex=>⟨(pg_tupK (K:=K) (n:=2) rfl (pgs_cons (pg_name (i:=0) (show List.Nodup (["_law_at","_law_number_here","_law_t","_law_u"]:List Str) by decide +kernel) rfl (by first | exact Or.inl rfl | exact Or.inr rfl)) (pgs_cons (pg_name (i:=1) (show List.Nodup (["_law_at","_law_number_here","_law_t","_law_u"]:List Str) by decide +kernel) rfl (by first | exact Or.inl rfl | exact Or.inr rfl)) pgs_nil))),(pts_one (pt_chain op_lt op_le (pv 2) (pv 0) (pv 3))),(pv 0)⟩)) pa_nil)))
   (pss_one (ps_expr (pe_bm PySem.F.plainAttrs_list PySem.F.slot_list_extend PySem.F.type_list_extend mt_extend (pv 3) (pa_c (pe_comp ["_law_at","_law_number_here"] [1,2] rfl (comp_ok (sc:=defScope sPoints) (N:=["_law_some","_law_t","_law_u","_law_places","_law_row"]) rfl rfl (by decide +kernel)) (pi_tup (pe_ix ix_tup (pv 4) pe_int (fun _ _=>rfl))) (fun s H ex=>⟨(pg_tupK (K:=K) (n:=2) rfl (pgs_cons (pg_name (i:=0) (show List.Nodup (["_law_at","_law_number_here","_law_t","_law_u"]:List Str) by decide +kernel) rfl (by first | exact Or.inl rfl | exact Or.inr rfl)) (pgs_cons (pg_name (i:=1) (show List.Nodup (["_law_at","_law_number_here","_law_t","_law_u"]:List Str) by decide +kernel) rfl (by first | exact Or.inl rfl | exact Or.inr rfl)) pgs_nil))),(pts_one (pt_chain op_lt op_le (pv 2) (pe_op op_add (pv 0) pe_int) (pv 3))),(pe_op op_add (pv 0) pe_int)⟩)) pa_nil)))))))
   (pss_one (ps_ret (pe_cB (call_sorted_setM (P:=P) (w:=w) rfl) (by rfl) B.sorted_ bt_sorted (pa_c (pe_cT (call_set_intsP (P:=P) (w:=w) rfl) (by rfl) B.set_ bt_set (pa_c (pv 3) pa_nil)) pa_nil)))))),?_⟩
 have hlr:hs.length=qs.length:=by
  have:=hq.length
  rw [List.length_map] at this
  exact this.symm
 have hfl:=flat_le (t:=t) (u:=u) hb
 refine ⟨_,rfl,sm rfl,fun l hl=>?_⟩
 have s1:=same_new hl (.lst [V.int t])
 have e1:upd H l (.lst [V.int t]) l=some (.lst [V.int t]):=upd_same
 generalize upd H l (.lst [V.int t])=H1 at *
 have hh1:=s1 _ _ hh
 refine ⟨_,rfl,h,rfl,⟨_,SqL.of hh1⟩,for_list (xs:=hs) (fun i σ G=>∃ u1,σ=[some (.ref h),some (.int t),some (.int u),some (.ref l),u1]∧Same H G∧
  G l=some (.lst ((t :: (qs.take i).flatMap (ptsOf t u)).map V.int))) ⟨none,rfl,s1,e1⟩ ?_ ?_ ?_⟩
 ·rintro i σ G _ ⟨u1,rfl,sG,_⟩
  exact SqL.of (sG _ _ hh)
 ·rintro i y σ G hy ⟨u1,rfl,sG,hGl⟩
  have hi:i < qs.length:=by
   have:=(List.getElem?_eq_some_iff.mp hy).1
   omega
  obtain ⟨y',f1,f2⟩:=hq.get (j:=i) (d:=lrowD qs[i]) (by rw [List.getElem?_map,List.getElem?_eq_getElem hi];rfl)
  rw [hy] at f1
  cases f1
  have etake:=flat_take (t:=t) (u:=u) hi
  have hbi:=hb qs[i] (List.getElem_mem hi)
  have hlen0:((qs.take i).flatMap (ptsOf t u)).length≤240:=by
   have:=flat_le (t:=t) (u:=u) (qs:=qs.take i) (fun q hq=>hb q (List.mem_of_mem_take hq))
   rw [List.length_take] at this
   omega
  rw [etake]
  generalize (qs.take i).flatMap (ptsOf t u)=AP at *
  generalize qs[i]=r at *
  obtain ⟨b,ps,ws⟩:=r
  dsimp only at hbi
  obtain ⟨a,c,e,us,vs,rfl,ha,hc,hus,he,hvs⟩:=lrow_inv (f2.mono sG)
  dsimp only at ha hus hvs
  have hq1:=steps_held (K:=K) hus
  have hq2:=steps_held (K:=K) hvs
  have hlen1:=hq1.1
  have hlen2:=hq2.1
  refine ⟨_,rfl,.inl ⟨rfl,_,SqL.of hGl⟩,_,rfl,a,_,_,_,rfl,rfl,SqT.of ha,rfl,c,rfl,⟨_,SqT.of hc⟩,fun p hp=>?_⟩
  have s2:=same_new hp (.lst [])
  refine comp_tup (xs:=us) (fun i σ' G'=>∃ u3 u4,σ'=[u3,u4,some (.int t),some (.int u)]∧Same G G'∧G' p=some (.lst ((((ps.take i).filter fun z=>inTU t u z.1).map (·.1)).map V.int))) ⟨none,none,rfl,s2,upd_same⟩ ?_ ?_ ?_
  ·rintro i σ' G' _ ⟨u3,u4,rfl,sG',_⟩
   exact SqT.of (sG' _ _ hc)
  ·rintro i x σ' G' hx ⟨u3,u4,rfl,sG',hGp⟩
   have hi:i < ps.length:=by
    rw [← hlen1]
    exact (List.getElem?_eq_some_iff.mp hx).1
   obtain ⟨z,f1,f2⟩:=hq1.2 i hi
   rw [hx] at f1
   cases f1
   have et:=filt_take (p:=fun z:Int×Int=>inTU t u z.1) hi
   have hle:((ps.take i).filter fun z=>inTU t u z.1).length≤40:=Nat.le_trans (List.length_filter_le _ _) (by rw [List.length_take];omega)
   generalize ps[i]=zz at *
   refine ⟨z,_,rfl,sG'.sqT f2,rfl,_,_,rfl,_,_,rfl,rfl,?_⟩
   refine ⟨_,rfl,_,rfl,_,_,rfl,rfl,_,rfl,?_⟩
   by_cases c1:t < zz.1
   ·rw [decide_eq_true c1]
    refine iteT ?_
    refine ⟨_,rfl,_,_,rfl,rfl,_,rfl,?_⟩
    by_cases c2:zz.1≤u
    ·rw [decide_eq_true c2]
     refine iteT ?_
     rw [if_pos (inTU_iff.mpr ⟨c1,c2⟩)] at et
     refine ⟨_,rfl,_,hGp,?_,_,_,rfl,?_,?_⟩
     ·rw [List.length_map,List.length_map]
      exact small1000 (by omega)
     ·intro c o e
      rw [upd_ne (ne_of_none e hp)]
      exact sG' _ _ e
     ·rw [upd_same,et,List.map_append,List.map_append]
      rfl
    ·rw [decide_eq_false c2]
     refine iteF ?_
     rw [if_neg (fun z=>c2 (inTU_iff.mp z).2),List.append_nil] at et
     exact ⟨_,_,rfl,sG',by rw [et];exact hGp⟩
   ·rw [decide_eq_false c1]
    refine iteF ?_
    refine ⟨_,rfl,iteF ?_⟩
    rw [if_neg (fun z=>c1 (inTU_iff.mp z).1),List.append_nil] at et
    exact ⟨_,_,rfl,sG',by rw [et];exact hGp⟩
  rintro σ' G1 ⟨u3,u4,rfl,sG1,hGp⟩
  rw [hlen1,List.take_length] at hGp
  have hll:=sG1 _ _ hGl
  have hl1:((ps.filter fun z=>inTU t u z.1).map (·.1)).length≤40:=by
   rw [List.length_map]
   exact Nat.le_trans (List.length_filter_le _ _) (by omega)
  refine ⟨l,p,_,_,rfl,rfl,hll,hGp,?_,?_⟩
  ·rw [List.length_map,List.length_map,List.length_cons]
   exact Nat.le_of_lt (small1000 (by omega))
  have k1:∀ b o,H b=some o→upd G1 l (.lst (((t :: AP).map V.int)++((ps.filter fun z=>inTU t u z.1).map (·.1)).map V.int)) b=some o:=fun b o e=>by
   rw [upd_ne (ne_of_none e hl)]
   exact sG1 _ _ (sG _ _ e)
  have a1:∀ {b:Addr} {xs:List V},G b=some (.tup xs)→upd G1 l (.lst (((t :: AP).map V.int)++((ps.filter fun z=>inTU t u z.1).map (·.1)).map V.int)) b=some (.tup xs):=fun e=>by
   rw [upd_ne (ne_of (sG1 _ _ e) hll (by intro z;cases z))]
   exact sG1 _ _ e
  have q2a:StepsAt K (upd G1 l (.lst (((t :: AP).map V.int)++((ps.filter fun z=>inTU t u z.1).map (·.1)).map V.int))) vs ws:=⟨hq2.1,fun i hi=>by
   obtain ⟨c,f1,f2⟩:=hq2.2 i hi
   exact ⟨c,f1,sqT_upd hll (sG1.sqT f2)⟩⟩
  have g1:upd G1 l (.lst (((t :: AP).map V.int)++((ps.filter fun z=>inTU t u z.1).map (·.1)).map V.int)) l=some (.lst ((t :: (AP++(ps.filter fun z=>inTU t u z.1).map (·.1))).map V.int)):=by rw [upd_same,← List.map_append];rfl
  generalize upd G1 l (.lst (((t :: AP).map V.int)++((ps.filter fun z=>inTU t u z.1).map (·.1)).map V.int))=G2 at *
  have ha2:=a1 ha
  have he2:=a1 he
  clear a1 hll hGp hGl
  generalize hx1:(ps.filter fun z=>inTU t u z.1).map (·.1)=X1 at *
  refine ⟨_,rfl,.inl ⟨rfl,_,SqL.of g1⟩,_,rfl,a,_,_,_,rfl,rfl,SqT.of ha2,rfl,e,rfl,⟨_,SqT.of he2⟩,fun p2 hp2=>?_⟩
  have s3:=same_new hp2 (.lst [])
  refine comp_tup (xs:=vs) (fun i σ' G'=>∃ u3 u4,σ'=[u3,u4,some (.int t),some (.int u)]∧Same G2 G'∧G' p2=some (.lst ((((ws.take i).filter fun z=>inTU t u z.1).map (·.1)).map V.int))) ⟨none,none,rfl,s3,upd_same⟩ ?_ ?_ ?_
  ·rintro i σ' G' _ ⟨u3,u4,rfl,sG',_⟩
   exact SqT.of (sG' _ _ he2)
  ·rintro i x σ' G' hx ⟨u3,u4,rfl,sG',hGp⟩
   have hi:i < ws.length:=by
    rw [← hlen2]
    exact (List.getElem?_eq_some_iff.mp hx).1
   obtain ⟨z,f1,f2⟩:=q2a.2 i hi
   rw [hx] at f1
   cases f1
   have et:=filt_take (p:=fun z:Int×Int=>inTU t u z.1) hi
   have hle:((ws.take i).filter fun z=>inTU t u z.1).length≤100:=Nat.le_trans (List.length_filter_le _ _) (by rw [List.length_take];omega)
   generalize ws[i]=zz at *
   refine ⟨z,_,rfl,sG'.sqT f2,rfl,_,_,rfl,_,_,rfl,rfl,?_⟩
   refine ⟨_,rfl,_,rfl,_,_,rfl,rfl,_,rfl,?_⟩
   by_cases c1:t < zz.1
   ·rw [decide_eq_true c1]
    refine iteT ?_
    refine ⟨_,rfl,_,_,rfl,rfl,_,rfl,?_⟩
    by_cases c2:zz.1≤u
    ·rw [decide_eq_true c2]
     refine iteT ?_
     rw [if_pos (inTU_iff.mpr ⟨c1,c2⟩)] at et
     refine ⟨_,rfl,_,hGp,?_,_,_,rfl,?_,?_⟩
     ·rw [List.length_map,List.length_map]
      exact small1000 (by omega)
     ·intro c o e
      rw [upd_ne (ne_of_none e hp2)]
      exact sG' _ _ e
     ·rw [upd_same,et,List.map_append,List.map_append]
      rfl
    ·rw [decide_eq_false c2]
     refine iteF ?_
     rw [if_neg (fun z=>c2 (inTU_iff.mp z).2),List.append_nil] at et
     exact ⟨_,_,rfl,sG',by rw [et];exact hGp⟩
   ·rw [decide_eq_false c1]
    refine iteF ?_
    refine ⟨_,rfl,iteF ?_⟩
    rw [if_neg (fun z=>c1 (inTU_iff.mp z).1),List.append_nil] at et
    exact ⟨_,_,rfl,sG',by rw [et];exact hGp⟩
  rintro σ' G3 ⟨u3,u4,rfl,sG3,hGp⟩
  rw [hlen2,List.take_length] at hGp
  have hll:=sG3 _ _ g1
  have hl2:((ws.filter fun z=>inTU t u z.1).map (·.1)).length≤100:=by
   rw [List.length_map]
   exact Nat.le_trans (List.length_filter_le _ _) (by omega)
  refine ⟨l,p2,_,_,rfl,rfl,hll,hGp,?_,?_⟩
  ·rw [List.length_map,List.length_map,List.length_cons,List.length_append]
   exact Nat.le_of_lt (small1000 (by omega))
  have k2:∀ b o,H b=some o→upd G3 l (.lst (((t :: (AP++X1)).map V.int)++((ws.filter fun z=>inTU t u z.1).map (·.1)).map V.int)) b=some o:=fun b o e=>by
   rw [upd_ne (ne_of_none e hl)]
   exact sG3 _ _ (k1 _ _ e)
  have a2:∀ {b:Addr} {xs:List V},G2 b=some (.tup xs)→upd G3 l (.lst (((t :: (AP++X1)).map V.int)++((ws.filter fun z=>inTU t u z.1).map (·.1)).map V.int)) b=some (.tup xs):=fun e=>by
   rw [upd_ne (ne_of (sG3 _ _ e) hll (by intro z;cases z))]
   exact sG3 _ _ e
  have q2b:StepsAt K (upd G3 l (.lst (((t :: (AP++X1)).map V.int)++((ws.filter fun z=>inTU t u z.1).map (·.1)).map V.int))) vs ws:=⟨q2a.1,fun i hi=>by
   obtain ⟨c,f1,f2⟩:=q2a.2 i hi
   exact ⟨c,f1,sqT_upd hll (sG3.sqT f2)⟩⟩
  have g2:upd G3 l (.lst (((t :: (AP++X1)).map V.int)++((ws.filter fun z=>inTU t u z.1).map (·.1)).map V.int)) l=some (.lst ((t :: (AP++X1++(ws.filter fun z=>inTU t u z.1).map (·.1))).map V.int)):=by rw [upd_same,← List.map_append];rfl
  generalize upd G3 l (.lst (((t :: (AP++X1)).map V.int)++((ws.filter fun z=>inTU t u z.1).map (·.1)).map V.int))=G4 at *
  have ha3:=a2 ha2
  have he3:=a2 he2
  clear a2 hll hGp g1
  generalize hx2:(ws.filter fun z=>inTU t u z.1).map (·.1)=X2 at *
  refine ⟨_,rfl,.inl ⟨rfl,_,SqL.of g2⟩,_,rfl,a,_,_,_,rfl,rfl,SqT.of ha3,rfl,e,rfl,⟨_,SqT.of he3⟩,fun p3 hp3=>?_⟩
  have s4:=same_new hp3 (.lst [])
  refine comp_tup (xs:=vs) (fun i σ' G'=>∃ u3 u4,σ'=[u3,u4,some (.int t),some (.int u)]∧Same G4 G'∧G' p3=some (.lst ((((ws.take i).filter fun z=>inTU t u (z.1+1)).map fun z=>z.1+1).map V.int))) ⟨none,none,rfl,s4,upd_same⟩ ?_ ?_ ?_
  ·rintro i σ' G' _ ⟨u3,u4,rfl,sG',_⟩
   exact SqT.of (sG' _ _ he3)
  ·rintro i x σ' G' hx ⟨u3,u4,rfl,sG',hGp⟩
   have hi:i < ws.length:=by
    rw [← hlen2]
    exact (List.getElem?_eq_some_iff.mp hx).1
   obtain ⟨z,f1,f2⟩:=q2b.2 i hi
   rw [hx] at f1
   cases f1
   have et:=filt_take (p:=fun z:Int×Int=>inTU t u (z.1+1)) hi
   have hle:((ws.take i).filter fun z=>inTU t u (z.1+1)).length≤100:=Nat.le_trans (List.length_filter_le _ _) (by rw [List.length_take];omega)
   generalize ws[i]=zz at *
   refine ⟨z,_,rfl,sG'.sqT f2,rfl,_,_,rfl,_,_,rfl,rfl,?_⟩
   refine ⟨_,rfl,_,rfl,_,_,rfl,rfl,_,_,rfl,rfl,_,rfl,?_⟩
   by_cases c1:t < zz.1+1
   ·rw [decide_eq_true c1]
    refine iteT ?_
    refine ⟨_,rfl,_,_,rfl,rfl,_,rfl,?_⟩
    by_cases c2:zz.1+1≤u
    ·rw [decide_eq_true c2]
     refine iteT ?_
     rw [if_pos (inTU_iff.mpr ⟨c1,c2⟩)] at et
     refine ⟨_,rfl,_,_,rfl,rfl,_,hGp,?_,_,_,rfl,?_,?_⟩
     ·rw [List.length_map,List.length_map]
      exact small1000 (by omega)
     ·intro c o e
      rw [upd_ne (ne_of_none e hp3)]
      exact sG' _ _ e
     ·rw [upd_same,et,List.map_append,List.map_append]
      rfl
    ·rw [decide_eq_false c2]
     refine iteF ?_
     rw [if_neg (fun z=>c2 (inTU_iff.mp z).2),List.append_nil] at et
     exact ⟨_,_,rfl,sG',by rw [et];exact hGp⟩
   ·rw [decide_eq_false c1]
    refine iteF ?_
    refine ⟨_,rfl,iteF ?_⟩
    rw [if_neg (fun z=>c1 (inTU_iff.mp z).1),List.append_nil] at et
    exact ⟨_,_,rfl,sG',by rw [et];exact hGp⟩
  rintro σ' G5 ⟨u3,u4,rfl,sG5,hGp⟩
  rw [hlen2,List.take_length] at hGp
  have hll:=sG5 _ _ g2
  have hl3:((ws.filter fun z=>inTU t u (z.1+1)).map fun z=>z.1+1).length≤100:=by
   rw [List.length_map]
   exact Nat.le_trans (List.length_filter_le _ _) (by omega)
  refine ⟨l,p3,_,_,rfl,rfl,hll,hGp,?_,?_⟩
  ·rw [List.length_map,List.length_map,List.length_cons,List.length_append,List.length_append]
   exact Nat.le_of_lt (small1000 (by omega))
  refine ⟨_,rfl,fun b o e=>?_,?_⟩
  ·rw [upd_ne (ne_of_none e hl)]
   exact sG5 _ _ (k2 _ _ e)
  ·rw [upd_same,← List.map_append]
   unfold ptsOf
   dsimp only
   rw [hx1,hx2,List.cons_append,List.append_assoc,List.append_assoc,List.append_assoc]
 ·rintro σ G ⟨u1,rfl,sG,hGl⟩
  rw [hlr,List.take_length] at hGl
  have hpo:=fun ns=>points_ok (t:=t) (u:=u) (qs:=qs) (ns:=ns)
  generalize qs.flatMap (ptsOf t u)=AP at *
  refine ⟨_,rfl,l,_,rfl,SqL.of hGl,?_,fun v hv=>?_⟩
  ·rw [List.length_cons]
   omega
  have s2:=same_new hv (setP P w v (dedup (t :: AP)))
  obtain ⟨d1,d2,d3⟩:=dedup_ok (t :: AP)
  have hdl:(dedup (t :: AP)).length≤481:=by
   rw [List.length_cons] at d2
   omega
  refine ⟨v,_,rfl,upd_same,by omega,fun l2 ns hl2 hperm hsort=>?_⟩
  have s3:=same_new hl2 (.lst (ns.map V.int))
  exact q l2 ns _ (sG.trans (s2.trans s3)) upd_same (hpo ns hperm hsort) (by rw [hperm.length_eq];exact hdl)
end
open PySem L2
theorem bnd_ge {v b:Int}:bnd ">=" v b=decide (b≤v):=by unfold bnd;rw [if_pos rfl]
theorem bnd_le {v b:Int}:bnd "<=" v b=decide (v≤b):=by unfold bnd;rw [if_neg (by decide)]
theorem gaps_all {f g:Int→Int} {t u c:Int} {gs:List Int} {way:Str} (h:GapsOf f g t u gs) (p:Int→Bool) (hp:∀ x k,x=f k - g k→(p x=true↔bnd way (f k) (g k+c)=true)):(gs.map p).all id=true↔∀ k,t≤k→k≤u→bnd way (f k) (g k+c)=true:=by
 rw [List.all_map,List.all_eq_true]
 constructor
 ·intro a k h1 h2
  obtain ⟨x,hx,e⟩:=h.1 k h1 h2
  exact (hp x k e).mp (a x hx)
 ·intro a x hx
  obtain ⟨k,h1,h2,e⟩:=h.2 x hx
  exact (hp x k e).mpr (a k h1 h2)
section
variable {P:Program} {w:World} {K:PySem.W.Frag} {mg:Str→Option Value} {base:Heap}
theorem ok_gaps {f:Addr} {fd:FuncData} (F:Fun K "_law_gaps" "_law_gaps" sGaps f fd) (F_number:Fn P w K mg base 1 "_law_number" ["_law_x","_law_numbers"] spNumber_at) (F_holds:Fn P w K mg base 1 "_law_holds" ["_law_row","_law_place_here"] (spHoldsL K)) (F_points:Fn P w K mg base 1 "_law_points" ["_law_some","_law_t","_law_u"] spPoints):FnOk P w K mg base CX0 2 f fd ["_law_claim_here","_law_numbers","_law_rows"] spGaps:=by
 have sc:FnScope ["_law_claim_here","_law_numbers","_law_rows","_law_t","_law_u","_law_row","_law_other"] ["_law_claim_here","_law_numbers","_law_rows"] (defScope sGaps):=⟨rfl,rfl,rfl,by decide +kernel,rfl,by decide +kernel,by decide +kernel⟩
 refine F.ok sc (fun vs H Q E h=>?_) (fun cdv A outer s H vs Q E hr h=>?_)
 ·obtain ⟨v,tx,ux,r,way,kd,x,td,ud,c,m,n,k,N,lvs,L,rfl,_⟩:=h
  rfl
 obtain ⟨v,tx,ux,r,way,kd,x,td,ud,c,m,n,k,N,lvs,L,rfl,hv,hm,hn,hV,hk,q⟩:=h
 have hu:=hu_of hr
 obtain ⟨a,b,e,o,rfl,ha,hb,he,ho⟩:=ea_inv hv
 refine ⟨_,(pss_cons (ps_set (i:=3) sc.nd rfl (by first | exact Or.inl rfl | exact Or.inr rfl) (pe_op op_add (pe_fn F_number hr (pa_c (pe_ix ix_tup (pe_ix ix_tup (pv 0) pe_int (fun _ _=>rfl)) pe_int (fun _ _=>rfl)) (pa_c (pv 1) pa_nil))) (pe_ix ix_tup (pe_ix ix_tup (pv 0) pe_int (fun _ _=>rfl)) pe_int (fun _ _=>rfl))))
   (pss_cons (ps_set (i:=4) sc.nd rfl (by first | exact Or.inl rfl | exact Or.inr rfl) (pe_op op_add (pe_fn F_number hr (pa_c (pe_ix ix_tup (pe_ix ix_tup (pv 0) pe_int (fun _ _=>rfl)) pe_int (fun _ _=>rfl)) (pa_c (pv 1) pa_nil))) (pe_ix ix_tup (pe_ix ix_tup (pv 0) pe_int (fun _ _=>rfl)) pe_int (fun _ _=>rfl))))
   (pss_cons (ps_set (i:=5) sc.nd rfl (by first | exact Or.inl rfl | exact Or.inr rfl) (pe_dget2 hu (pv 2) (pe_ix ix_tup (pv 0) pe_int (fun _ _=>rfl)) (pe_tup (pa_c pe_int (pa_c (pe_tup pa_nil) (pa_c (pe_tup pa_nil) pa_nil)))) ⟨rfl,rfl,rfl,rfl⟩))
   (pss_cons (ps_set (i:=6) sc.nd rfl (by first | exact Or.inl rfl | exact Or.inr rfl) (pe_tup (pa_c (pe_fn F_number hr (pa_c (pe_ix ix_tup (pe_ix ix_tup (pv 0) pe_int (fun _ _=>rfl)) pe_int (fun _ _=>rfl)) (pa_c (pv 1) pa_nil))) (pa_c (pe_tup pa_nil) (pa_c (pe_tup pa_nil) pa_nil)))))
   (pss_cons (ps_join (ps_if (pt_cmpR op_eq (pe_ix ix_tup (pe_ix ix_tup (pv 0) pe_int (fun _ _=>rfl)) pe_int (fun _ _=>rfl)) pe_str (nomark _)) (pss_one (ps_set (i:=6) sc.nd rfl (by first | exact Or.inl rfl | exact Or.inr rfl) (pe_dget2 hu (pv 2) (pe_ix ix_tup (pe_ix ix_tup (pv 0) pe_int (fun _ _=>rfl)) pe_int (fun _ _=>rfl)) (pe_tup (pa_c pe_int (pa_c (pe_tup pa_nil) (pa_c (pe_tup pa_nil) pa_nil)))) ⟨rfl,rfl,rfl,rfl⟩))) pss_nil))
   (pss_one (ps_ret (pe_comp ["_law_at"] [3,4,5,6] rfl (comp_ok (sc:=defScope sGaps) (N:=["_law_claim_here","_law_numbers","_law_rows","_law_t","_law_u","_law_row","_law_other"]) rfl rfl (by decide +kernel)) (pi_list (pe_fn F_points hr (pa_c (pe_lst (pa_c (pv 5) (pa_c (pv 6) pa_nil))) (pa_c (pv 3) (pa_c (pv 4) pa_nil))))) (fun s H ex=>⟨(pg_name (i:=0) (show List.Nodup (["_law_at","_law_t","_law_u","_law_row","_law_other"]:List Str) by decide +kernel) rfl (by first | exact Or.inl rfl | exact Or.inr rfl)),(pts_one (pt_cmpR op_le (pv 1) (pv 2) (nomark _))),(pe_op op_sub (pe_fn F_holds hr (pa_c (pv 3) (pa_c (pv 0) pa_nil))) (pe_fn F_holds hr (pa_c (pv 4) (pa_c (pv 0) pa_nil))))⟩))))))))),?_⟩
 refine ⟨_,rfl,a,_,_,_,rfl,rfl,SqT.of ha,rfl,b,_,_,_,rfl,rfl,SqT.of hb,rfl,_,rfl,tx,m,N,rfl,hm,?_⟩
 refine ⟨_,rfl,a,_,_,_,rfl,rfl,SqT.of ha,rfl,b,_,_,_,rfl,rfl,SqT.of hb,rfl,_,_,rfl,rfl,?_⟩
 refine ⟨_,rfl,a,_,_,_,rfl,rfl,SqT.of ha,rfl,e,_,_,_,rfl,rfl,SqT.of he,rfl,_,rfl,ux,m,N,rfl,hm,?_⟩
 refine ⟨_,rfl,a,_,_,_,rfl,rfl,SqT.of ha,rfl,e,_,_,_,rfl,rfl,SqT.of he,rfl,_,_,rfl,rfl,?_⟩
 dsimp only
 generalize numA N tx+td=t at *
 generalize numA N ux+ud=u at *
 refine ⟨_,rfl,n,rfl,.inl ⟨_,.inl hn⟩,_,rfl,a,_,_,_,rfl,rfl,SqT.of ha,rfl,?_⟩
 refine ⟨sm rfl,fun z1 hz1=>?_⟩
 have s1:=same_new hz1 (.tup [])
 have e1:upd H z1 (.tup []) z1=some (.tup []):=upd_same
 generalize upd H z1 (.tup [])=H1 at *
 refine ⟨sm rfl,fun z2 hz2=>?_⟩
 have s2:=same_new hz2 (.tup [])
 have e2:upd H1 z2 (.tup []) z2=some (.tup []):=upd_same
 generalize upd H1 z2 (.tup [])=H2 at *
 refine ⟨sm rfl,fun z3 hz3=>?_⟩
 have s3:=same_new hz3 (.tup [V.int 0,V.ref z1,V.ref z2])
 have e3:upd H2 z3 (.tup [V.int 0,V.ref z1,V.ref z2]) z3=some (.tup [V.int 0,V.ref z1,V.ref z2]):=upd_same
 generalize upd H2 z3 (.tup [V.int 0,V.ref z1,V.ref z2])=H3 at *
 have s13:=s1.trans (s2.trans s3)
 refine ⟨_,DGet.k (k:=Sum.inr r) (s13 _ _ hn),?_⟩
 have hrow:=lf_get (r:=r) hV s13 ((s2.trans s3) _ _ e1) (s3 _ _ e2) e3
 generalize (valV lvs (Sum.inr r)).getD (.ref z3)=rv at *
 generalize lrow L r=lq at *
 clear e1 e2 e3 s1 s2 s3 hz1 hz2 hz3
 refine ⟨_,rfl,a,_,_,_,rfl,rfl,SqT.of (s13 _ _ ha),rfl,o,_,_,_,rfl,rfl,SqT.of (s13 _ _ ho),rfl,_,rfl,x,m,N,rfl,s13 _ _ hm,?_⟩
 refine ⟨sm rfl,fun z4 hz4=>?_⟩
 have s4:=same_new hz4 (.tup [])
 have e4:upd H3 z4 (.tup []) z4=some (.tup []):=upd_same
 generalize upd H3 z4 (.tup [])=H4 at *
 refine ⟨sm rfl,fun z5 hz5=>?_⟩
 have s5:=same_new hz5 (.tup [])
 have e5:upd H4 z5 (.tup []) z5=some (.tup []):=upd_same
 generalize upd H4 z5 (.tup [])=H5 at *
 refine ⟨sm rfl,fun z6 hz6=>?_⟩
 have s6:=same_new hz6 (.tup [V.int (numA N x),V.ref z4,V.ref z5])
 have e6:upd H5 z6 (.tup [V.int (numA N x),V.ref z4,V.ref z5]) z6=some (.tup [V.int (numA N x),V.ref z4,V.ref z5]):=upd_same
 generalize upd H5 z6 (.tup [V.int (numA N x),V.ref z4,V.ref z5])=H6 at *
 have s46:=s4.trans (s5.trans s6)
 have s16:=s13.trans s46
 have hrow6:=hrow.tk (TK.same s46)
 have hoth:LF H6 k (numA N x,[],[]) (.ref z6):=⟨held_tup e6 (heldL_cons held_int (heldL_cons (held_tup ((s5.trans s6) _ _ e4) heldL_nil) (heldL_cons (held_tup (s6 _ _ e5) heldL_nil) heldL_nil))),List.Pairwise.nil,Nat.zero_le _,Nat.zero_le _⟩
 clear e4 e5 e6 s4 s5 s6 hz4 hz5 hz6 hrow
 refine ⟨fun σ G=>∃ ov oq,σ=[some (.ref a),some (.ref m),some (.ref n),some (.int t),some (.int u),some rv,some ov]∧Same H6 G∧LF G k oq ov∧∀ z,heldW oq z=othV N L kd x z,?_,?_⟩
 ·refine ⟨_,rfl,a,_,_,_,rfl,rfl,SqT.of (s16 _ _ ha),rfl,o,_,_,_,rfl,rfl,SqT.of (s16 _ _ ho),rfl,rfl,_,rfl,ite2 (fun d=>?_) (fun d=>?_)⟩
  ·have d':kd = "row":=by
    have:=of_decide_eq_true d
    injection this
   refine ⟨_,rfl,n,rfl,.inl ⟨_,.inl (s16 _ _ hn)⟩,_,rfl,a,_,_,_,rfl,rfl,SqT.of (s16 _ _ ha),rfl,o,_,_,_,rfl,rfl,SqT.of (s16 _ _ ho),rfl,?_⟩
   refine ⟨sm rfl,fun z1 hz1=>?_⟩
   have s1:=same_new hz1 (.tup [])
   have e1:upd H6 z1 (.tup []) z1=some (.tup []):=upd_same
   generalize upd H6 z1 (.tup [])=G1 at *
   refine ⟨sm rfl,fun z2 hz2=>?_⟩
   have s2:=same_new hz2 (.tup [])
   have e2:upd G1 z2 (.tup []) z2=some (.tup []):=upd_same
   generalize upd G1 z2 (.tup [])=G2 at *
   refine ⟨sm rfl,fun z3 hz3=>?_⟩
   have s3:=same_new hz3 (.tup [V.int 0,V.ref z1,V.ref z2])
   have e3:upd G2 z3 (.tup [V.int 0,V.ref z1,V.ref z2]) z3=some (.tup [V.int 0,V.ref z1,V.ref z2]):=upd_same
   generalize upd G2 z3 (.tup [V.int 0,V.ref z1,V.ref z2])=G3 at *
   have t13:=s1.trans (s2.trans s3)
   refine ⟨_,DGet.k (k:=Sum.inr x) ((s16.trans t13) _ _ hn),?_⟩
   have hrow:=lf_get (r:=x) hV (s16.trans t13) ((s2.trans s3) _ _ e1) (s3 _ _ e2) e3
   exact ⟨_,_,rfl,t13,hrow,fun z=>by unfold othV;rw [if_pos d']⟩
  ·have d':¬ kd = "row":=fun e=>d (decide_eq_true (congrArg V.str e))
   exact ⟨_,_,rfl,Same.refl _,hoth,fun z=>by unfold othV;rw [if_neg d'];rfl⟩
 rintro σ G ⟨ov,oq,rfl,sG,hO,hov⟩
 have hR:=hrow6.tk (TK.same sG)
 have sHG:=s16.trans sG
 refine ⟨_,rfl,_,rfl,sm rfl,fun l hl=>?_⟩
 have s1:=same_new hl (.lst [rv,ov])
 have e1:upd G l (.lst [rv,ov]) l=some (.lst [rv,ov]):=upd_same
 generalize upd G l (.lst [rv,ov])=G1 at *
 have hR1:=hR.tk (TK.same s1)
 have hO1:=hO.tk (TK.same s1)
 refine ⟨_,rfl,_,rfl,t,u,l,[rv,ov],[lq,oq],rfl,e1,heldL_cons hR1.1 (heldL_cons hO1.1 heldL_nil),fun z hz=>?_,Nat.le_refl 2,fun l2 ns G2 s2 hl2 hpo hns=>?_⟩
 ·rcases List.mem_cons.mp hz with rfl | hz
  ·exact ⟨hR1.2.2.1,by have:=hR1.2.2.2;omega⟩
  ·rw [List.mem_singleton.mp hz]
   exact ⟨hO1.2.2.1,by have:=hO1.2.2.2;omega⟩
 have hR2:=hR1.tk (TK.same s2)
 have hO2:=hO1.tk (TK.same s2)
 have s02:=sHG.trans (s1.trans s2)
 refine ⟨l2,rfl,⟨_,SqL.of hl2⟩,fun p hp=>?_⟩
 have s3:=same_new hp (.lst [])
 refine comp_list (xs:=ns.map V.int) (fun i σ' G'=>∃ u3,σ'=[u3,some (.int t),some (.int u),some rv,some ov]∧Same G2 G'∧G' p=some (.lst (((if t≤u then (ns.take i) else []).map fun z=>heldW lq z - heldW oq z).map V.int))) ⟨none,rfl,s3,by rw [upd_same];split <;> rfl⟩ ?_ ?_ ?_
 ·rintro i σ' G' _ ⟨u3,rfl,sG',_⟩
  exact SqL.of (sG' _ _ hl2)
 ·rintro i y σ' G' hy ⟨u3,rfl,sG',hGp⟩
  have hi:i < ns.length:=by
   have:=(List.getElem?_eq_some_iff.mp hy).1
   rw [List.length_map] at this
   exact this
  rw [List.getElem?_map,List.getElem?_eq_getElem hi] at hy
  cases hy
  unfold gName
  refine ⟨_,rfl,_,rfl,_,_,rfl,rfl,_,rfl,?_⟩
  by_cases c1:t≤u
  ·rw [decide_eq_true c1]
   refine iteT ?_
   rw [if_pos c1] at hGp ⊢
   refine ⟨_,rfl,_,rfl,_,_,lq,rfl,(hR2.tk (TK.same sG')).1,?_⟩
   refine ⟨_,rfl,_,rfl,_,_,oq,rfl,(hO2.tk (TK.same sG')).1,_,_,rfl,rfl,?_⟩
   refine ⟨_,hGp,?_,_,rfl,?_,?_⟩
   ·rw [List.length_map,List.length_map,List.length_take]
    exact small1000 (by omega)
   ·intro c o e
    rw [upd_ne (ne_of_none e hp)]
    exact sG' _ _ e
   ·rw [upd_same,List.take_succ,List.getElem?_eq_getElem hi,List.map_append,List.map_append]
    rfl
  ·rw [decide_eq_false c1]
   refine iteF ?_
   rw [if_neg c1] at hGp ⊢
   exact ⟨_,rfl,sG',hGp⟩
 rintro σ' G' ⟨u3,rfl,sG',hGp⟩
 rw [List.length_map,List.take_length] at hGp
 have up2:∀ z∈[lq,oq],Rising z.2.1:=fun z hz=>by
  rcases List.mem_cons.mp hz with rfl | hz
  ·exact hR1.2.1
  ·rw [List.mem_singleton.mp hz];exact hO1.2.1
 have hov':heldW oq=othV N L kd x:=funext hov
 refine q p _ G' (s02.trans sG') hGp ⟨fun k h1 h2=>?_,fun y hy=>?_⟩ ?_
 ·rw [if_pos (by omega)]
  obtain ⟨z,hz,a1,a2,_,a4⟩:=points_at hpo up2 h1 h2
  refine ⟨_,List.mem_map.mpr ⟨z,hz,rfl⟩,?_⟩
  rw [a4 lq List.mem_cons_self,← hov',a4 oq (List.mem_cons_of_mem _ (List.mem_singleton.mpr rfl))]
 ·split at hy
  ·next c1=>
   obtain ⟨z,hz,e⟩:=List.mem_map.mp hy
   refine ⟨z,?_,?_,by rw [← e,hov']⟩
   ·rcases (hpo.2 z).mp hz with h | h <;> omega
   ·rcases (hpo.2 z).mp hz with h | h <;> omega
  ·cases hy
 ·split
  ·rw [List.length_map];exact hns
  ·exact Nat.zero_le _
theorem ok_true {f:Addr} {fd:FuncData} (F:Fun K "_law_true" "_law_true" sTrue f fd) (B:Free0 mg) (F_number:Fn P w K mg base 1 "_law_number" ["_law_x","_law_numbers"] spNumber_at) (F_worth:Fn P w K mg base 2 "_law_worth" ["_law_term_here","_law_numbers","_law_rows"] spWorth) (F_holds:Fn P w K mg base 1 "_law_holds" ["_law_row","_law_place_here"] (spHoldsL K)) (F_points:Fn P w K mg base 1 "_law_points" ["_law_some","_law_t","_law_u"] spPoints) (F_gaps:Fn P w K mg base 2 "_law_gaps" ["_law_claim_here","_law_numbers","_law_rows"] spGaps):FnOk P w K mg base CX0 3 f fd ["_law_claim_here","_law_numbers","_law_rows"] spTrue:=by
 have sc:FnScope ["_law_claim_here","_law_numbers","_law_rows","_law_gaps_here","_law_t","_law_u","_law_row","_law_held"] ["_law_claim_here","_law_numbers","_law_rows"] (defScope sTrue):=⟨rfl,rfl,rfl,by decide +kernel,rfl,by decide +kernel,by decide +kernel⟩
 refine F.ok sc (fun vs H Q E h=>?_) (fun cdv A outer s H vs Q E hr h=>?_)
 ·obtain ⟨v,C,m,n,k,N,lvs,L,rfl,_⟩:=h
  rfl
 obtain ⟨v,C,m,n,k,N,lvs,L,rfl,hv,hway,hm,hn,hV,hk,q⟩:=h
 have hu:=hu_of hr
 refine ⟨_,(pss_cons (ps_if (pt_cmpR op_eq (pe_ix ix_tup (pv 0) pe_int (fun _ _=>rfl)) pe_str (nomark _)) (pss_one (ps_ret (pe_cmpR op_ge (pe_fn F_worth hr (pa_c (pe_ix ix_tup (pv 0) pe_int (fun _ _=>rfl)) (pa_c (pv 1) (pa_c (pv 2) pa_nil)))) (pe_op op_add (pe_fn F_worth hr (pa_c (pe_ix ix_tup (pv 0) pe_int (fun _ _=>rfl)) (pa_c (pv 1) (pa_c (pv 2) pa_nil)))) (pe_ix ix_tup (pv 0) pe_int (fun _ _=>rfl))) (nomark _)))) pss_nil)
   (pss_cons (ps_if (pt_cmpR op_eq (pe_ix ix_tup (pv 0) pe_int (fun _ _=>rfl)) pe_str (nomark _)) (pss_cons (ps_set (i:=3) sc.nd rfl (by first | exact Or.inl rfl | exact Or.inr rfl) (pe_fn F_gaps hr (pa_c (pv 0) (pa_c (pv 1) (pa_c (pv 2) pa_nil)))))
   (pss_one (ps_ret (pe_cB (call_all rfl) (by rfl) B.all_ bt_all (pa_c (pe_comp ["_law_gap"] [0] rfl (comp_ok (sc:=defScope sTrue) (N:=["_law_claim_here","_law_numbers","_law_rows","_law_gaps_here","_law_t","_law_u","_law_row","_law_held"]) rfl rfl (by decide +kernel)) (pi_list (pv 3)) (fun s H ex=>⟨(pg_name (i:=0) (show List.Nodup (["_law_gap","_law_claim_here"]:List Str) by decide +kernel) rfl (by first | exact Or.inl rfl | exact Or.inr rfl)),pts_nil,(pe_ix (ix_listK (K:=K)) (pe_lst (pa_c (pe_cmpR op_ge (pv 0) (pe_ix (ix_tupK (K:=K)) (pv 1) pe_int (fun _ _=>rfl)) (nomark _)) (pa_c (pe_cmpR op_le (pv 0) (pe_ix (ix_tupK (K:=K)) (pv 1) pe_int (fun _ _=>rfl)) (nomark _)) pa_nil))) (pe_cT call_int1 (by rfl) B.int_ bt_int (pa_c (pe_cmpR op_eq (pe_ix (ix_tupK (K:=K)) (pv 1) pe_int (fun _ _=>rfl)) pe_str (nomark _)) pa_nil)) (fun _ _=>rfl))⟩)) pa_nil))))) pss_nil)
   (pss_cons (ps_set (i:=4) sc.nd rfl (by first | exact Or.inl rfl | exact Or.inr rfl) (pe_op op_add (pe_fn F_number hr (pa_c (pe_ix ix_tup (pe_ix ix_tup (pv 0) pe_int (fun _ _=>rfl)) pe_int (fun _ _=>rfl)) (pa_c (pv 1) pa_nil))) (pe_ix ix_tup (pe_ix ix_tup (pv 0) pe_int (fun _ _=>rfl)) pe_int (fun _ _=>rfl))))
   (pss_cons (ps_set (i:=5) sc.nd rfl (by first | exact Or.inl rfl | exact Or.inr rfl) (pe_op op_add (pe_fn F_number hr (pa_c (pe_ix ix_tup (pe_ix ix_tup (pv 0) pe_int (fun _ _=>rfl)) pe_int (fun _ _=>rfl)) (pa_c (pv 1) pa_nil))) (pe_ix ix_tup (pe_ix ix_tup (pv 0) pe_int (fun _ _=>rfl)) pe_int (fun _ _=>rfl))))
   (pss_cons (ps_set (i:=6) sc.nd rfl (by first | exact Or.inl rfl | exact Or.inr rfl) (pe_dget2 hu (pv 2) (pe_ix ix_tup (pv 0) pe_int (fun _ _=>rfl)) (pe_tup (pa_c pe_int (pa_c (pe_tup pa_nil) (pa_c (pe_tup pa_nil) pa_nil)))) ⟨rfl,rfl,rfl,rfl⟩))
   (pss_cons (ps_setcomp (i:=7) sc.nd rfl (by first | exact Or.inl rfl | exact Or.inr rfl) ["_law_at"] [4,5,6] rfl (comp_ok (sc:=defScope sTrue) (N:=["_law_claim_here","_law_numbers","_law_rows","_law_gaps_here","_law_t","_law_u","_law_row","_law_held"]) rfl rfl (by decide +kernel)) (pi_list (pe_fn F_points hr (pa_c (pe_lst (pa_c (pv 6) pa_nil)) (pa_c (pv 4) (pa_c (pv 5) pa_nil))))) (fun s H ex=>⟨(pg_name (i:=0) (show List.Nodup (["_law_at","_law_t","_law_u","_law_row"]:List Str) by decide +kernel) rfl (by first | exact Or.inl rfl | exact Or.inr rfl)),(pts_one (pt_cmpR op_le (pv 1) (pv 2) (nomark _))),(pe_fn F_holds hr (pa_c (pv 3) (pa_c (pv 0) pa_nil)))⟩))
   (pss_one (ps_ret (pe_cmpR (op_eqInts hu) (pv 7) (pe_cB call_sorted_intsM (by rfl) B.sorted_ bt_sorted (pa_c (pv 7) pa_nil)) (nomark _)))))))))),?_⟩
 cases C with
 | least ta tb c=>
  obtain ⟨a,u,z,rfl,ha,hu',hz⟩:=le_inv hv
  refine ⟨_,rfl,a,_,_,_,rfl,rfl,SqT.of ha,rfl,rfl,_,rfl,?_⟩
  rw [decide_eq_true rfl]
  refine iteT ?_
  refine ⟨_,rfl,a,_,_,_,rfl,rfl,SqT.of ha,rfl,_,rfl,_,rfl,u,ta,m,n,k,N,lvs,L,rfl,hu',hm,hn,hV,fun H1 s1=>?_⟩
  refine ⟨_,rfl,a,_,_,_,rfl,rfl,SqT.of (s1 _ _ ha),rfl,_,rfl,_,rfl,z,tb,m,n,k,N,lvs,L,rfl,hz.mono s1,s1 _ _ hm,s1 _ _ hn,RP.imp (fun _ _ h=>LF.tk (TK.same s1) h) hV,fun H2 s2=>?_⟩
  exact ⟨_,rfl,a,_,_,_,rfl,rfl,SqT.of ((s1.trans s2) _ _ ha),rfl,_,_,rfl,rfl,_,_,rfl,rfl,q _ _ (s1.trans s2) decide_eq_true_iff⟩
 | each tx td ux ud r way kd x c=>
  obtain ⟨a,b,e,o,rfl,ha,hb,he,ho⟩:=ea_inv hv
  refine ⟨_,rfl,a,_,_,_,rfl,rfl,SqT.of ha,rfl,rfl,_,rfl,?_⟩
  rw [decide_eq_false (by decide)]
  refine iteF ?_
  refine ⟨_,rfl,a,_,_,_,rfl,rfl,SqT.of ha,rfl,rfl,_,rfl,?_⟩
  rw [decide_eq_true rfl]
  refine iteT ?_
  refine ⟨_,rfl,_,rfl,_,rfl,_,tx,ux,r,way,kd,x,td,ud,c,m,n,k,N,lvs,L,rfl,hv,hm,hn,hV,hk,fun l gs H1 s1 hl hg hgl=>?_⟩
  refine ⟨_,rfl,l,rfl,⟨_,SqL.of hl⟩,fun p hp=>?_⟩
  have s2:=same_new hp (.lst [])
  refine comp_list (xs:=gs.map V.int) (fun i σ' G'=>∃ u3,σ'=[u3,some (.ref a)]∧Same H1 G'∧G' p=some (.lst (((gs.take i).map fun g=>if way = "<=" then decide (g≤c) else decide (c≤g)).map V.bl))) ⟨none,rfl,s2,upd_same⟩ ?_ ?_ ?_
  ·rintro i σ' G' _ ⟨u3,rfl,sG',_⟩
   exact SqL.of (sG' _ _ hl)
  ·rintro i y σ' G' hy ⟨u3,rfl,sG',hGp⟩
   have hi:i < gs.length:=by
    have:=(List.getElem?_eq_some_iff.mp hy).1
    rw [List.length_map] at this
    exact this
   rw [List.getElem?_map,List.getElem?_eq_getElem hi] at hy
   cases hy
   have ha':=(s1.trans sG') _ _ ha
   unfold gName tYes
   refine iteT ?_
   refine ⟨_,rfl,_,rfl,a,_,_,_,rfl,rfl,SqT.of ha',rfl,_,_,rfl,rfl,_,rfl,_,rfl,a,_,_,_,rfl,rfl,SqT.of ha',rfl,_,_,rfl,rfl,sm rfl,fun l3 hl3=>?_⟩
   have s3:=same_new hl3 (.lst [V.bl (decide (c≤gs[i])),V.bl (decide (gs[i]≤c))])
   have e3:upd G' l3 (.lst [V.bl (decide (c≤gs[i])),V.bl (decide (gs[i]≤c))]) l3=some (.lst [V.bl (decide (c≤gs[i])),V.bl (decide (gs[i]≤c))]):=upd_same
   dsimp only
   generalize upd G' l3 (.lst [V.bl (decide (c≤gs[i])),V.bl (decide (gs[i]≤c))])=G2 at *
   refine ⟨_,rfl,a,_,_,_,rfl,rfl,SqT.of (s3 _ _ ha'),rfl,rfl,.inr ⟨_,rfl,?_⟩⟩
   have hat:atI [V.bl (decide (c≤gs[i])),V.bl (decide (gs[i]≤c))] (if decide (V.str way=V.str "<=") then 1 else 0)=some (V.bl (if way = "<=" then decide (gs[i]≤c) else decide (c≤gs[i]))):=by
    by_cases cw:way = "<="
    ·rw [decide_eq_true (congrArg V.str cw),if_pos cw]
     exact atI_nat (j:=1) rfl
    ·rw [decide_eq_false (show ¬ (V.str way=V.str "<=") from fun z=>cw (by injection z)),if_neg cw]
     exact atI_nat (j:=0) rfl
   refine ⟨l3,_,_,_,rfl,rfl,SqL.of e3,hat,?_⟩
   refine ⟨_,s3 _ _ hGp,?_,_,rfl,?_,?_⟩
   ·rw [List.length_map,List.length_map,List.length_take]
    exact small1000 (by omega)
   ·intro c o e
    rw [upd_ne (ne_of_none e hp)]
    exact s3 _ _ (sG' _ _ e)
   ·rw [upd_same,List.take_succ,List.getElem?_eq_getElem hi,List.map_append,List.map_append]
    rfl
  rintro σ' G' ⟨u3,rfl,sG',hGp⟩
  rw [List.length_map,List.take_length] at hGp
  refine ⟨p,_,rfl,SqL.of hGp,?_⟩
  refine q _ _ (s1.trans sG') (gaps_all hg _ fun y k e=>?_)
  rcases hway with rfl | rfl
  ·rw [if_neg (by decide),bnd_ge,decide_eq_true_iff,decide_eq_true_iff]
   omega
  ·rw [if_pos rfl,bnd_le,decide_eq_true_iff,decide_eq_true_iff]
   omega
 | rise tx td ux ud r=>
  obtain ⟨a,b,e,rfl,ha,hb,he⟩:=ri_inv hv
  refine ⟨_,rfl,a,_,_,_,rfl,rfl,SqT.of ha,rfl,rfl,_,rfl,?_⟩
  rw [decide_eq_false (by decide)]
  refine iteF ?_
  refine ⟨_,rfl,a,_,_,_,rfl,rfl,SqT.of ha,rfl,rfl,_,rfl,?_⟩
  rw [decide_eq_false (by decide)]
  refine iteF ?_
  refine ⟨_,rfl,a,_,_,_,rfl,rfl,SqT.of ha,rfl,b,_,_,_,rfl,rfl,SqT.of hb,rfl,_,rfl,tx,m,N,rfl,hm,?_⟩
  refine ⟨_,rfl,a,_,_,_,rfl,rfl,SqT.of ha,rfl,b,_,_,_,rfl,rfl,SqT.of hb,rfl,_,_,rfl,rfl,?_⟩
  refine ⟨_,rfl,a,_,_,_,rfl,rfl,SqT.of ha,rfl,e,_,_,_,rfl,rfl,SqT.of he,rfl,_,rfl,ux,m,N,rfl,hm,?_⟩
  refine ⟨_,rfl,a,_,_,_,rfl,rfl,SqT.of ha,rfl,e,_,_,_,rfl,rfl,SqT.of he,rfl,_,_,rfl,rfl,?_⟩
  dsimp only [Cl.Tru] at q ⊢
  generalize numA N tx+td=t at *
  generalize numA N ux+ud=u at *
  refine ⟨_,rfl,n,rfl,.inl ⟨_,.inl hn⟩,_,rfl,a,_,_,_,rfl,rfl,SqT.of ha,rfl,?_⟩
  refine ⟨sm rfl,fun z1 hz1=>?_⟩
  have s1:=same_new hz1 (.tup [])
  have e1:upd H z1 (.tup []) z1=some (.tup []):=upd_same
  generalize upd H z1 (.tup [])=H1 at *
  refine ⟨sm rfl,fun z2 hz2=>?_⟩
  have s2:=same_new hz2 (.tup [])
  have e2:upd H1 z2 (.tup []) z2=some (.tup []):=upd_same
  generalize upd H1 z2 (.tup [])=H2 at *
  refine ⟨sm rfl,fun z3 hz3=>?_⟩
  have s3:=same_new hz3 (.tup [V.int 0,V.ref z1,V.ref z2])
  have e3:upd H2 z3 (.tup [V.int 0,V.ref z1,V.ref z2]) z3=some (.tup [V.int 0,V.ref z1,V.ref z2]):=upd_same
  generalize upd H2 z3 (.tup [V.int 0,V.ref z1,V.ref z2])=H3 at *
  have s13:=s1.trans (s2.trans s3)
  refine ⟨_,DGet.k (k:=Sum.inr r) (s13 _ _ hn),?_⟩
  have hrow:=lf_get (r:=r) hV s13 ((s2.trans s3) _ _ e1) (s3 _ _ e2) e3
  generalize (valV lvs (Sum.inr r)).getD (.ref z3)=rv at *
  generalize lrow L r=lq at *
  clear e1 e2 e3 s1 s2 s3 hz1 hz2 hz3
  refine ⟨_,rfl,sm rfl,fun l hl=>?_⟩
  have s1:=same_new hl (.lst [rv])
  have e1:upd H3 l (.lst [rv]) l=some (.lst [rv]):=upd_same
  generalize upd H3 l (.lst [rv])=G1 at *
  have hR1:=hrow.tk (TK.same s1)
  refine ⟨_,rfl,_,rfl,t,u,l,[rv],[lq],rfl,e1,heldL_cons hR1.1 heldL_nil,fun z hz=>?_,Nat.le_succ 1,fun l2 ns G2 s2 hl2 hpo hns=>?_⟩
  ·rw [List.mem_singleton.mp hz]
   exact ⟨hR1.2.2.1,by have:=hR1.2.2.2;omega⟩
  have hR2:=hR1.tk (TK.same s2)
  have s02:=s13.trans (s1.trans s2)
  refine ⟨l2,rfl,⟨_,SqL.of hl2⟩,fun p hp=>?_⟩
  have s3:=same_new hp (.lst [])
  refine comp_list (xs:=ns.map V.int) (fun i σ' G'=>∃ u3,σ'=[u3,some (.int t),some (.int u),some rv]∧Same G2 G'∧G' p=some (.lst (((if t≤u then (ns.take i) else []).map fun z=>heldW lq z).map V.int))) ⟨none,rfl,s3,by rw [upd_same];split <;> rfl⟩ ?_ ?_ ?_
  ·rintro i σ' G' _ ⟨u3,rfl,sG',_⟩
   exact SqL.of (sG' _ _ hl2)
  ·rintro i y σ' G' hy ⟨u3,rfl,sG',hGp⟩
   have hi:i < ns.length:=by
    have:=(List.getElem?_eq_some_iff.mp hy).1
    rw [List.length_map] at this
    exact this
   rw [List.getElem?_map,List.getElem?_eq_getElem hi] at hy
   cases hy
   unfold gName
   refine ⟨_,rfl,_,rfl,_,_,rfl,rfl,_,rfl,?_⟩
   by_cases c1:t≤u
   ·rw [decide_eq_true c1]
    refine iteT ?_
    rw [if_pos c1] at hGp ⊢
    refine ⟨_,rfl,_,rfl,_,_,lq,rfl,(hR2.tk (TK.same sG')).1,?_⟩
    refine ⟨_,hGp,?_,_,rfl,?_,?_⟩
    ·rw [List.length_map,List.length_map,List.length_take]
     exact small1000 (by omega)
    ·intro c o e
     rw [upd_ne (ne_of_none e hp)]
     exact sG' _ _ e
    ·rw [upd_same,List.take_succ,List.getElem?_eq_getElem hi,List.map_append,List.map_append]
     rfl
   ·rw [decide_eq_false c1]
    refine iteF ?_
    rw [if_neg c1] at hGp ⊢
    exact ⟨_,rfl,sG',hGp⟩
  rintro σ' G' ⟨u3,rfl,sG',hGp⟩
  rw [List.length_map,List.take_length] at hGp
  have up2:∀ z∈[lq],Rising z.2.1:=fun z hz=>by rw [List.mem_singleton.mp hz];exact hR1.2.1
  have iff1:(((if t≤u then ns else []).map fun z=>heldW lq z).Pairwise (·≤·))↔∀ k l,t≤k→k < l→l≤u→heldW lq k≤heldW lq l:=by
   rw [List.pairwise_map]
   constructor
   ·intro h k l h1 h2 h3
    rw [if_pos (by omega)] at h
    obtain ⟨y,hy,b1,b2,b3,b4⟩:=points_at hpo up2 h1 (by omega)
    obtain ⟨y',hy',c1,c2,c3,c4⟩:=points_at hpo up2 (show t≤l by omega) h3
    rw [b4 lq List.mem_cons_self,c4 lq List.mem_cons_self]
    have hyy:=c3 y hy (by omega)
    rcases Int.lt_or_eq_of_le hyy with c | c
    ·exact pair_lt h hpo.1 hy hy' c
    ·rw [c];exact Int.le_refl _
   ·intro h
    split
    ·next c1=>
     refine List.Pairwise.imp_of_mem (R:=(· < ·)) (fun {x y} hx hy hxy=>?_) hpo.1
     have hx1:=(hpo.2 x).mp hx
     have hy1:=(hpo.2 y).mp hy
     exact h x y (by rcases hx1 with h | h <;> omega) hxy (by rcases hy1 with h | h <;> omega)
    ·exact List.Pairwise.nil
  have hvl:((if t≤u then ns else []).map fun z=>heldW lq z).length≤1000:=by
   rw [List.length_map]
   split
   ·omega
   ·exact Nat.zero_le _
  generalize ((if t≤u then ns else []).map fun z=>heldW lq z)=vs at *
  refine ⟨_,rfl,_,rfl,p,vs,rfl,SqL.of hGp,hvl,fun l4 ms hl4 hperm hsort=>?_⟩
  have s5:=same_new hl4 (.lst (ms.map V.int))
  refine ⟨p,l4,vs,ms,rfl,rfl,SqL.of (s5 _ _ hGp),SqL.of upd_same,hperm.length_eq.symm,?_⟩
  have eb:decide (vs=ms)=decide (vs.Pairwise (·≤·)):=by
   rw [decide_eq_decide]
   constructor
   ·intro h
    rw [h]
    exact hsort
   ·intro h
    exact hperm.symm.eq_of_pairwise (fun x y _ _ h1 h2=>Int.le_antisymm h1 h2) h hsort
  rw [eb]
  exact q _ _ (s02.trans (sG'.trans s5)) (decide_eq_true_iff.trans iff1)
end
end LW
namespace L2
open PySem PySem.Spec PyProof.Rows PySem.W
mutual
def dEq:D→D→Bool
 | .int i,.int j=>i == j
 | .str x,.str y=>x == y
 | .tup a,.tup b=>dEqL a b
 | _,_=>false
def dEqL:List D→List D→Bool
 | [],[]=>true
 | a :: as,b :: bs=>dEq a b && dEqL as bs
 | _,_=>false
end
mutual
theorem dEq_iff:∀ {a b:D},dEq a b=true↔a=b
 | .int i,.int j=>by unfold dEq;rw [beq_iff_eq];exact ⟨(fun h=>by rw [h]),(fun h=>by injection h)⟩
 | .str i,.str j=>by unfold dEq;rw [beq_iff_eq];exact ⟨(fun h=>by rw [h]),(fun h=>by injection h)⟩
 | .tup a,.tup b=>by unfold dEq;rw [dEqL_iff];exact ⟨(fun h=>by rw [h]),(fun h=>by injection h)⟩
 | .int i,.str j=>by unfold dEq;exact ⟨(fun h=>by cases h),(fun h=>by cases h)⟩
 | .int i,.tup j=>by unfold dEq;exact ⟨(fun h=>by cases h),(fun h=>by cases h)⟩
 | .str i,.int j=>by unfold dEq;exact ⟨(fun h=>by cases h),(fun h=>by cases h)⟩
 | .str i,.tup j=>by unfold dEq;exact ⟨(fun h=>by cases h),(fun h=>by cases h)⟩
 | .tup i,.int j=>by unfold dEq;exact ⟨(fun h=>by cases h),(fun h=>by cases h)⟩
 | .tup i,.str j=>by unfold dEq;exact ⟨(fun h=>by cases h),(fun h=>by cases h)⟩
theorem dEqL_iff:∀ {a b:List D},dEqL a b=true↔a=b
 | [],[]=>by unfold dEqL;exact ⟨(fun _=>rfl),(fun _=>rfl)⟩
 | a :: as,b :: bs=>by
  unfold dEqL
  rw [Bool.and_eq_true,dEq_iff,dEqL_iff]
  exact ⟨(fun h=>by rw [h.1,h.2]),(fun h=>by injection h with h1 h2;exact ⟨h1,h2⟩)⟩
 | [],b :: bs=>by unfold dEqL;exact ⟨(fun h=>by cases h),(fun h=>by cases h)⟩
 | a :: as,[]=>by unfold dEqL;exact ⟨(fun h=>by cases h),(fun h=>by cases h)⟩
end
instance:DecidableEq D:=fun a b=>if h:dEq a b=true then isTrue (dEq_iff.mp h) else isFalse fun e=>h (dEq_iff.mpr e)
theorem dEqL_dec (a b:List D):dEqL a b=decide (a=b):=by
 apply Bool.eq_iff_iff.mpr
 rw [dEqL_iff,decide_eq_true_iff]
mutual
theorem held_inj {H:Hp}:∀ {d d':D} {v:V},Held H d v→Held H d' v→d=d'
 | .int i,.int j,v,h,h'=>by unfold Held at h h';subst h;injection h' with h';rw [h']
 | .str i,.str j,v,h,h'=>by unfold Held at h h';subst h;injection h' with h';rw [h']
 | .tup a,.tup b,v,h,h'=>by
  unfold Held at h h'
  obtain ⟨p,xs,rfl,e,h⟩:=h
  obtain ⟨p',xs',e0,e',h'⟩:=h'
  injection e0 with e0
  subst e0
  rw [e] at e'
  injection e' with e'
  injection e' with e'
  subst e'
  rw [heldL_inj h h']
 | .int i,.str j,v,h,h'=>by unfold Held at h h';subst h;cases h'
 | .int i,.tup j,v,h,h'=>by unfold Held at h h';subst h;obtain ⟨p,xs,e,_⟩:=h';cases e
 | .str i,.int j,v,h,h'=>by unfold Held at h h';subst h;cases h'
 | .str i,.tup j,v,h,h'=>by unfold Held at h h';subst h;obtain ⟨p,xs,e,_⟩:=h';cases e
 | .tup i,.int j,v,h,h'=>by unfold Held at h h';subst h';obtain ⟨p,xs,e,_⟩:=h;cases e
 | .tup i,.str j,v,h,h'=>by unfold Held at h h';subst h';obtain ⟨p,xs,e,_⟩:=h;cases e
theorem heldL_inj {H:Hp}:∀ {d d':List D} {v:List V},HeldL H d v→HeldL H d' v→d=d'
 | [],[],_,_,_=>rfl
 | a :: as,b :: bs,v,h,h'=>by
  unfold HeldL at h h'
  obtain ⟨u,r,rfl,h1,h2⟩:=h
  obtain ⟨u',r',e,h1',h2'⟩:=h'
  injection e with e1 e2
  subst e1 e2
  rw [held_inj h1 h1',heldL_inj h2 h2']
 | [],b :: bs,v,h,h'=>by unfold HeldL at h h';subst h;obtain ⟨u',r',e,_⟩:=h';cases e
 | a :: as,[],v,h,h'=>by unfold HeldL at h h';subst h';obtain ⟨u',r',e,_⟩:=h;cases e
end
theorem dEqL_all:∀ (a b:List D),((List.range (min a.length b.length)).all (fun j=>dEq (a.getD j (.int 0)) (b.getD j (.int 0))) && a.length == b.length)=dEqL a b:=by
 intro a b
 apply Bool.eq_iff_iff.mpr
 rw [dEqL_iff,Bool.and_eq_true,List.all_eq_true,beq_iff_eq]
 constructor
 ·rintro ⟨h1,h2⟩
  apply List.ext_getElem h2
  intro j hj hj'
  have:=h1 j (List.mem_range.mpr (by omega))
  rw [dEq_iff] at this
  simpa [hj,hj'] using this
 ·rintro rfl
  exact ⟨fun j _=>dEq_iff.mpr rfl,rfl⟩
section
variable {X:Cx} {pins:List (Addr×Obj)} {σ:St} {H:Hp} {s:Shared}
theorem eqAt_dd (I:Inv X pins σ H s):∀ (n:Nat) (A:Around) (d d':D) (x y:V) (u v:Value),d.depth≤n→A.units+n < cLine→Held H d x→Held H d' y→RelV x u→RelV y v→SeqAt.EqAt A s u v (dEq d d'):=by
 intro n
 induction n with
 | zero=>
  intro A d d' x y u v hd hA hx hy ru rv
  have hA':A.units < cLine:=by omega
  cases d with
  | int i=>
   unfold Held at hx;subst hx
   obtain ⟨t,rfl⟩:=ru
   cases d' with
   | int j=>
    unfold Held at hy;subst hy
    obtain ⟨t',rfl⟩:=rv
    unfold dEq
    exact SeqAt.EqAt.int_int i t j t'
   | str j=>
    unfold Held at hy;subst hy
    obtain ⟨t',rfl⟩:=rv
    unfold dEq
    exact SeqAt.EqAt.int_str i t j t'
   | tup ds=>
    unfold Held at hy
    obtain ⟨b,ys,rfl,hb,_⟩:=hy
    cases rv
    obtain ⟨its,_,tb,_⟩:=I.tuple (SqT.of hb)
    unfold dEq
    exact SeqAt.EqAt.int_tuple i t (show s.heap.IsTuple b its.toArray from tb) hA'
  | str i=>
   unfold Held at hx;subst hx
   obtain ⟨t,rfl⟩:=ru
   cases d' with
   | int j=>
    unfold Held at hy;subst hy
    obtain ⟨t',rfl⟩:=rv
    unfold dEq
    exact SeqAt.EqAt.str_int i t j t'
   | str j=>
    unfold Held at hy;subst hy
    obtain ⟨t',rfl⟩:=rv
    unfold dEq
    exact SeqAt.EqAt.str_str i t j t'
   | tup ds=>
    unfold Held at hy
    obtain ⟨b,ys,rfl,hb,_⟩:=hy
    cases rv
    obtain ⟨its,_,tb,_⟩:=I.tuple (SqT.of hb)
    unfold dEq
    exact SeqAt.EqAt.str_tuple i t (show s.heap.IsTuple b its.toArray from tb) hA'
  | tup ds=>unfold D.depth at hd;omega
 | succ n ih=>
  intro A d d' x y u v hd hA hx hy ru rv
  have hA':A.units < cLine:=by omega
  cases d with
  | int i=>exact ih A (.int i) d' x y u v (by unfold D.depth;omega) (by omega) hx hy ru rv
  | str z=>exact ih A (.str z) d' x y u v (by unfold D.depth;omega) (by omega) hx hy ru rv
  | tup ds=>
   have hx0:=hx
   unfold Held at hx
   obtain ⟨a,xs,rfl,ha,hxs⟩:=hx
   cases ru
   obtain ⟨its,rva,ta,_⟩:=I.tuple (SqT.of ha)
   cases d' with
   | int j=>
    unfold Held at hy;subst hy
    obtain ⟨t',rfl⟩:=rv
    unfold dEq
    exact SeqAt.EqAt.tuple_int j t' (show s.heap.IsTuple a its.toArray from ta) hA'
   | str j=>
    unfold Held at hy;subst hy
    obtain ⟨t',rfl⟩:=rv
    unfold dEq
    exact SeqAt.EqAt.tuple_str j t' (show s.heap.IsTuple a its.toArray from ta) hA'
   | tup ds'=>
    have hy0:=hy
    unfold Held at hy
    obtain ⟨b,ys,rfl,hb,hys⟩:=hy
    cases rv
    by_cases hab:a=b
    ·subst hab
     rw [dEq_iff.mpr (held_inj hx0 hy0)]
     exact SeqAt.EqAt.same _
    ·obtain ⟨its2,rvb,tb,_⟩:=I.tuple (SqT.of hb)
     refine SeqAt.EqAt.of_refs hab ?_
     have l1:=hxs.length
     have l2:=hys.length
     have l3:=rva.length
     have l4:=rvb.length
     have key:=SeqAt.RcAt.tuples (A:=A) (s:=s) (e:=fun j=>dEq (ds.getD j (.int 0)) (ds'.getD j (.int 0))) (show s.heap.IsTuple a its.toArray from ta) (show s.heap.IsTuple b its2.toArray from tb) (by omega) (fun j h1 h2=>by
      have hj:j < ds.length:=by
       have:j < its.length:=by simpa using h1
       omega
      have hj':j < ds'.length:=by
       have:j < its2.length:=by simpa using h2
       omega
      have ej:ds[j]?=some ds[j]:=List.getElem?_eq_getElem hj
      obtain ⟨x',hx',gx⟩:=hxs.get ej
      obtain ⟨y',hy',gy⟩:=hys.get (List.getElem?_eq_getElem hj')
      obtain ⟨u',hu',ru'⟩:=rva.get hx'
      obtain ⟨v',hv',rv'⟩:=rvb.get hy'
      have eu:its.toArray[j]=u':=by
       have:=(List.getElem?_eq_some_iff.mp hu').2
       simpa using this
      have ev:its2.toArray[j]=v':=by
       have:=(List.getElem?_eq_some_iff.mp hv').2
       simpa using this
      rw [eu,ev]
      unfold D.depth at hd
      have g1:ds.getD j (.int 0)=ds[j]:=by simp [hj]
      have g2:ds'.getD j (.int 0)=ds'[j]:=by simp [hj']
      rw [g1,g2]
      exact ih A.in1 ds[j] ds'[j] x' y' u' v' (by have:=D.depthL_get ej;omega) (by show A.units+1+n < cLine;omega) gx gy ru' rv')
     have e:((List.range (min its.toArray.size its2.toArray.size)).all (fun j=>dEq (ds.getD j (.int 0)) (ds'.getD j (.int 0))) && its.toArray.size == its2.toArray.size)=dEqL ds ds':=by
      have e1:its.toArray.size=ds.length:=by simp;omega
      have e2:its2.toArray.size=ds'.length:=by simp;omega
      rw [e1,e2]
      exact dEqL_all ds ds'
     rw [e] at key
     unfold dEq
     exact key
theorem eqAt_items (I:Inv X pins σ H s) {n:Nat} {A:Around} {ds ds':List D} {xs ys:List V} {its its2:List Value} (hd:D.depthL ds≤n) (hA:A.units+n < cLine) (hxs:HeldL H ds xs) (hys:HeldL H ds' ys) (rva:Vals xs its) (rvb:Vals ys its2) :
  ∀ j (h1:j < its.toArray.size) (h2:j < its2.toArray.size),SeqAt.EqAt A s its.toArray[j] its2.toArray[j] (dEq (ds.getD j (.int 0)) (ds'.getD j (.int 0))):=fun j h1 h2=>by
 have l1:=hxs.length
 have l2:=hys.length
 have l3:=rva.length
 have l4:=rvb.length
 have hj:j < ds.length:=by
  have:j < its.length:=by simpa using h1
  omega
 have hj':j < ds'.length:=by
  have:j < its2.length:=by simpa using h2
  omega
 have ej:ds[j]?=some ds[j]:=List.getElem?_eq_getElem hj
 obtain ⟨x',hx',gx⟩:=hxs.get ej
 obtain ⟨y',hy',gy⟩:=hys.get (List.getElem?_eq_getElem hj')
 obtain ⟨u',hu',ru'⟩:=rva.get hx'
 obtain ⟨v',hv',rv'⟩:=rvb.get hy'
 have eu:its.toArray[j]=u':=by
  have:=(List.getElem?_eq_some_iff.mp hu').2
  simpa using this
 have ev:its2.toArray[j]=v':=by
  have:=(List.getElem?_eq_some_iff.mp hv').2
  simpa using this
 rw [eu,ev]
 have g1:ds.getD j (.int 0)=ds[j]:=by simp [hj]
 have g2:ds'.getD j (.int 0)=ds'[j]:=by simp [hj']
 rw [g1,g2]
 exact eqAt_dd I n A ds[j] ds'[j] x' y' u' v' (by have:=D.depthL_get ej;omega) hA gx gy ru' rv'
theorem op_eqTT (n:Nat) (hu:X.A.units+1+n < cLine):OpR X (compareOp .Eq) (fun x y H Q=>∃ a b xs ys ds ds',x=.ref a∧y=.ref b∧H a=some (.tup xs)∧H b=some (.tup ys)∧D.depthL ds≤n∧HeldL H ds xs∧HeldL H ds' ys∧Q (.bl (decide (ds=ds'))) H):=by
 intro pins s σ H x y v u Q I rx ry h
 obtain ⟨a,b,xs,ys,ds,ds',rfl,rfl,ha,hb,hd,hxs,hys,q⟩:=h
 cases rx;cases ry
 obtain ⟨its,rva,ta,_⟩:=I.tuple (SqT.of ha)
 obtain ⟨its2,rvb,tb,_⟩:=I.tuple (SqT.of hb)
 have l1:=hxs.length
 have l2:=hys.length
 have l3:=rva.length
 have l4:=rvb.length
 have key:=SeqAt.RcAt.tuples (A:=X.A) (s:=s) (e:=fun j=>dEq (ds.getD j (.int 0)) (ds'.getD j (.int 0))) (show s.heap.IsTuple a its.toArray from ta) (show s.heap.IsTuple b its2.toArray from tb) (by omega) (eqAt_items I (A:=X.A.in1) hd (by show X.A.units+1+n < cLine;exact hu) hxs hys rva rvb)
 have e:((List.range (min its.toArray.size its2.toArray.size)).all (fun j=>dEq (ds.getD j (.int 0)) (ds'.getD j (.int 0))) && its.toArray.size == its2.toArray.size)=decide (ds=ds'):=by
  have e1:its.toArray.size=ds.length:=by simp;omega
  have e2:its2.toArray.size=ds'.length:=by simp;omega
  rw [e1,e2,dEqL_all,dEqL_dec]
 rw [e] at key
 exact key X.prog X.w X.xe _ ⟨.bl (decide (ds=ds')),H,I,rfl,q⟩
theorem op_neTT (n:Nat) (hu:X.A.units+1+n < cLine):OpR X (compareOp .NotEq) (fun x y H Q=>∃ a b xs ys ds ds',x=.ref a∧y=.ref b∧H a=some (.tup xs)∧H b=some (.tup ys)∧D.depthL ds≤n∧HeldL H ds xs∧HeldL H ds' ys∧Q (.bl (!decide (ds=ds'))) H):=by
 intro pins s σ H x y v u Q I rx ry h
 obtain ⟨a,b,xs,ys,ds,ds',rfl,rfl,ha,hb,hd,hxs,hys,q⟩:=h
 cases rx;cases ry
 obtain ⟨its,rva,ta,_⟩:=I.tuple (SqT.of ha)
 obtain ⟨its2,rvb,tb,_⟩:=I.tuple (SqT.of hb)
 have l1:=hxs.length
 have l2:=hys.length
 have l3:=rva.length
 have l4:=rvb.length
 have key:=SeqAt.RcNeAt.tuples (A:=X.A) (s:=s) (e:=fun j=>dEq (ds.getD j (.int 0)) (ds'.getD j (.int 0))) (show s.heap.IsTuple a its.toArray from ta) (show s.heap.IsTuple b its2.toArray from tb) (by omega) (eqAt_items I (A:=X.A.in1) hd (by show X.A.units+1+n < cLine;exact hu) hxs hys rva rvb)
 have e:(!((List.range (min its.toArray.size its2.toArray.size)).all (fun j=>dEq (ds.getD j (.int 0)) (ds'.getD j (.int 0))) && its.toArray.size == its2.toArray.size))=!decide (ds=ds'):=by
  have e1:its.toArray.size=ds.length:=by simp;omega
  have e2:its2.toArray.size=ds'.length:=by simp;omega
  rw [e1,e2,dEqL_all,dEqL_dec]
 rw [e] at key
 exact key X.prog X.w X.xe _ ⟨.bl (!decide (ds=ds')),H,I,rfl,q⟩
theorem all_dEq {ds ds':List D} (h:ds.length=ds'.length):((List.range ds.length).all fun j=>dEq (ds.getD j (.int 0)) (ds'.getD j (.int 0)))=decide (ds=ds'):=by
 have:=dEqL_all ds ds'
 rw [← h,Nat.min_self,beq_self_eq_true,Bool.and_true,dEqL_dec] at this
 exact this
theorem op_eqLL (n:Nat) (hu:X.A.units+1+n < cLine):OpR X (compareOp .Eq) (fun x y H Q=>∃ a b xs ys ds ds',x=.ref a∧y=.ref b∧H a=some (.lst xs)∧H b=some (.lst ys)∧D.depthL ds≤n∧HeldL H ds xs∧HeldL H ds' ys∧Q (.bl (decide (ds=ds'))) H):=by
 intro pins s σ H x y v u Q I rx ry h
 obtain ⟨a,b,xs,ys,ds,ds',rfl,rfl,ha,hb,hd,hxs,hys,q⟩:=h
 cases rx;cases ry
 obtain ⟨its,rva,ta,_⟩:=I.list (SqL.of ha)
 obtain ⟨its2,rvb,tb,_⟩:=I.list (SqL.of hb)
 have l1:=hxs.length
 have l2:=hys.length
 have l3:=rva.length
 have l4:=rvb.length
 have e1:its.toArray.size=ds.length:=by simp;omega
 have e2:its2.toArray.size=ds'.length:=by simp;omega
 by_cases hl:ds.length=ds'.length
 ·have key:=SeqAt.RcAt.lists (A:=X.A) (s:=s) (e:=fun j=>dEq (ds.getD j (.int 0)) (ds'.getD j (.int 0))) ta.isList tb.isList (by rw [e1,e2,hl]) (by omega) (eqAt_items I (A:=X.A.in1) hd (by show X.A.units+1+n < cLine;exact hu) hxs hys rva rvb)
  rw [e1,all_dEq hl] at key
  exact key X.prog X.w X.xe _ ⟨.bl (decide (ds=ds')),H,I,rfl,q⟩
 ·have key:=SeqAt.RcAt.lists_lengths (A:=X.A) (s:=s) ta.isList tb.isList (by rw [e1,e2];simpa using hl) (by omega)
  rw [decide_eq_false (fun z=>hl (by rw [z]))] at q
  exact key X.prog X.w X.xe _ ⟨.bl false,H,I,rfl,q⟩
theorem op_neLL (n:Nat) (hu:X.A.units+1+n < cLine):OpR X (compareOp .NotEq) (fun x y H Q=>∃ a b xs ys ds ds',x=.ref a∧y=.ref b∧H a=some (.lst xs)∧H b=some (.lst ys)∧D.depthL ds≤n∧HeldL H ds xs∧HeldL H ds' ys∧Q (.bl (!decide (ds=ds'))) H):=by
 intro pins s σ H x y v u Q I rx ry h
 obtain ⟨a,b,xs,ys,ds,ds',rfl,rfl,ha,hb,hd,hxs,hys,q⟩:=h
 cases rx;cases ry
 obtain ⟨its,rva,ta,_⟩:=I.list (SqL.of ha)
 obtain ⟨its2,rvb,tb,_⟩:=I.list (SqL.of hb)
 have l1:=hxs.length
 have l2:=hys.length
 have l3:=rva.length
 have l4:=rvb.length
 have e1:its.toArray.size=ds.length:=by simp;omega
 have e2:its2.toArray.size=ds'.length:=by simp;omega
 by_cases hl:ds.length=ds'.length
 ·have key:=SeqAt.RcNeAt.lists (A:=X.A) (s:=s) (e:=fun j=>dEq (ds.getD j (.int 0)) (ds'.getD j (.int 0))) ta.isList tb.isList (by rw [e1,e2,hl]) (by omega) (eqAt_items I (A:=X.A.in1) hd (by show X.A.units+1+n < cLine;exact hu) hxs hys rva rvb)
  rw [e1,all_dEq hl] at key
  exact key X.prog X.w X.xe _ ⟨.bl (!decide (ds=ds')),H,I,rfl,q⟩
 ·have key:=SeqAt.RcNeAt.lists_lengths (A:=X.A) (s:=s) ta.isList tb.isList (by rw [e1,e2];simpa using hl) (by omega)
  rw [decide_eq_false (fun z=>hl (by rw [z]))] at q
  exact key X.prog X.w X.xe _ ⟨.bl true,H,I,rfl,q⟩
end
end L2
namespace LW
open PySem L2
abbrev sEnd:Stmt:=top 41
abbrev sClaim:Stmt:=top 42
abbrev sFitted:Stmt:=top 43
theorem three_ints (a b c:Int) {i:Int} (h0:0≤i) (h1:i < 3):∃ z,atI [V.int a,V.int b,V.int c] i=some (.int z):=by
 have:i=0∨i=1∨i=2:=by omega
 rcases this with rfl | rfl | rfl
 ·exact ⟨_,rfl⟩
 ·exact ⟨_,rfl⟩
 ·exact ⟨_,rfl⟩
theorem two_ways {i:Int} (h0:0≤i) (h1:i < 2):∃ z,atI [V.str ">=",V.str "<="] i=some (.str z)∧(z = ">="∨z = "<="):=by
 have:i=0∨i=1:=by omega
 rcases this with rfl | rfl
 ·exact ⟨_,rfl,.inl rfl⟩
 ·exact ⟨_,rfl,.inr rfl⟩
theorem heldL_strs {H:Hp}:∀ (fs:List Str),HeldL H (fs.map D.str) (fs.map V.str)
 | []=>heldL_nil
 | f :: fs=>heldL_cons held_str (heldL_strs fs)
theorem heldL_ints {H:Hp}:∀ (fs:List Int),HeldL H (fs.map D.int) (fs.map V.int)
 | []=>heldL_nil
 | f :: fs=>heldL_cons held_int (heldL_ints fs)
theorem depth_strs:∀ (fs:List Str),D.depthL (fs.map D.str)=0
 | []=>rfl
 | f :: fs=>by
  show max (D.depth (D.str f)) (D.depthL (fs.map D.str))=0
  rw [depth_strs fs]
  rfl
theorem depth_ints:∀ (fs:List Int),D.depthL (fs.map D.int)=0
 | []=>rfl
 | f :: fs=>by
  show max (D.depth (D.int f)) (D.depthL (fs.map D.int))=0
  rw [depth_ints fs]
  rfl
def spClaim:Sp:=fun vs H Q _=>∃ (s n:Int) (l fr:Addr) (ws fs:List Str),vs=[.int s,.ref l,.int n,.ref fr]∧WsAt H l ws n∧H fr=some (.lst (fs.map V.str))∧fs.length≤10∧∀ (u:V) (C:Cl) (H':Hp),Same H H'→Held H' C.toD u→wayOk C→Q u H'
def spFitted:Sp:=fun vs H Q _=>∃ (v:V) (s:Int) (C:Cl) (m n:Addr) (k:Nat) (N:List (Str×Int)) (lvs:List (Key×V)) (L:List (Str×LRow)),vs=[v,.int s,.ref m,.ref n]∧Held H C.toD v∧wayOk C∧H m=some (.dK (nKV N))∧H n=some (.dK lvs)∧RP (LF H k) lvs L∧k≤100∧
 ∀ (u:V) (C':Cl) H',Same H H'→Held H' C'.toD u→wayOk C'→Q u H'
section
variable {P:Program} {w:World} {K:PySem.W.Frag} {mg:Str→Option Value} {base:Heap}
theorem ok_end {f:Addr} {fd:FuncData} (F:Fun K "_law_end" "_law_end" sEnd f fd) (F_place:Fn P w K mg base 1 "_law_place" ["_law_seed","_law_w","_law_near"] spPlace):FnOk P w K mg base CX0 2 f fd ["_law_seed","_law_w","_law_near"] spPlace:=by
 have sc:FnScope ["_law_seed","_law_w","_law_near","_law_place_here"] ["_law_seed","_law_w","_law_near"] (defScope sEnd):=⟨rfl,rfl,rfl,by decide +kernel,rfl,by decide +kernel,by decide +kernel⟩
 refine F.ok sc (fun vs H Q E h=>?_) (fun cdv A outer s H vs Q E hr h=>?_)
 ·obtain ⟨s,n,l,ws,rfl,_⟩:=h
  rfl
 obtain ⟨s,n,l,ws,rfl,hl,hw8,hn0,hn1,q⟩:=h
 refine ⟨_,(pss_cons (ps_set (i:=3) sc.nd rfl (by first | exact Or.inl rfl | exact Or.inr rfl) (pe_fn F_place hr (pa_c (pv 0) (pa_c (pv 1) (pa_c (pv 2) pa_nil)))))
   (pss_one (ps_ret (pe_tup (pa_c (pe_ix ix_tup (pv 3) pe_int (fun _ _=>rfl)) (pa_c (pe_op op_add (pe_ix ix_tup (pv 3) pe_int (fun _ _=>rfl)) (pe_ix ix_list (pe_lst (pa_c pe_int (pa_c pe_int (pa_c (pe_op op_pow pe_int pe_int) pa_nil)))) (pe_op op_mod (pe_op op_fdivB (pv 0) pe_int) pe_int) (fun _ _=>rfl))) pa_nil)))))),?_⟩
 refine ⟨_,rfl,_,rfl,_,rfl,s,n,l,ws,rfl,hl,hw8,hn0,hn1,fun a x d H1 s1 ha=>?_⟩
 refine ⟨_,rfl,a,_,_,_,rfl,rfl,SqT.of ha,rfl,_,rfl,a,_,_,_,rfl,rfl,SqT.of ha,rfl,_,_,rfl,rfl,⟨by decide,by decide,by decide⟩,sm rfl,fun l1 hl1=>?_⟩
 dsimp only
 generalize (10:Int) ^ Int.toNat 17=big at *
 have s2:=same_new hl1 (.lst [V.int 0,V.int 3,V.int big])
 have e2:upd H1 l1 (.lst [V.int 0,V.int 3,V.int big]) l1=some (.lst [V.int 0,V.int 3,V.int big]):=upd_same
 generalize upd H1 l1 (.lst [V.int 0,V.int 3,V.int big])=H2 at *
 refine ⟨_,rfl,_,_,rfl,rfl,⟨by decide,by decide⟩,_,_,rfl,rfl,(by show (0:Int) < _;decide),?_⟩
 obtain ⟨mo,hmo⟩:=three_ints 0 3 big (i:=s / 20 % 3) (Int.emod_nonneg _ (by decide)) (Int.emod_lt_of_pos _ (by decide))
 refine ⟨l1,_,_,_,rfl,rfl,SqL.of e2,hmo,_,_,rfl,rfl,sm rfl,fun t ht=>?_⟩
 exact q t x (d+mo) _ (s1.trans (s2.trans (same_new ht _))) upd_same
theorem ok_claim {f:Addr} {fd:FuncData} (F:Fun K "_law_claim" "_law_claim" sClaim f fd) (B:Free0 mg) (F_mix:Fn P w K mg base 1 "_law_mix" ["_law_seed","_law_k"] spMix) (F_place:Fn P w K mg base 1 "_law_place" ["_law_seed","_law_w","_law_near"] spPlace) (F_term:Fn P w K mg base 2 "_law_term" ["_law_seed","_law_w","_law_near"] spTerm) (F_end:Fn P w K mg base 2 "_law_end" ["_law_seed","_law_w","_law_near"] spPlace):FnOk P w K mg base CX0 3 f fd ["_law_seed","_law_w","_law_near","_law_free"] spClaim:=by
 have sc:FnScope ["_law_seed","_law_w","_law_near","_law_free","_law_more","_law_t","_law_u","_law_r","_law_facing"] ["_law_seed","_law_w","_law_near","_law_free"] (defScope sClaim):=⟨rfl,rfl,rfl,by decide +kernel,rfl,by decide +kernel,by decide +kernel⟩
 refine F.ok sc (fun vs H Q E h=>?_) (fun cdv A outer s H vs Q E hr h=>?_)
 ·obtain ⟨s,n,l,fr,ws,fs,rfl,_⟩:=h
  rfl
 obtain ⟨sd,n,l,fr,ws,fs,rfl,⟨hl,hw8,hn0,hn1⟩,hfr,hfl,q⟩:=h
 have hu0:(A.deeper (PyProof.Rows.envOfC "_law_claim" (defScope sClaim) s.heap.objs.size f cdv)).units+1+0 < cLine:=by have:=hr.units;omega
 refine ⟨_,(pss_cons (ps_set (i:=4) sc.nd rfl (by first | exact Or.inl rfl | exact Or.inr rfl) (pe_ix ix_list (pe_lst (pa_c (pe_op op_sub (pe_op op_mod (pe_op op_fdivB (pv 0) pe_int) pe_int) pe_int) (pa_c (pe_op op_sub (pe_op op_mod (pe_op op_mul (pv 0) pe_int) (pe_op op_mul pe_int (pe_op op_pow pe_int pe_int))) (pe_op op_pow pe_int pe_int)) pa_nil))) (pe_op op_mod (pe_op op_fdivB (pv 0) pe_int) pe_int) (fun _ _=>rfl)))
   (pss_cons (ps_if (pw_or (pt_cmpR op_eq (pe_op op_mod (pv 0) pe_int) pe_int (nomark _)) (pw_or1 (pt_cmpR (op_eqLL 0 hu0) (pv 3) (pe_lst pa_nil) (nomark _)))).pt (pss_one (ps_ret (pe_tup (pa_c pe_str (pa_c (pe_fn F_term hr (pa_c (pe_fn F_mix hr (pa_c (pv 0) (pa_c pe_int pa_nil))) (pa_c (pv 1) (pa_c (pv 2) pa_nil)))) (pa_c (pe_fn F_term hr (pa_c (pe_fn F_mix hr (pa_c (pv 0) (pa_c pe_int pa_nil))) (pa_c (pv 1) (pa_c (pv 2) pa_nil)))) (pa_c (pv 4) pa_nil))))))) pss_nil)
   (pss_cons (ps_set (i:=5) sc.nd rfl (by first | exact Or.inl rfl | exact Or.inr rfl) (pe_fn F_place hr (pa_c (pe_fn F_mix hr (pa_c (pv 0) (pa_c pe_int pa_nil))) (pa_c (pv 1) (pa_c (pv 2) pa_nil)))))
   (pss_cons (ps_set (i:=6) sc.nd rfl (by first | exact Or.inl rfl | exact Or.inr rfl) (pe_fn F_end hr (pa_c (pe_fn F_mix hr (pa_c (pv 0) (pa_c pe_int pa_nil))) (pa_c (pv 1) (pa_c (pv 2) pa_nil)))))
   (pss_cons (ps_set (i:=7) sc.nd rfl (by first | exact Or.inl rfl | exact Or.inr rfl) (pe_ix ix_list (pv 3) (pe_op op_mod (pe_op op_fdivB (pv 0) pe_int) (pe_cB call_len_seq (by rfl) B.len_ bt_len (pa_c (pv 3) pa_nil))) (fun _ _=>rfl)))
   (pss_cons (ps_if (pt_cmpR op_eq (pe_op op_mod (pv 0) pe_int) pe_int (nomark _)) (pss_cons (ps_set (i:=8) sc.nd rfl (by first | exact Or.inl rfl | exact Or.inr rfl) (pe_tup (pa_c pe_str (pa_c (pe_ix ix_list (pe_lst (pa_c pe_str (pa_c (pe_ix ix_list (pv 1) pe_int (fun _ _=>rfl)) (pa_c (pe_ix ix_list (pv 1) pe_int (fun _ _=>rfl)) (pa_c (pe_ix ix_list (pv 1) pe_int (fun _ _=>rfl)) pa_nil))))) (pe_op op_mod (pe_op op_fdivB (pv 0) pe_int) pe_int) (fun _ _=>rfl)) pa_nil))))
   (pss_cons (ps_join (ps_if (pt_cmpR op_eq (pe_op op_mod (pe_op op_fdivB (pv 0) pe_int) pe_int) pe_int (nomark _)) (pss_one (ps_set (i:=8) sc.nd rfl (by first | exact Or.inl rfl | exact Or.inr rfl) (pe_tup (pa_c pe_str (pa_c (pe_ix ix_list (pv 3) (pe_op op_mod (pe_op op_fdivB (pv 0) pe_int) (pe_cB call_len_seq (by rfl) B.len_ bt_len (pa_c (pv 3) pa_nil))) (fun _ _=>rfl)) pa_nil))))) pss_nil))
   (pss_one (ps_ret (pe_tup (pa_c pe_str (pa_c (pv 5) (pa_c (pv 6) (pa_c (pv 7) (pa_c (pe_ix ix_list (pe_lst (pa_c pe_str (pa_c pe_str pa_nil))) (pe_op op_mod (pe_op op_fdivB (pv 0) pe_int) pe_int) (fun _ _=>rfl)) (pa_c (pv 8) (pa_c (pv 4) pa_nil)))))))))))) pss_nil)
   (pss_one (ps_ret (pe_tup (pa_c pe_str (pa_c (pv 5) (pa_c (pv 6) (pa_c (pv 7) pa_nil))))))))))))),?_⟩
 have hx0:=at_strs (xs:=ws) (i:=0) (by decide) (by rw [hw8];decide)
 have hx1:=at_strs (xs:=ws) (i:=1) (by decide) (by rw [hw8];decide)
 have hx2:=at_strs (xs:=ws) (i:=2) (by decide) (by rw [hw8];decide)
 generalize ws.getD (0:Int).toNat "" = x0 at *
 generalize ws.getD (1:Int).toNat "" = x1 at *
 generalize ws.getD (2:Int).toNat "" = x2 at *
 refine ⟨_,rfl,_,_,rfl,rfl,⟨by decide,by decide⟩,_,_,rfl,rfl,(by show (0:Int) < _;decide),_,_,rfl,rfl,_,rfl,_,_,rfl,rfl,.inr ⟨by decide,by decide⟩,_,_,rfl,rfl,⟨by decide,by decide,by decide⟩,_,_,rfl,rfl,.inl ⟨by decide,by decide⟩,_,_,rfl,rfl,(by show (0:Int) < _;decide),_,_,rfl,rfl,⟨by decide,by decide,by decide⟩,_,_,rfl,rfl,sm rfl,fun l1 hl1=>?_⟩
 dsimp only
 generalize sd / 6 % 7 - 3=c1 at *
 generalize sd * 7919 % (2 * 10 ^ Int.toNat 15) - 10 ^ Int.toNat 15=c2 at *
 have s1:=same_new hl1 (.lst [V.int c1,V.int c2])
 have e1:upd H l1 (.lst [V.int c1,V.int c2]) l1=some (.lst [V.int c1,V.int c2]):=upd_same
 generalize upd H l1 (.lst [V.int c1,V.int c2])=H1 at *
 refine ⟨_,rfl,_,_,rfl,rfl,⟨by decide,by decide⟩,_,_,rfl,rfl,(by show (0:Int) < _;decide),?_⟩
 obtain ⟨mo,hmo⟩:=two_ints c1 c2 (i:=sd / 42 % 2) (Int.emod_nonneg _ (by decide)) (Int.emod_lt_of_pos _ (by decide))
 refine ⟨l1,_,_,_,rfl,rfl,SqL.of e1,hmo,?_⟩
 clear hmo e1 hl1
 refine ⟨_,rfl,_,_,rfl,rfl,(by show (0:Int) < _;decide),rfl,_,rfl,?_⟩
 refine ite2 (fun d=>?ga) (fun d=>?gb)
 case' gb=>
  refine ⟨_,rfl,sm rfl,fun l2 hl2=>?_⟩
  have s2:=same_new hl2 (.lst [])
  have e2:upd H1 l2 (.lst []) l2=some (.lst []):=upd_same
  generalize upd H1 l2 (.lst [])=H2 at *
  have s12:=s1.trans s2
  clear s1 s2 hl2
  refine ⟨fr,l2,_,_,fs.map D.str,[],rfl,rfl,s12 _ _ hfr,e2,Nat.le_of_eq (depth_strs fs),heldL_strs fs,heldL_nil,_,rfl,ite2 (fun dd=>?gc) (fun dd=>?gd)⟩
 case' ga=>
  have s12:=s1
  clear s1
  generalize H1=H2 at *
 case' gd=>
  have hfne:fs≠[]:=fun z=>dd (decide_eq_true (by rw [z];rfl))
  have hfpos:0 < fs.length:=List.length_pos_iff.mpr hfne
  refine ⟨_,rfl,sd,3,rfl,fun s3=>?_⟩
  refine ⟨_,rfl,_,rfl,s3,n,l,ws,rfl,s12 _ _ hl,hw8,hn0,hn1,fun ta tx td H3 t3 hta=>?_⟩
  have s13:=s12.trans t3
  refine ⟨_,rfl,sd,4,rfl,fun s4=>?_⟩
  refine ⟨_,rfl,_,rfl,s4,n,l,ws,rfl,s13 _ _ hl,hw8,hn0,hn1,fun ua ux ud H4 t4 hua=>?_⟩
  have s14:=s13.trans t4
  have hta4:=t4 _ _ hta
  have hfr4:=s14 _ _ hfr
  have hl4:=s14 _ _ hl
  clear t3 t4 hta s12 s13 hfr hl e2
  have r0:=Int.emod_nonneg (sd / 3) (b:=(fs.length:Int)) (by omega)
  have r1:=Int.emod_lt_of_pos (sd / 3) (b:=(fs.length:Int)) (by omega)
  have hr':=at_strs (xs:=fs) (i:=sd / 3 % fs.length) r0 r1
  generalize fs.getD (sd / 3 % (fs.length:Int)).toNat "" = r at *
  have q0:=Int.emod_nonneg (sd / 1512) (b:=(fs.length:Int)) (by omega)
  have q1:=Int.emod_lt_of_pos (sd / 1512) (b:=(fs.length:Int)) (by omega)
  have hq':=at_strs (xs:=fs) (i:=sd / 1512 % fs.length) q0 q1
  generalize fs.getD (sd / 1512 % (fs.length:Int)).toNat "" = rr at *
  have hml:((fs.map V.str).length:Int)=fs.length:=by rw [List.length_map]
  refine ⟨_,rfl,_,rfl,_,_,rfl,rfl,⟨by decide,by decide⟩,_,rfl,fr,_,rfl,.inl (SqL.of hfr4),_,_,rfl,rfl,(by show (0:Int) < ((fs.map V.str).length:Int);rw [hml];omega),fr,_,_,_,rfl,rfl,SqL.of hfr4,(by rw [hml];exact hr'),?_⟩
  refine ⟨_,rfl,_,_,rfl,rfl,(by show (0:Int) < _;decide),rfl,_,rfl,ite2 (fun e=>?ge) (fun e=>?gf)⟩
 case' gf=>
  refine ⟨_,rfl,_,rfl,_,rfl,sm rfl,fun t ht=>?_⟩
  have s5:=same_new ht (.tup [V.str "rise",V.ref ta,V.ref ua,V.str r])
  exact q _ (.rise tx td ux ud r) _ (s14.trans s5) (held_tup upd_same (heldL_cons held_str (heldL_cons (held_tup (s5 _ _ hta4) (heldL_cons held_str (heldL_cons held_int heldL_nil))) (heldL_cons (held_tup (s5 _ _ hua) (heldL_cons held_str (heldL_cons held_int heldL_nil))) (heldL_cons held_str heldL_nil))))) trivial
 case' ge=>
  refine ⟨_,rfl,l,_,_,_,rfl,rfl,SqL.of hl4,hx0,_,rfl,l,_,_,_,rfl,rfl,SqL.of hl4,hx1,_,rfl,l,_,_,_,rfl,rfl,SqL.of hl4,hx2,sm rfl,fun l3 hl3=>?_⟩
  have s5:=same_new hl3 (.lst [V.str "",V.str x0,V.str x1,V.str x2])
  have e5:upd H4 l3 (.lst [V.str "",V.str x0,V.str x1,V.str x2]) l3=some (.lst [V.str "",V.str x0,V.str x1,V.str x2]):=upd_same
  generalize upd H4 l3 (.lst [V.str "",V.str x0,V.str x1,V.str x2])=H5 at *
  obtain ⟨z,hz⟩:=four_strs "" x0 x1 x2 (i:=sd / 126 % 4) (Int.emod_nonneg _ (by decide)) (Int.emod_lt_of_pos _ (by decide))
  refine ⟨_,rfl,_,_,rfl,rfl,⟨by decide,by decide⟩,_,_,rfl,rfl,(by show (0:Int) < _;decide),l3,_,_,_,rfl,rfl,SqL.of e5,hz,sm rfl,fun t6 ht6=>?_⟩
  have s6:=same_new ht6 (.tup [V.str "is",V.str z])
  have e6:upd H5 t6 (.tup [V.str "is",V.str z]) t6=some (.tup [V.str "is",V.str z]):=upd_same
  generalize upd H5 t6 (.tup [V.str "is",V.str z])=H6 at *
  have s46:=s5.trans s6
  refine ⟨fun σ G=>∃ o kd x,σ=[some (.int sd),some (.ref l),some (.int n),some (.ref fr),some (.int mo),some (.ref ta),some (.ref ua),some (.str r),some (.ref o)]∧Same H6 G∧G o=some (.tup [.str kd,.str x]),?_,?_⟩
  ·refine ⟨_,rfl,_,_,rfl,rfl,⟨by decide,by decide⟩,_,_,rfl,rfl,(by show (0:Int) < _;decide),rfl,_,rfl,ite2 (fun e=>?_) (fun e=>?_)⟩
   ·have hfr6:=s46 _ _ hfr4
    refine ⟨_,rfl,_,rfl,_,_,rfl,rfl,⟨by decide,by decide⟩,_,rfl,fr,_,rfl,.inl (SqL.of hfr6),_,_,rfl,rfl,(by show (0:Int) < ((fs.map V.str).length:Int);rw [hml];omega),fr,_,_,_,rfl,rfl,SqL.of hfr6,(by rw [hml];exact hq'),sm rfl,fun t7 ht7=>?_⟩
    exact ⟨t7,"row",rr,rfl,same_new ht7 _,upd_same⟩
   ·exact ⟨t6,"is",z,rfl,Same.refl _,e6⟩
  rintro σ G ⟨o,kd,x,rfl,sG,ho⟩
  refine ⟨_,rfl,_,rfl,_,rfl,sm rfl,fun l8 hl8=>?_⟩
  have s8:=same_new hl8 (.lst [V.str ">=",V.str "<="])
  have e8:upd G l8 (.lst [V.str ">=",V.str "<="]) l8=some (.lst [V.str ">=",V.str "<="]):=upd_same
  generalize upd G l8 (.lst [V.str ">=",V.str "<="])=H8 at *
  obtain ⟨way,hway,hwo⟩:=two_ways (i:=sd / 84 % 2) (Int.emod_nonneg _ (by decide)) (Int.emod_lt_of_pos _ (by decide))
  refine ⟨_,rfl,_,_,rfl,rfl,⟨by decide,by decide⟩,_,_,rfl,rfl,(by show (0:Int) < _;decide),l8,_,_,_,rfl,rfl,SqL.of e8,hway,_,rfl,_,rfl,sm rfl,fun t9 ht9=>?_⟩
  have s9:=same_new ht9 (.tup [V.str "each",V.ref ta,V.ref ua,V.str r,V.str way,V.ref o,V.int mo])
  have sZ:=s46.trans (sG.trans (s8.trans s9))
  exact q _ (.each tx td ux ud r way kd x mo) _ (s14.trans sZ) (held_tup upd_same (heldL_cons held_str (heldL_cons (held_tup (sZ _ _ hta4) (heldL_cons held_str (heldL_cons held_int heldL_nil))) (heldL_cons (held_tup (sZ _ _ hua) (heldL_cons held_str (heldL_cons held_int heldL_nil))) (heldL_cons held_str (heldL_cons held_str (heldL_cons (held_tup ((s8.trans s9) _ _ ho) (heldL_cons held_str (heldL_cons held_str heldL_nil))) (heldL_cons held_int heldL_nil)))))))) hwo
 all_goals
  refine ⟨_,rfl,sd,1,rfl,fun s3=>?_⟩
  refine ⟨_,rfl,_,rfl,s3,n,l,ws,rfl,s12 _ _ hl,hw8,hn0,hn1,fun u tm H3 t3 hu=>?_⟩
  refine ⟨_,rfl,sd,2,rfl,fun s4=>?_⟩
  refine ⟨_,rfl,_,rfl,s4,n,l,ws,rfl,(s12.trans t3) _ _ hl,hw8,hn0,hn1,fun u2 tm2 H4 t4 hu2=>?_⟩
  refine ⟨_,rfl,sm rfl,fun t ht=>?_⟩
  have s5:=same_new ht (.tup [V.str "least",u,u2,V.int mo])
  exact q _ (.least tm tm2 mo) _ (s12.trans (t3.trans (t4.trans s5))) (held_tup upd_same (heldL_cons held_str (heldL_cons (hu.mono (t4.trans s5)) (heldL_cons (hu2.mono s5) (heldL_cons held_int heldL_nil))))) trivial
end
open PySem L2
section
variable {P:Program} {w:World} {K:PySem.W.Frag} {mg:Str→Option Value} {base:Heap}
theorem ok_fitted {f:Addr} {fd:FuncData} (F:Fun K "_law_fitted" "_law_fitted" sFitted f fd) (B:Free0 mg) (F_worth:Fn P w K mg base 2 "_law_worth" ["_law_term_here","_law_numbers","_law_rows"] spWorth) (F_gaps:Fn P w K mg base 2 "_law_gaps" ["_law_claim_here","_law_numbers","_law_rows"] spGaps):FnOk P w K mg base CX0 3 f fd ["_law_claim_here","_law_seed","_law_numbers","_law_rows"] spFitted:=by
 have sc:FnScope ["_law_claim_here","_law_seed","_law_numbers","_law_rows","_law_slack","_law_gap","_law_gaps_here"] ["_law_claim_here","_law_seed","_law_numbers","_law_rows"] (defScope sFitted):=⟨rfl,rfl,rfl,by decide +kernel,rfl,by decide +kernel,by decide +kernel⟩
 refine F.ok sc (fun vs H Q E h=>?_) (fun cdv A outer s H vs Q E hr h=>?_)
 ·obtain ⟨v,s,C,m,n,k,N,lvs,L,rfl,_⟩:=h
  rfl
 obtain ⟨v,sd,C,m,n,k,N,lvs,L,rfl,hv,hway,hm,hn,hV,hk,q⟩:=h
 have hu0:(A.deeper (PyProof.Rows.envOfC "_law_fitted" (defScope sFitted) s.heap.objs.size f cdv)).units+1+0 < cLine:=by have:=hr.units;omega
 refine ⟨_,(pss_cons (ps_set (i:=4) sc.nd rfl (by first | exact Or.inl rfl | exact Or.inr rfl) (pe_ix ix_list (pe_lst (pa_c (pe_op op_sub pe_int (pe_op op_mod (pe_op op_fdivB (pv 1) pe_int) pe_int)) (pa_c pe_int pa_nil))) (pe_cT call_int1 (by rfl) B.int_ bt_int (pa_c (pe_cmpR op_eq (pe_op op_mod (pv 1) pe_int) pe_int (nomark _)) pa_nil)) (fun _ _=>rfl)))
   (pss_cons (ps_if (pt_cmpR op_eq (pe_ix ix_tup (pv 0) pe_int (fun _ _=>rfl)) pe_str (nomark _)) (pss_cons (ps_set (i:=5) sc.nd rfl (by first | exact Or.inl rfl | exact Or.inr rfl) (pe_op op_sub (pe_fn F_worth hr (pa_c (pe_ix ix_tup (pv 0) pe_int (fun _ _=>rfl)) (pa_c (pv 2) (pa_c (pv 3) pa_nil)))) (pe_fn F_worth hr (pa_c (pe_ix ix_tup (pv 0) pe_int (fun _ _=>rfl)) (pa_c (pv 2) (pa_c (pv 3) pa_nil))))))
   (pss_one (ps_ret (pe_op op_catTC (pe_slice sl_tup (pv 0) po_none (po_some pe_int)) (pe_tup (pa_c (pe_op op_add (pv 5) (pv 4)) pa_nil)))))) pss_nil)
   (pss_cons (ps_if (pt_cmpR op_eq (pe_ix ix_tup (pv 0) pe_int (fun _ _=>rfl)) pe_str (nomark _)) (pss_cons (ps_set (i:=6) sc.nd rfl (by first | exact Or.inl rfl | exact Or.inr rfl) (pe_fn F_gaps hr (pa_c (pv 0) (pa_c (pv 2) (pa_c (pv 3) pa_nil)))))
   (pss_cons (ps_if (pw_and (pt_cmpR (op_neLL 0 hu0) (pv 6) (pe_lst pa_nil) (nomark _)) (pw_and1 (pt_cmpR op_eq (pe_ix ix_tup (pv 0) pe_int (fun _ _=>rfl)) pe_str (nomark _)))).pt (pss_one (ps_ret (pe_op op_catTC (pe_slice sl_tup (pv 0) po_none (po_some pe_int)) (pe_tup (pa_c (pe_op op_add (pe_cB (call_minL rfl) (by rfl) B.min_ bt_min (pa_c (pv 6) pa_nil)) (pv 4)) pa_nil))))) pss_nil)
   (pss_one (ps_if (pt_cmpR (op_neLL 0 hu0) (pv 6) (pe_lst pa_nil) (nomark _)) (pss_one (ps_ret (pe_op op_catTC (pe_slice sl_tup (pv 0) po_none (po_some pe_int)) (pe_tup (pa_c (pe_op op_sub (pe_cB (call_maxL rfl) (by rfl) B.max_ bt_max (pa_c (pv 6) pa_nil)) (pv 4)) pa_nil))))) pss_nil)))) pss_nil)
   (pss_one (ps_ret (pv 0)))))),?_⟩
 refine ⟨_,rfl,_,_,rfl,rfl,⟨by decide,by decide⟩,_,_,rfl,rfl,(by show (0:Int) < _;decide),_,_,rfl,rfl,sm rfl,fun l1 hl1=>?_⟩
 dsimp only
 generalize 0 - sd / 9 % 2=c1 at *
 have s1:=same_new hl1 (.lst [V.int c1,V.int 1])
 have e1:upd H l1 (.lst [V.int c1,V.int 1]) l1=some (.lst [V.int c1,V.int 1]):=upd_same
 generalize upd H l1 (.lst [V.int c1,V.int 1])=H1 at *
 refine ⟨_,rfl,_,_,rfl,rfl,(by show (0:Int) < _;decide),rfl,.inr ⟨_,rfl,?_⟩⟩
 obtain ⟨mo,hmo⟩:=two_ints c1 1 (i:=if decide (V.int (sd % 9)=V.int 0)=true then 1 else 0) (by split <;> decide) (by split <;> decide)
 refine ⟨l1,_,_,_,rfl,rfl,SqL.of e1,hmo,?_⟩
 clear hmo e1 hl1
 have hv1:=hv.mono s1
 have hm1:=s1 _ _ hm
 have hn1:=s1 _ _ hn
 have hV1:=RP.imp (fun _ _ h=>LF.tk (TK.same s1) h) hV
 cases C with
 | least ta tb c=>
  obtain ⟨a,u,z,rfl,ha,hu',hz⟩:=le_inv hv1
  refine ⟨_,rfl,a,_,_,_,rfl,rfl,SqT.of ha,rfl,rfl,_,rfl,?_⟩
  rw [decide_eq_true rfl]
  refine iteT ?_
  refine ⟨_,rfl,a,_,_,_,rfl,rfl,SqT.of ha,rfl,_,rfl,_,rfl,u,ta,m,n,k,N,lvs,L,rfl,hu',hm1,hn1,hV1,fun H2 s2=>?_⟩
  refine ⟨_,rfl,a,_,_,_,rfl,rfl,SqT.of (s2 _ _ ha),rfl,_,rfl,_,rfl,z,tb,m,n,k,N,lvs,L,rfl,hz.mono s2,s2 _ _ hm1,s2 _ _ hn1,RP.imp (fun _ _ h=>LF.tk (TK.same s2) h) hV1,fun H3 s3=>?_⟩
  have s23:=s2.trans s3
  refine ⟨_,_,rfl,rfl,?_⟩
  refine ⟨_,rfl,_,rfl,a,_,rfl,SqT.of (s23 _ _ ha),(fun h=>absurd h.2 (by show ¬ (HT.sIx 4 4 (some 3)=4);decide)),fun p hp=>?_⟩
  have s4:=same_new hp (.tup (cutV [V.str "least",u,z,V.int c] none (some 3)))
  have e4:upd H3 p (.tup (cutV [V.str "least",u,z,V.int c] none (some 3))) p=some (.tup [V.str "least",u,z]):=upd_same
  generalize upd H3 p (.tup (cutV [V.str "least",u,z,V.int c] none (some 3)))=H4 at *
  refine ⟨_,rfl,_,rfl,_,_,rfl,rfl,sm rfl,fun t5 ht5=>?_⟩
  dsimp only
  generalize ta.val N L - tb.val N L+mo=cc at *
  have s5:=same_new ht5 (.tup [V.int cc])
  have e5:upd H4 t5 (.tup [V.int cc]) t5=some (.tup [V.int cc]):=upd_same
  generalize upd H4 t5 (.tup [V.int cc])=H5 at *
  refine ⟨p,t5,_,_,rfl,rfl,s5 _ _ e4,e5,sm rfl,fun t6 H6 s6 e6=>?_⟩
  have sZ:=s23.trans (s4.trans (s5.trans s6))
  exact q _ (.least ta tb cc) _ (s1.trans sZ) (held_tup e6 (heldL_cons held_str (heldL_cons (hu'.mono sZ) (heldL_cons (hz.mono sZ) (heldL_cons held_int heldL_nil))))) trivial
 | each tx td ux ud r way kd x c=>
  obtain ⟨a,b,e,o,rfl,ha,hb,he,ho⟩:=ea_inv hv1
  refine ⟨_,rfl,a,_,_,_,rfl,rfl,SqT.of ha,rfl,rfl,_,rfl,?_⟩
  rw [decide_eq_false (by decide)]
  refine iteF ?_
  refine ⟨_,rfl,a,_,_,_,rfl,rfl,SqT.of ha,rfl,rfl,_,rfl,?_⟩
  rw [decide_eq_true rfl]
  refine iteT ?_
  refine ⟨_,rfl,_,rfl,_,rfl,_,tx,ux,r,way,kd,x,td,ud,c,m,n,k,N,lvs,L,rfl,hv1,hm1,hn1,hV1,hk,fun l gs H2 s2 hl hg hgl=>?_⟩
  have each:∀ (cc:Int) (p t6:Addr) (H6:Hp),Same H1 H6→H6 t6=some (.tup [V.str "each",V.ref b,V.ref e,V.str r,V.str way,V.ref o,V.int cc])→Q (.ref t6) H6:=fun cc p t6 H6 sZ e6=>
   q _ (.each tx td ux ud r way kd x cc) _ (s1.trans sZ) (held_tup e6 (heldL_cons held_str (heldL_cons (held_tup (sZ _ _ hb) (heldL_cons held_str (heldL_cons held_int heldL_nil))) (heldL_cons (held_tup (sZ _ _ he) (heldL_cons held_str (heldL_cons held_int heldL_nil))) (heldL_cons held_str (heldL_cons held_str (heldL_cons (held_tup (sZ _ _ ho) (heldL_cons held_str (heldL_cons held_str heldL_nil))) (heldL_cons held_int heldL_nil)))))))) hway
  refine ⟨_,rfl,sm rfl,fun l3 hl3=>?_⟩
  have s3:=same_new hl3 (.lst [])
  have e3:upd H2 l3 (.lst []) l3=some (.lst []):=upd_same
  generalize upd H2 l3 (.lst [])=H3 at *
  have s23:=s2.trans s3
  have hl3':=s3 _ _ hl
  refine ⟨l,l3,_,_,gs.map D.int,[],rfl,rfl,hl3',e3,Nat.le_of_eq (depth_ints gs),heldL_ints gs,heldL_nil,_,rfl,?_⟩
  by_cases hg0:gs=[]
  ·rw [decide_eq_true (show gs.map D.int=[] by rw [hg0];rfl)]
   refine iteF ?_
   refine iteF ?_
   refine ⟨_,rfl,sm rfl,fun l4 hl4=>?_⟩
   have s4:=same_new hl4 (.lst [])
   have e4:upd H3 l4 (.lst []) l4=some (.lst []):=upd_same
   generalize upd H3 l4 (.lst [])=H4 at *
   refine ⟨l,l4,_,_,gs.map D.int,[],rfl,rfl,s4 _ _ hl3',e4,Nat.le_of_eq (depth_ints gs),heldL_ints gs,heldL_nil,_,rfl,?_⟩
   rw [decide_eq_true (show gs.map D.int=[] by rw [hg0];rfl)]
   refine iteF ?_
   exact ⟨_,rfl,each c a a _ (s23.trans s4) ((s23.trans s4) _ _ ha)⟩
  ·rw [decide_eq_false (show ¬ gs.map D.int=[] from fun z=>hg0 (List.map_eq_nil_iff.mp z))]
   refine iteT ?_
   refine ⟨_,rfl,a,_,_,_,rfl,rfl,SqT.of (s23 _ _ ha),rfl,rfl,_,rfl,ite2 (fun d=>?_) (fun d=>?_)⟩
   ·refine ⟨_,rfl,_,rfl,a,_,rfl,SqT.of (s23 _ _ ha),(fun h=>absurd h.2 (by show ¬ (HT.sIx 7 7 (some 6)=7);decide)),fun p hp=>?_⟩
    have s4:=same_new hp (.tup (cutV [V.str "each",V.ref b,V.ref e,V.str r,V.str way,V.ref o,V.int c] none (some 6)))
    have e4:upd H3 p (.tup (cutV [V.str "each",V.ref b,V.ref e,V.str r,V.str way,V.ref o,V.int c] none (some 6))) p=some (.tup [V.str "each",V.ref b,V.ref e,V.str r,V.str way,V.ref o]):=upd_same
    generalize upd H3 p (.tup (cutV [V.str "each",V.ref b,V.ref e,V.str r,V.str way,V.ref o,V.int c] none (some 6)))=H4 at *
    refine ⟨_,rfl,l,gs,rfl,SqL.of (s4 _ _ hl3'),hg0,fun mm _ _=>?_⟩
    refine ⟨_,rfl,_,_,rfl,rfl,sm rfl,fun t5 ht5=>?_⟩
    have s5:=same_new ht5 (.tup [V.int (mm+mo)])
    have e5:upd H4 t5 (.tup [V.int (mm+mo)]) t5=some (.tup [V.int (mm+mo)]):=upd_same
    dsimp only
    generalize upd H4 t5 (.tup [V.int (mm+mo)])=H5 at *
    refine ⟨p,t5,_,_,rfl,rfl,s5 _ _ e4,e5,sm rfl,fun t6 H6 s6 e6=>?_⟩
    exact each (mm+mo) p t6 H6 (s23.trans (s4.trans (s5.trans s6))) e6
   ·refine ⟨_,rfl,sm rfl,fun l4 hl4=>?_⟩
    have s4:=same_new hl4 (.lst [])
    have e4:upd H3 l4 (.lst []) l4=some (.lst []):=upd_same
    generalize upd H3 l4 (.lst [])=H4 at *
    have hl4':=s4 _ _ hl3'
    refine ⟨l,l4,_,_,gs.map D.int,[],rfl,rfl,hl4',e4,Nat.le_of_eq (depth_ints gs),heldL_ints gs,heldL_nil,_,rfl,?_⟩
    rw [decide_eq_false (show ¬ gs.map D.int=[] from fun z=>hg0 (List.map_eq_nil_iff.mp z))]
    refine iteT ?_
    have s24:=s23.trans s4
    refine ⟨_,rfl,_,rfl,a,_,rfl,SqT.of (s24 _ _ ha),(fun h=>absurd h.2 (by show ¬ (HT.sIx 7 7 (some 6)=7);decide)),fun p hp=>?_⟩
    have s5:=same_new hp (.tup (cutV [V.str "each",V.ref b,V.ref e,V.str r,V.str way,V.ref o,V.int c] none (some 6)))
    have e5:upd H4 p (.tup (cutV [V.str "each",V.ref b,V.ref e,V.str r,V.str way,V.ref o,V.int c] none (some 6))) p=some (.tup [V.str "each",V.ref b,V.ref e,V.str r,V.str way,V.ref o]):=upd_same
    generalize upd H4 p (.tup (cutV [V.str "each",V.ref b,V.ref e,V.str r,V.str way,V.ref o,V.int c] none (some 6)))=H5 at *
    refine ⟨_,rfl,l,gs,rfl,SqL.of (s5 _ _ hl4'),hg0,fun mm _ _=>?_⟩
    refine ⟨_,rfl,_,_,rfl,rfl,sm rfl,fun t5 ht5=>?_⟩
    have s6:=same_new ht5 (.tup [V.int (mm - mo)])
    have e6:upd H5 t5 (.tup [V.int (mm - mo)]) t5=some (.tup [V.int (mm - mo)]):=upd_same
    dsimp only
    generalize upd H5 t5 (.tup [V.int (mm - mo)])=H6 at *
    refine ⟨p,t5,_,_,rfl,rfl,s6 _ _ e5,e6,sm rfl,fun t7 H7 s7 e7=>?_⟩
    exact each (mm - mo) p t7 H7 (s24.trans (s5.trans (s6.trans s7))) e7
 | rise tx td ux ud r=>
  have hv0:=hv1
  obtain ⟨a,b,e,rfl,ha,hb,he⟩:=ri_inv hv1
  refine ⟨_,rfl,a,_,_,_,rfl,rfl,SqT.of ha,rfl,rfl,_,rfl,?_⟩
  rw [decide_eq_false (by decide)]
  refine iteF ?_
  refine ⟨_,rfl,a,_,_,_,rfl,rfl,SqT.of ha,rfl,rfl,_,rfl,?_⟩
  rw [decide_eq_false (by decide)]
  refine iteF ?_
  exact ⟨_,rfl,q _ (.rise tx td ux ud r) _ s1 hv0 trivial⟩
end
end LW
namespace L2
open PySem PySem.Spec PyProof.Rows PySem.W
theorem op_alt {X:Cx} {f:Value→Value→Sem Value} {r1 r2:R2} (h1:OpR X f r1) (h2:OpR X f r2):OpR X f (fun x y H Q=>r1 x y H Q∨r2 x y H Q):=by
 intro pins s σ H x y v u Q I rx ry h
 rcases h with h | h
 ·exact h1 pins s σ H x y v u Q I rx ry h
 ·exact h2 pins s σ H x y v u Q I rx ry h
theorem op_neSDD {X:Cx} (n:Nat) (hu:X.A.units+1+1+n < cLine):OpR X (compareOp .NotEq) (fun x y H Q=>∃ (t t' a a' b b':Addr) (z:Str) (k1 k1' k2 k2':List (Key×V)),x=.ref t∧y=.ref t'∧H t=some (.tup [.str z,.ref a,.ref b])∧H t'=some (.tup [.str z,.ref a',.ref b'])∧
  H a=some (.dK k1)∧H a'=some (.dK k1')∧LikeD X.K H n k1 k1'∧H b=some (.dK k2)∧H b'=some (.dK k2')∧LikeD X.K H n k2 k2'∧Q (.bl false) H):=by
 intro pins s σ H x y v u Q I rx ry h
 obtain ⟨t,t',a,a',b,b',z,k1,k1',k2,k2',rfl,rfl,ht,ht',ha,ha',l1,hb,hb',l2,q⟩:=h
 cases rx;cases ry
 obtain ⟨its,rva,ta,_⟩:=I.tuple (SqT.of ht)
 obtain ⟨its2,rvb,tb,_⟩:=I.tuple (SqT.of ht')
 obtain ⟨u1,u2,u3,rfl,r1,r2,r3⟩:=vals_3 rva
 obtain ⟨w1,w2,w3,rfl,q1,q2,q3⟩:=vals_3 rvb
 cases r2;cases r3;cases q2;cases q3
 obtain ⟨t1,rfl⟩:=r1
 obtain ⟨t2,rfl⟩:=q1
 refine ne_tuples (show s.heap.IsTuple t _ from ta) (show s.heap.IsTuple t' _ from tb) rfl (by omega) (fun p hp Q' E' q'=>?_) ⟨.bl false,H,I,rfl,q⟩
 have hp':p=(Value.str z t1,Value.str z t2)∨p=(Value.ref a,Value.ref a')∨p=(Value.ref b,Value.ref b'):=by simpa using hp
 rcases hp' with rfl | rfl | rfl
 ·have:=SeqAt.EqAt.str_str (A:=X.A.in1) (s:=s) z t1 z t2
  rw [beq_self_eq_true] at this
  exact this X.prog X.w E' Q' q'
 ·exact eq_dicts I (by show X.A.units+1+1+n < cLine;exact hu) ha ha' l1 q'
 ·exact eq_dicts I (by show X.A.units+1+1+n < cLine;exact hu) hb hb' l2 q'
end L2
namespace LW
open PySem L2
theorem lkA_mem {α:Type} {r:Str} {q:α}:∀ {L:List (Str×α)},NdA L→(r,q)∈L→lkA L r=some q
 | [],_,h=>by cases h
 | p :: L,nd,h=>by
  have nd':(p.1 :: L.map (·.1)).Nodup:=nd
  rw [List.nodup_cons] at nd'
  unfold lkA
  rw [List.find?_cons]
  rcases List.mem_cons.mp h with e | e
  ·subst e
   rw [decide_eq_true rfl]
   rfl
  ·have:p.1≠r:=fun z=>nd'.1 (by rw [z];exact List.mem_map.mpr ⟨_,e,rfl⟩)
   rw [decide_eq_false this]
   exact lkA_mem (L:=L) nd'.2 e
theorem two_like {K:PySem.W.Frag} {H:Hp} {n:Nat} {x1 x2 y1 y2:V} (h1:LikeV K H n x1 y1) (h2:LikeV K H n x2 y2) (j:Nat) (x' y':V) (e1:[x1,x2][j]?=some x') (e2:[y1,y2][j]?=some y'):LikeV K H n x' y':=by
 match j with
 | 0=>cases e1;cases e2;exact h1
 | 1=>cases e1;cases e2;exact h2
 | j+2=>simp at e1
theorem rowat_like {K:PySem.W.Frag} {H:Hp} {v v':V} {r:Int×List (Int×Int)} (h:RowAt K H v r) (h':RowAt K H v' r):LikeV K H 3 v v':=by
 obtain ⟨a,b,qs,rfl,s1,s2,s3⟩:=h.ex
 obtain ⟨a',b',qs',rfl,t1,t2,t3⟩:=h'.ex
 refine .inr (.inl ⟨a,a',_,_,rfl,rfl,s1,t1,rfl,two_like (like_int _ _) (.inr (.inl ⟨b,b',qs,qs',rfl,rfl,s2,t2,by rw [s3.1,t3.1],fun j x' y' e1 e2=>?_⟩))⟩)
 have hj:j < r.2.length:=by
  have:=(List.getElem?_eq_some_iff.mp e1).1
  rw [s3.1] at this
  exact this
 obtain ⟨c,f1,f2⟩:=s3.2 j hj
 obtain ⟨c',g1,g2⟩:=t3.2 j hj
 rw [f1] at e1
 rw [g1] at e2
 cases e1
 cases e2
 exact .inr (.inl ⟨c,c',_,_,rfl,rfl,f2,g2,rfl,two_like (like_int _ _) (like_int _ _)⟩)
theorem rows_like {K:PySem.W.Frag} {H:Hp} {q:LRow} {v v':V} (h:RowIs K H q v) (h':RowIs K H q v'):LikeV K H 3 v v':=by
 obtain ⟨R,h1,c1,_,e1⟩:=h
 obtain ⟨R',h2,c2,_,e2⟩:=h'
 have:R=R':=canon_eq c1 c2 fun z=>by rw [e1,e2]
 subst this
 exact rowat_like h1 h2
theorem RV.mem {K:PySem.W.Frag} {H:Hp} {n:Nat} {k:Key} {v:V}:∀ {rvs:List (Key×V)} {L:List (Str×LRow)},RV K H n rvs L→(k,v)∈rvs→∃ r q,(r,q)∈L∧k=Sum.inr r∧RowIs K H q v∧q.2.2.length≤n
 | [],[],_,h=>by cases h
 | p :: rvs,z :: L,⟨⟨h1,h2,h3⟩,h4⟩,h=>by
  rcases List.mem_cons.mp h with e | e
  ·subst e
   exact ⟨z.1,z.2,List.mem_cons_self,h1,h2,h3⟩
  ·obtain ⟨r,q,e1,e2⟩:=RV.mem h4 e
   exact ⟨r,q,List.mem_cons_of_mem _ e1,e2⟩
theorem rv_like {K:PySem.W.Frag} {H:Hp} {n m:Nat} {rvs rvs2:List (Key×V)} {L:List (Str×LRow)} (nd:NdA L) (h:RV K H n rvs L) (h':RV K H m rvs2 L):LikeD K H 3 rvs rvs2:=by
 refine ⟨by rw [h.len,h'.len],fun k v e=>?_⟩
 obtain ⟨r,q,e1,rfl,e2,_⟩:=h.mem e
 have e3:=lkA_mem nd e1
 rcases h'.val r with ⟨f1,f2⟩ | ⟨v',q',f1,f2,f3,_⟩
 ·rw [f2] at e3;cases e3
 ·rw [f2] at e3
  cases e3
  exact ⟨v',f1,rows_like e2 f3⟩
theorem nkv_like {K:PySem.W.Frag} {H:Hp} {N:List (Str×Int)} (nd:NdA N) (n:Nat):LikeD K H n (nKV N) (nKV N):=by
 refine ⟨rfl,fun k v e=>?_⟩
 obtain ⟨q,e1,e2⟩:=List.mem_map.mp e
 cases e2
 rw [nkv_val,lkA_mem nd (show (q.1,q.2)∈N from e1)]
 exact ⟨_,rfl,like_int _ _⟩
def takes:Rw→Nat
 | .any _=>1
 | .lose _=>1
 | _=>0
theorem step_takes (P:List Pk) (s:Stt) (rw:Rw):(stepL P s rw).1=s.1+takes rw:=by cases rw <;> rfl
theorem runL_cons (P:List Pk) (s:Stt) (rw:Rw) (R:List Rw):runL P s (rw :: R)=runL P (stepL P s rw) R:=rfl
theorem runL_snoc (P:List Pk) (s:Stt) (rw:Rw) (R:List Rw):runL P s (R++[rw])=stepL P (runL P s R) rw:=by
 unfold runL
 rw [List.foldl_append]
 rfl
theorem runL_mono (P:List Pk):∀ (R:List Rw) (s:Stt),s.1≤(runL P s R).1
 | [],_=>Nat.le_refl _
 | rw :: R,s=>by
  rw [runL_cons]
  have:=runL_mono P R (stepL P s rw)
  rw [step_takes] at this
  omega
theorem runL_le (P:List Pk):∀ (R:List Rw) (s:Stt),(runL P s R).1≤s.1+R.length
 | [],_=>Nat.le_refl _
 | rw :: R,s=>by
  rw [runL_cons,List.length_cons]
  have:=runL_le P R (stepL P s rw)
  rw [step_takes] at this
  have:takes rw≤1:=by cases rw <;> simp [takes]
  omega
theorem get_snoc {P:List Pk} {x:Pk} {j:Nat} (h:j < P.length):(P++[x])[j]?=P[j]?:=List.getElem?_append_left h
theorem step_more {P:List Pk} {x:Pk} {s:Stt} {rw:Rw} (h:takes rw=1→s.1 < P.length):stepL (P++[x]) s rw=stepL P s rw:=by
 cases rw with
 | set x t c=>rfl
 | put r x d t c=>rfl
 | any y=>
  show (s.1+1,putA s.2.1 y (pkNum (P++[x]) s.1),s.2.2)=(s.1+1,putA s.2.1 y (pkNum P s.1),s.2.2)
  unfold pkNum
  rw [get_snoc (h rfl)]
 | lose r=>
  show (s.1+1,s.2.1,putA s.2.2 r (pkRow (P++[x]) s.1))=(s.1+1,s.2.1,putA s.2.2 r (pkRow P s.1))
  unfold pkRow
  rw [get_snoc (h rfl)]
theorem first_lt {P:List Pk} {s:Stt} {rw:Rw} {R:List Rw} {n:Nat} (h:(runL P s (rw :: R)).1≤n) (e:takes rw=1):s.1 < n:=by
 rw [runL_cons] at h
 have:=runL_mono P R (stepL P s rw)
 rw [step_takes,e] at this
 omega
theorem runL_more {P:List Pk} {x:Pk}:∀ (R:List Rw) (s:Stt),(runL P s R).1≤P.length→runL (P++[x]) s R=runL P s R
 | [],_,_=>rfl
 | rw :: R,s,h=>by
  rw [runL_cons,runL_cons,step_more (fun e=>first_lt h e)]
  exact runL_more R _ h
def okL (P:List Pk):Stt→List Rw→Prop
 | _,[]=>True
 | s,rw :: R=>pickOk P s.1 rw∧okL P (stepL P s rw) R
theorem pickOk_more {P:List Pk} {x:Pk} {j:Nat} {rw:Rw} (h:takes rw=1→j < P.length) (k:pickOk P j rw):pickOk (P++[x]) j rw:=by
 cases rw with
 | set x t c=>trivial
 | put r x d t c=>trivial
 | any y=>intro z e;rw [get_snoc (h rfl)] at e;exact k z e
 | lose r=>intro z e;rw [get_snoc (h rfl)] at e;exact k z e
theorem okL_more {P:List Pk} {x:Pk}:∀ (R:List Rw) (s:Stt),(runL P s R).1≤P.length→okL P s R→okL (P++[x]) s R
 | [],_,_,_=>trivial
 | rw :: R,s,h,⟨k1,k2⟩=>by
  refine ⟨pickOk_more (fun e=>first_lt h e) k1,?_⟩
  rw [step_more (fun e=>first_lt h e)]
  exact okL_more R _ h k2
theorem okL_snoc {P:List Pk} {rw:Rw}:∀ (R:List Rw) (s:Stt),okL P s R→pickOk P (runL P s R).1 rw→okL P s (R++[rw])
 | [],_,_,h=>⟨h,trivial⟩
 | q :: R,s,⟨k1,k2⟩,h=>⟨k1,okL_snoc R _ k2 h⟩
theorem step_nd {P:List Pk} {s:Stt} {rw:Rw} (h1:NdA s.2.1) (h2:NdA s.2.2):NdA (stepL P s rw).2.1∧NdA (stepL P s rw).2.2:=by
 cases rw with
 | set x t c=>exact ⟨putA_nd _ _ h1,h2⟩
 | put r x d t c=>exact ⟨h1,putA_nd _ _ h2⟩
 | any y=>exact ⟨putA_nd _ _ h1,h2⟩
 | lose r=>exact ⟨h1,putA_nd _ _ h2⟩
theorem step_len {P:List Pk} {s:Stt} {rw:Rw}:(stepL P s rw).2.1.length≤s.2.1.length+1∧(stepL P s rw).2.2.length≤s.2.2.length+1:=by
 cases rw with
 | set x t c=>exact ⟨putA_len _ _ _,Nat.le_succ _⟩
 | put r x d t c=>exact ⟨Nat.le_succ _,putA_len _ _ _⟩
 | any y=>exact ⟨putA_len _ _ _,Nat.le_succ _⟩
 | lose r=>exact ⟨Nat.le_succ _,putA_len _ _ _⟩
theorem putA_take {α:Type} {L:List (Str×α)} (nd:NdA L) {i:Nat} (h:i < L.length):putA (L.take i) L[i].1 L[i].2=L.take (i+1):=by
 have hn:¬ ((L.take i).any fun q=>decide (q.1=L[i].1))=true:=by
  intro e
  obtain ⟨q,hq,e2⟩:=List.any_eq_true.mp e
  have e3:=of_decide_eq_true e2
  obtain ⟨j,hj,rfl⟩:=List.mem_iff_getElem.mp hq
  rw [List.length_take] at hj
  rw [List.getElem_take] at e3
  have hj':j < L.length:=by omega
  have e4:(L.map (·.1))[j]'(by rw [List.length_map];exact hj')=(L.map (·.1))[i]'(by rw [List.length_map];exact h):=by
   rw [List.getElem_map,List.getElem_map]
   exact e3
  have:=(List.getElem_inj nd).mp e4
  omega
 unfold putA
 rw [if_neg hn,List.take_succ,List.getElem?_eq_getElem h]
 rfl
theorem RP.nth {F:LRow→V→Prop}:∀ {rvs:List (Key×V)} {L:List (Str×LRow)},RP F rvs L→∀ {i:Nat} {k:Key} {v:V},rvs[i]?=some (k,v)→∃ h:i < L.length,k=Sum.inr L[i].1∧F L[i].2 v
 | [],[],_,i,k,v,e=>by simp at e
 | p :: rvs,q :: L,⟨⟨h1,h2⟩,h4⟩,0,k,v,e=>by
  have:p=(k,v):=by simpa using e
  subst this
  exact ⟨by simp,h1,h2⟩
 | p :: rvs,q :: L,⟨_,h4⟩,i+1,k,v,e=>by
  obtain ⟨h,e1,e2⟩:=RP.nth h4 (i:=i) (k:=k) (v:=v) (by simpa using e)
  exact ⟨by simpa using h,by simpa using e1,by simpa using e2⟩
theorem RP.valn {F:LRow→V→Prop} {rvs:List (Key×V)} {L:List (Str×LRow)} (nd:NdA L) (h:RP F rvs L) {i:Nat} (hi:i < L.length):∃ v,valV rvs (Sum.inr L[i].1)=some v∧F L[i].2 v:=by
 have e:=lkA_mem nd (show (L[i].1,L[i].2)∈L from List.getElem_mem hi)
 rcases h.val L[i].1 with ⟨_,f⟩ | ⟨v,q,f1,f2,f3⟩
 ·rw [f] at e;cases e
 ·rw [f2] at e
  cases e
  exact ⟨v,f1,f3⟩
theorem PKs.snoc {K:PySem.W.Frag} {H:Hp} {P:List Pk} {vs:List V} {x:Pk} {v:V} (h:PKs K H P vs) (hx:PkIs K H x v):PKs K H (P++[x]) (vs++[v]):=by
 refine ⟨by rw [List.length_append,List.length_append,h.1];rfl,fun j k u e1 e2=>?_⟩
 by_cases hj:j < P.length
 ·rw [List.getElem?_append_left hj] at e1
  rw [List.getElem?_append_left (by rw [← h.1];exact hj)] at e2
  exact h.2 j k u e1 e2
 ·rw [List.getElem?_append_right (by omega)] at e1
  rw [List.getElem?_append_right (by rw [← h.1];omega)] at e2
  have e0:j - P.length=0:=by
   have:=(List.getElem?_eq_some_iff.mp e1).1
   rw [List.length_singleton] at this
   omega
  rw [e0] at e1
  rw [← h.1,e0] at e2
  cases e1
  cases e2
  exact hx
theorem rowIs_held {K:PySem.W.Frag} {H:Hp} {q:LRow} {u:V} {R:List (Int×Int)} (h1:Held H (rowD q.1 R) u) (h2:Canon q.1 R) (h3:R.length≤40+2 * q.2.2.length) (h4:∀ z,heldN q.1 R z=heldW q z):RowIs K H q u:=⟨R,row_at_held h1,h2,h3,h4⟩
theorem pkNum_new (P:List Pk) (c:Int):pkNum (P++[.num c]) P.length=c:=by unfold pkNum;simp
theorem pkRow_new (P:List Pk) (q:LRow):pkRow (P++[.row q]) P.length=q:=by unfold pkRow;simp
theorem heldL_snoc41 {H:Hp} {v:V} {d:D}:∀ {ds:List D} {vs:List V},HeldL H ds vs→Held H d v→HeldL H (ds++[d]) (vs++[v])
 | [],_,h,hd=>by
  cases heldL_nil_inv h
  exact heldL_cons hd heldL_nil
 | e :: ds,_,h,hd=>by
  obtain ⟨v1,r1,rfl,e1,h2⟩:=heldL_cons_inv h
  exact heldL_cons e1 (heldL_snoc41 h2 hd)
theorem rwsOf_snoc_row (R:List Rk) (rw:Rw):rwsOf (R++[.row rw])=rwsOf R++[rw]:=by
 unfold rwsOf
 rw [List.filterMap_append]
 rfl
theorem rwsOf_snoc_know (R:List Rk) (C:Cl):rwsOf (R++[.know C])=rwsOf R:=by
 unfold rwsOf
 rw [List.filterMap_append]
 show _++[]=_
 rw [List.append_nil]
theorem runL_append (P:List Pk) (s:Stt) (R R':List Rw):runL P s (R++R')=runL P (runL P s R) R':=by
 unfold runL
 rw [List.foldl_append]
theorem stK_take_le {P:List Pk} {s:Stt} {R:List Rk} (j:Nat):(stK P s (R.take j)).1≤(stK P s R).1:=by
 have e:stK P s R=runL P (stK P s (R.take j)) (rwsOf (R.drop j)):=by
  unfold stK
  rw [← runL_append]
  congr 1
  unfold rwsOf
  rw [← List.filterMap_append,List.take_append_drop]
 rw [e]
 exact runL_mono _ _ _
theorem stK_more {P:List Pk} {x:Pk} {s:Stt} {R:List Rk} (h:(stK P s R).1≤P.length) (j:Nat):stK (P++[x]) s (R.take j)=stK P s (R.take j):=runL_more _ _ (Nat.le_trans (stK_take_le j) h)
theorem know_more {P:List Pk} {x:Pk} {s:Stt} {R:List Rk} (h:(stK P s R).1≤P.length) (j:Nat):KnowAt (P++[x]) s R j↔KnowAt P s R j:=by
 unfold KnowAt
 rw [stK_more h]
theorem know_snoc {P:List Pk} {s:Stt} {R:List Rk} {rk:Rk} {j:Nat} (h:j < R.length):KnowAt P s (R++[rk]) j↔KnowAt P s R j:=by
 unfold KnowAt
 rw [List.getElem?_append_left h,List.take_append_of_le_length (Nat.le_of_lt h)]
theorem know_row {P:List Pk} {s:Stt} {R:List Rk} {rw:Rw}:KnowAt P s (R++[.row rw]) R.length:=by
 intro C e
 simp at e
theorem know_last {P:List Pk} {s:Stt} {R:List Rk} {C:Cl}:KnowAt P s (R++[.know C]) R.length↔C.Tru (stK P s R).2.1 (stK P s R).2.2:=by
 unfold KnowAt
 rw [List.getElem?_concat_length,List.take_append_of_le_length (Nat.le_refl _),List.take_length]
 exact ⟨(fun h=>h C rfl),(fun h C' e=>by cases e;exact h)⟩
theorem okK:∀ {P:List Pk} {R:List Rk} {s:Stt},okL P s (rwsOf R)→∀ (i:Nat) (rw:Rw),R[i]?=some (.row rw)→pickOk P (stK P s (R.take i)).1 rw
 | P,[],s,_,i,rw,e=>by simp at e
 | P,.row q :: R,s,h,0,rw,e=>by
  have e':q=rw:=by simpa using e
  subst e'
  exact h.1
 | P,.row q :: R,s,h,i+1,rw,e=>okK (R:=R) (s:=stepL P s q) h.2 i rw (by simpa using e)
 | P,.know C :: R,s,h,0,rw,e=>by simp at e
 | P,.know C :: R,s,h,i+1,rw,e=>okK (R:=R) (s:=s) h i rw (by simpa using e)
def DueIs (G:Hp) (P:List Pk) (s:Stt) (R:List Rk) (dv:V):Prop:=(dv=.non∧∀ j,j < R.length→KnowAt P s R j)∨∃ (d:Addr) (k:Nat),dv=.ref d∧G d=some (.tup [.str "barred",.int k])∧k < R.length∧(∀ j,j < k→KnowAt P s R j)∧¬ KnowAt P s R k
theorem DueIs.tk {G G':Hp} {P:List Pk} {s:Stt} {R:List Rk} {dv:V} (t:TK G G') (h:DueIs G P s R dv):DueIs G' P s R dv:=by
 rcases h with h | ⟨d,k,h1,h2,h3⟩
 ·exact .inl h
 ·exact .inr ⟨d,k,h1,t _ _ h2,h3⟩
theorem DueIs.more {G:Hp} {P:List Pk} {x:Pk} {s:Stt} {R:List Rk} {dv:V} (hl:(stK P s R).1≤P.length) (h:DueIs G P s R dv):DueIs G (P++[x]) s R dv:=by
 rcases h with ⟨h1,h2⟩ | ⟨d,k,h1,h2,h3,h4,h5⟩
 ·exact .inl ⟨h1,fun j hj=>(know_more hl j).mpr (h2 j hj)⟩
 ·exact .inr ⟨d,k,h1,h2,h3,fun j hj=>(know_more hl j).mpr (h4 j hj),fun z=>h5 ((know_more hl k).mp z)⟩
theorem lt_snoc {R:List Rk} {rk:Rk} {j:Nat} (h:j < (R++[rk]).length):j < R.length∨j=R.length:=by
 rw [List.length_append,List.length_singleton] at h
 omega
theorem DueIs.bar {G:Hp} {P:List Pk} {s:Stt} {R:List Rk} {rk:Rk} {d:Addr} {k:Nat} (h2:G d=some (.tup [.str "barred",.int k])) (h3:k < R.length) (h4:∀ j,j < k→KnowAt P s R j) (h5:¬ KnowAt P s R k):DueIs G P s (R++[rk]) (.ref d):=
 .inr ⟨d,k,rfl,h2,by rw [List.length_append];omega,fun j hj=>(know_snoc (by omega)).mpr (h4 j hj),fun z=>h5 ((know_snoc h3).mp z)⟩
theorem DueIs.row {G:Hp} {P:List Pk} {s:Stt} {R:List Rk} {rw:Rw} {dv:V} (h:DueIs G P s R dv):DueIs G P s (R++[.row rw]) dv:=by
 rcases h with ⟨h1,h2⟩ | ⟨d,k,rfl,h2,h3,h4,h5⟩
 ·refine .inl ⟨h1,fun j hj=>?_⟩
  rcases lt_snoc hj with c | c
  ·exact (know_snoc c).mpr (h2 j c)
  ·rw [c];exact know_row
 ·exact .bar h2 h3 h4 h5
theorem DueIs.know_ok {G:Hp} {P:List Pk} {s:Stt} {R:List Rk} {C:Cl} {dv:V} (h:DueIs G P s R dv) (hC:dv=.non→C.Tru (stK P s R).2.1 (stK P s R).2.2):DueIs G P s (R++[.know C]) dv:=by
 rcases h with ⟨h1,h2⟩ | ⟨d,k,rfl,h2,h3,h4,h5⟩
 ·refine .inl ⟨h1,fun j hj=>?_⟩
  rcases lt_snoc hj with c | c
  ·exact (know_snoc c).mpr (h2 j c)
  ·rw [c];exact know_last.mpr (hC h1)
 ·exact .bar h2 h3 h4 h5
theorem DueIs.know_no {G:Hp} {P:List Pk} {s:Stt} {R:List Rk} {C:Cl} {d:Addr} (h:DueIs G P s R .non) (hC:¬ C.Tru (stK P s R).2.1 (stK P s R).2.2) (hd:G d=some (.tup [.str "barred",.int R.length])):DueIs G P s (R++[.know C]) (.ref d):=by
 rcases h with ⟨h1,h2⟩ | ⟨d,k,e,_⟩
 ·exact .inr ⟨d,R.length,rfl,hd,by rw [List.length_append];exact Nat.lt_succ_self _,fun j hj=>(know_snoc hj).mpr (h2 j hj),fun z=>hC (know_last.mp z)⟩
 ·cases e
theorem RowK.snoc {H:Hp} {R:List Rk} {qs:List V} {rk:Rk} {v:V} (h:RowK H R qs) (hv:Held H rk.toD v):RowK H (R++[rk]) (qs++[v]):=by
 unfold RowK at *
 rw [List.map_append]
 exact heldL_snoc41 h hv
theorem rowK_tk {G G':Hp} {R:List Rk} {qs:List V} (t:TK G G') (h:RowK G R qs):RowK G' R qs:=t.heldL h
open PySem L2
structure LC where
 K:PySem.W.Frag
 H1:Hp
 sa:Addr
 l:Addr
 st:Addr
 m1:Addr
 n1:Addr
 pk:Addr
 sl:Addr
 m:Addr
 rr:Addr
 lc:Addr
 near:Int
 x6:Option V
 cs:List Int
 N:List (Str×Int)
 L:List (Str×LRow)
 rvs:List (Key×V)
structure Fr (c:LC) (G:Hp):Prop where
 same:Same c.H1 G
 lc:G c.lc=some (.lst (c.cs.map V.int))
 st:G c.st=some (.tup [.ref c.m1,.ref c.n1,.ref c.pk])
 m1:G c.m1=some (.dK (nKV c.N))
 n1:G c.n1=some (.dK c.rvs)
 rv:RV c.K G 0 c.rvs c.L
structure LCok (c:LC):Prop where
 hm:c.H1 c.m=none
 hr:c.H1 c.rr=none
 hs:c.H1 c.sl=none
 hp:c.H1 c.pk=none
 mr:c.m≠c.rr
 m1m:c.m1≠c.m
 m1r:c.m1≠c.rr
 n1m:c.n1≠c.m
 n1r:c.n1≠c.rr
 lcs:c.lc≠c.sl
 lcp:c.lc≠c.pk
 sp:c.sl≠c.pk
theorem Fr.mono {c:LC} {G G':Hp} (h:Fr c G) (s:Same G G'):Fr c G':=⟨h.same.trans s,s _ _ h.lc,s _ _ h.st,s _ _ h.m1,s _ _ h.n1,h.rv.tk (TKF.same s)⟩
theorem Fr.updL {c:LC} {G:Hp} {a:Addr} {xs ys:List V} (h:Fr c G) (e:G a=some (.lst xs)) (h1:c.H1 a=none) (h2:c.lc≠a):Fr c (upd G a (.lst ys)):=
 ⟨fun b o z=>by rw [upd_ne (ne_of_none z h1)];exact h.same _ _ z,by rw [upd_ne h2];exact h.lc,by rw [upd_ne (ne_of h.st e (by intro z;cases z))];exact h.st,by rw [upd_ne (ne_of h.m1 e (by intro z;cases z))];exact h.m1,
  by rw [upd_ne (ne_of h.n1 e (by intro z;cases z))];exact h.n1,h.rv.tk (TKF.updL e)⟩
theorem tkf_gone {G G':Hp} {m r:Addr} {k1 k2:List (Key×V)} (hm:G m=some (.dK k1)) (hr:G r=some (.dK k2)) (k:∀ b o,b≠m→b≠r→G b=some o→G' b=some o):TKF G G':=
 ⟨fun b xs e=>k b _ (by rintro rfl;rw [hm] at e;cases e) (by rintro rfl;rw [hr] at e;cases e) e,fun b o u e=>k b _ (by rintro rfl;rw [hm] at e;cases e) (by rintro rfl;rw [hr] at e;cases e) e⟩
theorem Fr.gone {c:LC} (ok:LCok c) {G G':Hp} {k1 k2:List (Key×V)} (h:Fr c G) (hm:G c.m=some (.dK k1)) (hr:G c.rr=some (.dK k2)) (k:∀ b o,b≠c.m→b≠c.rr→G b=some o→G' b=some o):Fr c G':=
 ⟨fun b o z=>k b o (ne_of_none z ok.hm) (ne_of_none z ok.hr) (h.same _ _ z),k _ _ (ne_of h.lc hm (by intro z;cases z)) (ne_of h.lc hr (by intro z;cases z)) h.lc,k _ _ (ne_of h.st hm (by intro z;cases z)) (ne_of h.st hr (by intro z;cases z)) h.st,
  k _ _ ok.m1m ok.m1r h.m1,k _ _ ok.n1m ok.n1r h.n1,h.rv.tk (tkf_gone hm hr k)⟩
structure Mid (c:LC) (i:Nat) (G:Hp) (R:List Rw) (P:List Pk) (pks:List V) (lv:List (Key×V)):Prop where
 fr:Fr c G
 hi:R.length≤i
 pk:G c.pk=some (.lst pks)
 ps:PKs c.K G P pks
 ok:okL P (0,c.N,c.L) R
 m:G c.m=some (.dK (nKV (runL P (0,c.N,c.L) R).2.1))
 rr:G c.rr=some (.dK lv)
 rp:RP (LF G i) lv (runL P (0,c.N,c.L) R).2.2
 l1:(runL P (0,c.N,c.L) R).2.1.length≤4+i
 l2:(runL P (0,c.N,c.L) R).2.2.length≤4+i
 d1:NdA (runL P (0,c.N,c.L) R).2.1
 d2:NdA (runL P (0,c.N,c.L) R).2.2
theorem Mid.mono {c:LC} {i:Nat} {G G':Hp} {R:List Rw} {P:List Pk} {pks:List V} {lv:List (Key×V)} (h:Mid c i G R P pks lv) (s:Same G G'):Mid c i G' R P pks lv:=
 ⟨h.fr.mono s,h.hi,s _ _ h.pk,h.ps.tk (TKF.same s),h.ok,s _ _ h.m,s _ _ h.rr,RP.imp (fun _ _ z=>LF.tk (TK.same s) z) h.rp,h.l1,h.l2,h.d1,h.d2⟩
theorem Mid.sl {c:LC} (ok:LCok c) {i:Nat} {G:Hp} {R:List Rw} {P:List Pk} {pks xs ys:List V} {lv:List (Key×V)} (h:Mid c i G R P pks lv) (e:G c.sl=some (.lst xs)):Mid c i (upd G c.sl (.lst ys)) R P pks lv:=
 ⟨h.fr.updL e ok.hs ok.lcs,h.hi,by rw [upd_ne ok.sp.symm];exact h.pk,h.ps.tk (TKF.updL e),h.ok,by rw [upd_ne (ne_of h.m e (by intro z;cases z))];exact h.m,by rw [upd_ne (ne_of h.rr e (by intro z;cases z))];exact h.rr,
  RP.imp (fun _ _ z=>LF.tk (TKF.updL e).1 z) h.rp,h.l1,h.l2,h.d1,h.d2⟩
theorem Mid.grow {c:LC} (ok:LCok c) {i:Nat} {G:Hp} {R:List Rw} {P:List Pk} {pks:List V} {lv:List (Key×V)} (h:Mid c i G R P pks lv) {x:Pk} {v:V} (hj:(runL P (0,c.N,c.L) R).1≤P.length) (hx:PkIs c.K G x v):Mid c i (upd G c.pk (.lst (pks++[v]))) R (P++[x]) (pks++[v]) lv:=by
 have e:=runL_more (x:=x) R (0,c.N,c.L) hj
 refine ⟨h.fr.updL h.pk ok.hp ok.lcp,h.hi,upd_same,(h.ps.snoc hx).tk (TKF.updL h.pk),okL_more R _ hj h.ok,?_,?_,?_,?_,?_,?_,?_⟩
 ·rw [e,upd_ne (ne_of h.m h.pk (by intro z;cases z))];exact h.m
 ·rw [upd_ne (ne_of h.rr h.pk (by intro z;cases z))];exact h.rr
 ·rw [e];exact RP.imp (fun _ _ z=>LF.tk (TKF.updL h.pk).1 z) h.rp
 ·rw [e];exact h.l1
 ·rw [e];exact h.l2
 ·rw [e];exact h.d1
 ·rw [e];exact h.d2
theorem Mid.up {c:LC} {i:Nat} {G:Hp} {R:List Rw} {P:List Pk} {pks:List V} {lv:List (Key×V)} (h:Mid c i G R P pks lv):Mid c (i+1) G R P pks lv:=
 ⟨h.fr,Nat.le_succ_of_le h.hi,h.pk,h.ps,h.ok,h.m,h.rr,RP.imp (fun _ _ z=>z.up (Nat.le_succ _)) h.rp,by have:=h.l1;omega,by have:=h.l2;omega,h.d1,h.d2⟩
def LInv (c:LC) (i:Nat) (σ:St) (G:Hp):Prop:=∃ (dv:V) (x9 x10 x11 x12 x13 x14 x15:Option V) (RK:List Rk) (qs:List V) (P:List Pk) (pks:List V) (lv:List (Key×V)),
 σ=[some (.ref c.sa),some (.ref c.l),some (.int c.near),some (.ref c.m),some (.ref c.rr),some (.ref c.st),c.x6,some (.ref c.sl),some dv,x9,x10,x11,x12,x13,x14,x15,none,none,none]∧
 Mid c i G (rwsOf RK) P pks lv∧RK.length=i∧G c.sl=some (.lst qs)∧RowK G RK qs∧P.length=(stK P (0,c.N,c.L) RK).1∧DueIs G P (0,c.N,c.L) RK dv
theorem fin_gone {c:LC} (ok:LCok c) {i:Nat} {G:Hp} {RK:List Rk} {P:List Pk} {pks qs:List V} {lv:List (Key×V)} {u pv dv:V} {rw:Rw} {x9 x10 x11 x12 x13 x14 x15:Option V} {E:XK} (h:Mid c i G (rwsOf RK) P pks lv) (hi:i < 40) (hk:RK.length=i) (hsl:G c.sl=some (.lst (qs++[u]))) (hR:RowK G RK qs) (hu:Held G rw.toD u)
  (hP:P.length=(stK P (0,c.N,c.L) RK).1+takes rw) (hpo:pickOk P (stK P (0,c.N,c.L) RK).1 rw) (hpv:pickV G P (stK P (0,c.N,c.L) RK).1 pv rw) (hd:DueIs G P (0,c.N,c.L) RK dv) :
  spGone [u,.ref c.m,.ref c.rr,pv] G (fun _ H'=>LInv c (i+1) [some (.ref c.sa),some (.ref c.l),some (.int c.near),some (.ref c.m),some (.ref c.rr),some (.ref c.st),c.x6,some (.ref c.sl),some dv,x9,x10,x11,x12,x13,x14,x15,none,none,none] H') E:=by
 have l1:=h.l1
 have l2:=h.l2
 refine ⟨u,rw,c.m,c.rr,pv,i,_,lv,_,P,_,rfl,hu,h.m,h.rr,ok.mr,h.rp,by omega,by omega,by omega,hpv,fun lvs' H' k hm' hr' hV'=>?_⟩
 have e:stepL P ((stK P (0,c.N,c.L) RK).1,(runL P (0,c.N,c.L) (rwsOf RK)).2.1,(runL P (0,c.N,c.L) (rwsOf RK)).2.2) rw=runL P (0,c.N,c.L) (rwsOf RK++[rw]):=by rw [runL_snoc];rfl
 rw [e] at hm' hV'
 have tk:=tkf_gone h.m h.rr k
 have nd:=step_nd (P:=P) (rw:=rw) h.d1 h.d2
 have ln:=step_len (P:=P) (s:=runL P (0,c.N,c.L) (rwsOf RK)) (rw:=rw)
 refine ⟨dv,x9,x10,x11,x12,x13,x14,x15,RK++[.row rw],qs++[u],P,pks,lvs',rfl,?_,by rw [List.length_append,hk];rfl,?_,rowK_tk tk.1 (hR.snoc (rk:=.row rw) hu),?_,(hd.row).tk tk.1⟩
 ·rw [rwsOf_snoc_row]
  refine ⟨h.fr.gone ok h.m h.rr k,by rw [List.length_append];exact Nat.succ_le_succ h.hi,k _ _ (ne_of h.pk h.m (by intro z;cases z)) (ne_of h.pk h.rr (by intro z;cases z)) h.pk,h.ps.tk tk,okL_snoc _ _ h.ok hpo,hm',hr',hV',?_,?_,?_,?_⟩
  ·rw [runL_snoc];omega
  ·rw [runL_snoc];omega
  ·rw [runL_snoc];exact nd.1
  ·rw [runL_snoc];exact nd.2
 ·exact k _ _ (ne_of hsl h.m (by intro z;cases z)) (ne_of hsl h.rr (by intro z;cases z)) hsl
 ·unfold stK
  rw [rwsOf_snoc_row,runL_snoc,step_takes];exact hP
theorem tup_like {K:PySem.W.Frag} {H:Hp} {a:Addr} {xs:List V} {n:Nat} (h:H a=some (.tup xs)) (hx:∀ x∈xs,LikeV K H n x x):LikeV K H (n+1) (.ref a) (.ref a):=
 .inr (.inl ⟨a,a,xs,xs,rfl,rfl,SqT.of h,SqT.of h,rfl,fun j x' y' e1 e2=>by
  rw [e1] at e2
  cases e2
  exact hx _ (List.mem_of_getElem? e1)⟩)
theorem place_like {K:PySem.W.Frag} {H:Hp} {b:Addr} {x:Str} {d:Int} (h:H b=some (.tup [.str x,.int d])):LikeV K H 1 (.ref b) (.ref b):=tup_like h fun y hy=>by
 simp only [List.mem_cons,List.not_mem_nil,or_false] at hy
 rcases hy with rfl | rfl
 ·exact like_str _ _
 ·exact like_int _ _
theorem tm_like {K:PySem.W.Frag} {H:Hp} {t:Tm} {v:V} (h:Held H t.toD v):LikeV K H 2 v v:=by
 cases t with
 | is x=>
  obtain ⟨a,rfl,ha⟩:=is_inv h
  refine tup_like ha fun y hy=>?_
  simp only [List.mem_cons,List.not_mem_nil,or_false] at hy
  rcases hy with rfl | rfl
  ·exact like_str _ _
  ·exact like_str _ _
 | at_ r x d=>
  obtain ⟨a,b,rfl,ha,hb⟩:=at_inv h
  refine tup_like ha fun y hy=>?_
  simp only [List.mem_cons,List.not_mem_nil,or_false] at hy
  rcases hy with rfl | rfl | rfl
  ·exact like_str _ _
  ·exact like_str _ _
  ·exact place_like hb
theorem rw_like {K:PySem.W.Frag} {H:Hp} {rw:Rw} {v:V} (h:Held H rw.toD v):LikeV K H 3 v v:=by
 cases rw with
 | set x t c=>
  obtain ⟨a,u,rfl,ha,hu⟩:=set_inv h
  refine tup_like ha fun y hy=>?_
  simp only [List.mem_cons,List.not_mem_nil,or_false] at hy
  rcases hy with rfl | rfl | rfl | rfl
  ·exact like_str _ _
  ·exact like_str _ _
  ·exact tm_like hu
  ·exact like_int _ _
 | put r x d t c=>
  obtain ⟨a,b,u,rfl,ha,hb,hu⟩:=put_inv h
  refine tup_like ha fun y hy=>?_
  simp only [List.mem_cons,List.not_mem_nil,or_false] at hy
  rcases hy with rfl | rfl | rfl | rfl | rfl
  ·exact like_str _ _
  ·exact like_str _ _
  ·exact (place_like hb).up (by omega)
  ·exact tm_like hu
  ·exact like_int _ _
 | any x=>
  obtain ⟨a,rfl,ha⟩:=is_inv h
  refine tup_like ha fun y hy=>?_
  simp only [List.mem_cons,List.not_mem_nil,or_false] at hy
  rcases hy with rfl | rfl
  ·exact like_str _ _
  ·exact like_str _ _
 | lose r=>
  obtain ⟨a,rfl,ha⟩:=is_inv h
  refine tup_like ha fun y hy=>?_
  simp only [List.mem_cons,List.not_mem_nil,or_false] at hy
  rcases hy with rfl | rfl
  ·exact like_str _ _
  ·exact like_str _ _
theorem cl_like {K:PySem.W.Frag} {H:Hp} {C:Cl} {v:V} (h:Held H C.toD v):LikeV K H 3 v v:=by
 cases C with
 | least ta tb c=>
  obtain ⟨a,u,z,rfl,ha,hu,hz⟩:=le_inv h
  refine tup_like ha fun y hy=>?_
  simp only [List.mem_cons,List.not_mem_nil,or_false] at hy
  rcases hy with rfl | rfl | rfl | rfl
  ·exact like_str _ _
  ·exact tm_like hu
  ·exact tm_like hz
  ·exact like_int _ _
 | each tx td ux ud r way kd x c=>
  obtain ⟨a,b,e,o,rfl,ha,hb,he,ho⟩:=ea_inv h
  refine tup_like ha fun y hy=>?_
  simp only [List.mem_cons,List.not_mem_nil,or_false] at hy
  rcases hy with rfl | rfl | rfl | rfl | rfl | rfl | rfl
  ·exact like_str _ _
  ·exact (place_like hb).up (by omega)
  ·exact (place_like he).up (by omega)
  ·exact like_str _ _
  ·exact like_str _ _
  ·exact (tup_like (n:=0) ho fun y hy=>by
    simp only [List.mem_cons,List.not_mem_nil,or_false] at hy
    rcases hy with rfl | rfl
    ·exact like_str _ _
    ·exact like_str _ _:LikeV K H (0+1) _ _).up (by omega)
  ·exact like_int _ _
 | rise tx td ux ud r=>
  obtain ⟨a,b,e,rfl,ha,hb,he⟩:=ri_inv h
  refine tup_like ha fun y hy=>?_
  simp only [List.mem_cons,List.not_mem_nil,or_false] at hy
  rcases hy with rfl | rfl | rfl | rfl
  ·exact like_str _ _
  ·exact (place_like hb).up (by omega)
  ·exact (place_like he).up (by omega)
  ·exact like_str _ _
theorem rk_like {K:PySem.W.Frag} {H:Hp} {rk:Rk} {v:V} (h:Held H rk.toD v):LikeV K H 4 v v:=by
 cases rk with
 | row rw=>exact (rw_like (rw:=rw) h).up (by omega)
 | know C=>
  obtain ⟨a,u,rfl,ha,hu⟩:=know_inv h
  refine tup_like ha fun y hy=>?_
  simp only [List.mem_cons,List.not_mem_nil,or_false] at hy
  rcases hy with rfl | rfl
  ·exact like_str _ _
  ·exact cl_like hu
theorem rowk_like {K:PySem.W.Frag} {H:Hp} {R:List Rk} {qs:List V} (h:RowK H R qs) (j:Nat) (x y:V) (e1:qs[j]?=some x) (e2:qs[j]?=some y):LikeV K H 4 x y:=by
 rw [e1] at e2
 cases e2
 have hj:j < R.length:=by
  have:=(List.getElem?_eq_some_iff.mp e1).1
  have h2:=h.length
  rw [List.length_map] at h2
  omega
 obtain ⟨y',f1,f2⟩:=h.get (j:=j) (d:=R[j].toD) (by rw [List.getElem?_map,List.getElem?_eq_getElem hj];rfl)
 rw [e1] at f1
 cases f1
 exact rk_like f2
theorem pks_like {K:PySem.W.Frag} {H:Hp} {P:List Pk} {vs:List V} {a b:Addr} (h:PKs K H P vs) (ha:H a=some (.lst vs)) (hb:H b=some (.lst vs)):LikeV K H 4 (.ref a) (.ref b):=
 .inr (.inr ⟨a,b,vs,vs,rfl,rfl,SqL.of ha,SqL.of hb,rfl,fun j x y e1 e2=>by
  rw [e1] at e2
  cases e2
  have hj:j < P.length:=by
   have:=(List.getElem?_eq_some_iff.mp e1).1
   rw [h.1]
   exact this
  have k:=h.2 j P[j] x (List.getElem?_eq_getElem hj) e1
  cases e:P[j] with
  | num n=>
   rw [e] at k
   have k':x=.int n:=k
   subst k'
   exact like_int _ _
  | row q=>
   rw [e] at k
   exact rows_like k k⟩)
open PySem L2
abbrev sLaw:Stmt:=top 44
theorem cut_ints (ns:List Int) (hn:ns.length≤63):∃ cs:List Int,cutV (ns.map V.int) (some 4) (some 44)=cs.map V.int∧cs.length≤40:=by
 refine ⟨(ns.drop (HT.sIx (ns.map V.int).length 0 (some 4))).take (HT.sIx (ns.map V.int).length (ns.map V.int).length (some 44) - HT.sIx (ns.map V.int).length 0 (some 4)),?_,?_⟩
 ·unfold cutV
  rw [← List.map_drop,← List.map_take]
 ·have e1:HT.sIx (ns.map V.int).length (ns.map V.int).length (some 44)=min 44 (ns.map V.int).length:=HT.sIx_nat _ _ 44
  have e2:HT.sIx (ns.map V.int).length 0 (some 4)=min 4 (ns.map V.int).length:=HT.sIx_nat _ _ 4
  rw [List.length_take,List.length_drop,e1,e2,List.length_map]
  omega
def SF (H:Hp) (n:Nat) (q:LRow) (v:V):Prop:=(∃ R,Held H (rowD q.1 R) v∧Canon q.1 R∧R.length≤40+2 * q.2.2.length∧∀ z,heldN q.1 R z=heldW q z)∧q.2.2.length≤n
theorem SF.tk {H H':Hp} {n:Nat} {q:LRow} {v:V} (t:TK H H') (h:SF H n q v):SF H' n q v:=by
 obtain ⟨⟨R,h1,h2⟩,h3⟩:=h
 exact ⟨⟨R,t.held h1,h2⟩,h3⟩
theorem sf_rv {K:PySem.W.Frag} {H:Hp} {n:Nat}:∀ {rvs:List (Key×V)} {L:List (Str×LRow)},RP (SF H n) rvs L→RV K H n rvs L
 | [],[],_=>trivial
 | _ :: _,_ :: _,⟨⟨h1,⟨R,h2,h3,h4,h5⟩,h6⟩,h7⟩=>⟨⟨h1,⟨R,row_at_held h2,h3,h4,h5⟩,h6⟩,sf_rv h7⟩
theorem iteFb {b:Bool} {A B:Prop} (e:b=false) (h:B):if b=true then A else B:=by rw [e];exact iteF h
theorem iteTb {b:Bool} {A B:Prop} (e:b=true) (h:A):if b=true then A else B:=by rw [e];exact iteT h
theorem last_num {P:List Pk} {z:Int} {k:Pk} {j:Nat} (hj:j=P.length) (e:(P++[Pk.num z])[j]?=some k):∃ n,k=.num n:=by
 subst hj
 simp at e
 exact ⟨z,e.symm⟩
theorem last_row {P:List Pk} {q:LRow} {k:Pk} {j:Nat} (hj:j=P.length) (hq:q.2.2.length≤0) (e:(P++[Pk.row q])[j]?=some k):∃ q,k=.row q∧q.2.2=[]:=by
 subst hj
 simp at e
 exact ⟨q,e.symm,List.eq_nil_of_length_eq_zero (by omega)⟩
def spLaw (K:PySem.W.Frag):Sp:=fun vs H Q _=>∃ (a:Addr) (ns:List Int),vs=[.ref a]∧SqL K H a (ns.map V.int)∧ns.length≤63∧∀ H',Q (.bl true) H'
theorem cut3 (ws:List Str):∃ fs:List Str,cutV (ws.map V.str) (some 3) none=fs.map V.str∧fs.length≤ws.length:=by
 refine ⟨(ws.drop (HT.sIx (ws.map V.str).length 0 (some 3))).take (HT.sIx (ws.map V.str).length (ws.map V.str).length none - HT.sIx (ws.map V.str).length 0 (some 3)),?_,?_⟩
 ·unfold cutV
  rw [← List.map_drop,← List.map_take]
 ·rw [List.length_take,List.length_drop]
  omega
theorem depth_pairs:∀ (ps:List (Int×Int)),D.depthL (ps.map pD)≤1
 | []=>Nat.zero_le _
 | p :: ps=>by
  show max (D.depth (pD p)) (D.depthL (ps.map pD))≤1
  have:=depth_pairs ps
  have:D.depth (pD p)=1:=rfl
  omega
def FinDue (K:PySem.W.Frag) (c:LC) (G:Hp) (P:List Pk) (RK:List Rk) (dv:V):Prop:=
 (∃ (du n2:Addr) (rv:List (Key×V)),dv=.ref du∧G du=some (.tup [.str "through",.ref c.m,.ref n2])∧G n2=some (.dK rv)∧RV K G 60 rv (stK P (0,c.N,c.L) RK).2.2∧∀ j,j < RK.length→KnowAt P (0,c.N,c.L) RK j)∨
 ∃ (d:Addr) (k:Nat),dv=.ref d∧G d=some (.tup [.str "barred",.int k])∧k < RK.length∧(∀ j,j < k→KnowAt P (0,c.N,c.L) RK j)∧¬ KnowAt P (0,c.N,c.L) RK k
theorem FinDue.mono {K:PySem.W.Frag} {c:LC} {G G':Hp} {P:List Pk} {RK:List Rk} {dv:V} (s:Same G G') (h:FinDue K c G P RK dv):FinDue K c G' P RK dv:=by
 rcases h with ⟨du,n2,rv,h1,h2,h3,h4,h5⟩ | ⟨d,k,h1,h2,h3⟩
 ·exact .inl ⟨du,n2,rv,h1,s _ _ h2,s _ _ h3,h4.tk (TKF.same s),h5⟩
 ·exact .inr ⟨d,k,h1,s _ _ h2,h3⟩
section
variable {P:Program} {w:World} {K:PySem.W.Frag} {mg:Str→Option Value} {base:Heap}
theorem ok_law {f:Addr} {fd:FuncData} (F:Fun K "law" "law" sLaw f fd) (B:Free0 mg) (Z_enumerate:mg "enumerate" = none) (F_cell_at:Fn P w K mg base 1 "_law_cell_at" ["_law_script","_law_k"] (spCell K)) (F_words:Fn P w K mg base 1 "_law_words" ["_law_cell","_law_many"] spWords)
  (F_start:Fn P w K mg base 3 "_law_start" ["_law_script","_law_w","_law_near"] (spStart K)) (F_stairs:Fn P w K mg base 2 "_law_stairs" ["_law_row"] (spStairsL K)) (F_drawn:Fn P w K mg base 3 "_law_drawn" ["_law_seed","_law_w","_law_near"] spDrawn) (F_mix:Fn P w K mg base 1 "_law_mix" ["_law_seed","_law_k"] spMix)
  (F_claim:Fn P w K mg base 3 "_law_claim" ["_law_seed","_law_w","_law_near","_law_free"] spClaim) (F_fitted:Fn P w K mg base 3 "_law_fitted" ["_law_claim_here","_law_seed","_law_numbers","_law_rows"] spFitted) (F_true:Fn P w K mg base 3 "_law_true" ["_law_claim_here","_law_numbers","_law_rows"] spTrue)
  (F_pick:Fn P w K mg base 3 "_law_pick" ["_law_seed","_law_row","_law_near"] spPick) (F_gone:Fn P w K mg base 3 "_law_gone" ["_law_row","_law_numbers","_law_rows","_law_pick_here"] spGone) (F_through:Fn P w K mg base 6 "through" ["rows","start"] (spThrough K)):FnOk P w K mg base CX0 7 f fd ["_law_script"] (spLaw K):=by
 have sc:FnScope ["_law_script","_law_w","_law_near","_law_numbers","_law_rows","_law_start_here","_law_r","_law_straight","_law_due","_law_k","_law_cell","_law_seed","_law_free","_law_claim_here","_law_row","_law_pick_here","_law_handed","_law_kept","_law_found"] ["_law_script"] (defScope sLaw):=⟨rfl,rfl,rfl,by decide +kernel,rfl,by decide +kernel,by decide +kernel⟩
 refine F.ok sc (fun vs H Q E h=>?_) (fun cdv A outer s H vs Q E hr h=>?_)
 ·obtain ⟨a,ns,rfl,_⟩:=h
  rfl
 obtain ⟨sa,ns,rfl,hS,h63,q⟩:=h
 have hu:=hu_of hr
 have hu4:(A.deeper (PyProof.Rows.envOfC "law" (defScope sLaw) s.heap.objs.size f cdv)).units+1+1+3 < cLine:=by have:=hr.units;omega
 have hu0:(A.deeper (PyProof.Rows.envOfC "law" (defScope sLaw) s.heap.objs.size f cdv)).units+1+4 < cLine:=by have:=hr.units;omega
 have hu1:(A.deeper (PyProof.Rows.envOfC "law" (defScope sLaw) s.heap.objs.size f cdv)).units+1+1 < cLine:=by have:=hr.units;omega
 have hu2:(A.deeper (PyProof.Rows.envOfC "law" (defScope sLaw) s.heap.objs.size f cdv)).units+1+0 < cLine:=by have:=hr.units;omega
 refine ⟨_,(pss_cons (ps_set (i:=1) sc.nd rfl (by first | exact Or.inl rfl | exact Or.inr rfl) (pe_fn F_words hr (pa_c (pe_fn F_cell_at hr (pa_c (pv 0) (pa_c pe_int pa_nil))) (pa_c pe_int pa_nil))))
   (pss_cons (ps_set (i:=2) sc.nd rfl (by first | exact Or.inl rfl | exact Or.inr rfl) (pe_op op_sub (pe_op op_mod (pe_op op_mul (pe_fn F_cell_at hr (pa_c (pv 0) (pa_c pe_int pa_nil))) pe_int) (pe_op op_mul pe_int (pe_op op_pow pe_int pe_int))) (pe_op op_pow pe_int pe_int)))
   (pss_cons (ps_asg (pe_fn F_start hr (pa_c (pv 0) (pa_c (pv 1) (pa_c (pv 2) pa_nil)))) (pg_tup rfl (pgs_cons (pg_name (i:=3) sc.nd rfl (by first | exact Or.inl rfl | exact Or.inr rfl)) (pgs_cons (pg_name (i:=4) sc.nd rfl (by first | exact Or.inl rfl | exact Or.inr rfl)) pgs_nil))))
   (pss_cons (ps_set (i:=5) sc.nd rfl (by first | exact Or.inl rfl | exact Or.inr rfl) (pe_tup (pa_c (pe_cT call_dict_copy (by rfl) B.dict_ bt_dict (pa_c (pv 3) pa_nil)) (pa_c pe_dnewK (pa_c (pe_lst pa_nil) pa_nil)))))
   (pss_cons (ps_thaw (ps_for PassesOwn.never rfl (pi_dict (pv 4)) (pg_name (i:=6) sc.nd rfl (by first | exact Or.inl rfl | exact Or.inr rfl)) (pss_one (ps_dput hu (pe_ix ix_tup (pv 5) pe_int (fun _ _=>rfl)) (pv 6) (pe_fn F_stairs hr (pa_c (pe_dget hu (pv 4) (pv 6) (fun _ _=>rfl)) pa_nil)) rfl))))
   (pss_cons (ps_set (i:=7) sc.nd rfl (by first | exact Or.inl rfl | exact Or.inr rfl) (pe_lst pa_nil))
   (pss_cons (ps_set (i:=8) sc.nd rfl (by first | exact Or.inl rfl | exact Or.inr rfl) pe_non)
   (pss_cons (ps_for PassesOwn.never rfl (pi_enum (by rfl) Z_enumerate (pa_c (pe_slice sl_list (pv 0) (po_some pe_int) (po_some pe_int)) pa_nil)) (pg_tup rfl (pgs_cons (pg_name (i:=9) sc.nd rfl (by first | exact Or.inl rfl | exact Or.inr rfl)) (pgs_cons (pg_name (i:=10) sc.nd rfl (by first | exact Or.inl rfl | exact Or.inr rfl)) pgs_nil))) (pss_cons (ps_set (i:=11) sc.nd rfl (by first | exact Or.inl rfl | exact Or.inr rfl) (pe_fn F_mix hr (pa_c (pe_op op_mod (pv 10) pe_int) (pa_c (pv 9) pa_nil))))
   (pss_one (ps_if (pt_cmpR op_eq (pe_op op_mod (pe_op op_fdivB (pv 11) pe_int) pe_int) pe_int (nomark _)) (pss_cons (ps_setcomp (i:=12) sc.nd rfl (by first | exact Or.inl rfl | exact Or.inr rfl) ["_law_r"] [4] rfl (comp_ok (sc:=defScope sLaw) (N:=["_law_script","_law_w","_law_near","_law_numbers","_law_rows","_law_start_here","_law_r","_law_straight","_law_due","_law_k","_law_cell","_law_seed","_law_free","_law_claim_here","_law_row","_law_pick_here","_law_handed","_law_kept","_law_found"]) rfl rfl (by decide +kernel)) (pi_list (pe_slice sl_list (pv 1) (po_some pe_int) po_none)) (fun s H ex=>⟨(pg_name (i:=0) (show List.Nodup (["_law_r","_law_rows"]:List Str) by decide +kernel) rfl (by first | exact Or.inl rfl | exact Or.inr rfl)),(pts_one (pt_cmpR (op_eqTT 1 hu1) (pe_ix (ix_tupK (K:=K)) (pe_dget2 hu (pv 1) (pv 0) (pe_tup (pa_c pe_int (pa_c (pe_tup pa_nil) (pa_c (pe_tup pa_nil) pa_nil)))) ⟨rfl,rfl,rfl,rfl⟩) pe_int (fun _ _=>rfl)) (pe_tup pa_nil) (nomark _))),(pv 0)⟩))
   (pss_cons (ps_set (i:=13) sc.nd rfl (by first | exact Or.inl rfl | exact Or.inr rfl) (pe_fn F_fitted hr (pa_c (pe_fn F_claim hr (pa_c (pe_fn F_mix hr (pa_c (pv 11) (pa_c pe_int pa_nil))) (pa_c (pv 1) (pa_c (pv 2) (pa_c (pv 12) pa_nil))))) (pa_c (pe_op op_fdivB (pv 11) pe_int) (pa_c (pv 3) (pa_c (pv 4) pa_nil))))))
   (pss_cons (ps_join (ps_if (pw_and (pt_cmpR op_isN (pv 8) pe_non (nomark _)) (pw_and1 (pt_not (pt_val (pe_fn F_true hr (pa_c (pv 13) (pa_c (pv 3) (pa_c (pv 4) pa_nil)))))))).pt (pss_one (ps_set (i:=8) sc.nd rfl (by first | exact Or.inl rfl | exact Or.inr rfl) (pe_tup (pa_c pe_str (pa_c (pv 9) pa_nil))))) pss_nil))
   (pss_one (ps_expr (pe_bm PySem.F.plainAttrs_list PySem.F.slot_list_append PySem.F.type_list_append mt_append (pv 7) (pa_c (pe_tup (pa_c pe_str (pa_c (pv 13) pa_nil))) pa_nil))))))) (pss_cons (ps_set (i:=14) sc.nd rfl (by first | exact Or.inl rfl | exact Or.inr rfl) (pe_fn F_drawn hr (pa_c (pe_fn F_mix hr (pa_c (pv 11) (pa_c pe_int pa_nil))) (pa_c (pv 1) (pa_c (pv 2) pa_nil)))))
   (pss_cons (ps_expr (pe_bm PySem.F.plainAttrs_list PySem.F.slot_list_append PySem.F.type_list_append mt_append (pv 7) (pa_c (pv 14) pa_nil)))
   (pss_cons (ps_set (i:=15) sc.nd rfl (by first | exact Or.inl rfl | exact Or.inr rfl) pe_non)
   (pss_cons (ps_if (pt_cmpR op_in_seq (pe_ix ix_tup (pv 14) pe_int (fun _ _=>rfl)) (pe_tup (pa_c pe_str (pa_c pe_str pa_nil))) rfl) (pss_cons (ps_set (i:=15) sc.nd rfl (by first | exact Or.inl rfl | exact Or.inr rfl) (pe_fn F_pick hr (pa_c (pe_fn F_mix hr (pa_c (pv 11) (pa_c pe_int pa_nil))) (pa_c (pv 14) (pa_c (pv 2) pa_nil)))))
   (pss_one (ps_expr (pe_bm PySem.F.plainAttrs_list PySem.F.slot_list_append PySem.F.type_list_append mt_append (pe_ix ix_tup (pv 5) pe_int (fun _ _=>rfl)) (pa_c (pe_ifExp (pt_cmpR op_eq (pe_ix ix_tup (pv 14) pe_int (fun _ _=>rfl)) pe_str (nomark _)) (pv 15) (pe_fn F_stairs hr (pa_c (pv 15) pa_nil))) pa_nil))))) pss_nil)
   (pss_one (ps_expr (pe_fn F_gone hr (pa_c (pv 14) (pa_c (pv 3) (pa_c (pv 4) (pa_c (pv 15) pa_nil)))))))))))))))
   (pss_cons (ps_join (ps_if (pt_cmpR op_eq (pe_op op_mod (pe_op op_fdivB (pe_fn F_cell_at hr (pa_c (pv 0) (pa_c pe_int pa_nil))) pe_int) pe_int) pe_int (nomark _)) (pss_one (ps_expr (pe_bm PySem.F.plainAttrs_list PySem.F.slot_list_append PySem.F.type_list_append mt_append (pe_ix ix_tup (pv 5) pe_int (fun _ _=>rfl)) (pa_c (pv 2) pa_nil)))) pss_nil))
   (pss_cons (ps_join (ps_if (pt_cmpR op_isN (pv 8) pe_non (nomark _)) (pss_cons (ps_set (i:=8) sc.nd rfl (by first | exact Or.inl rfl | exact Or.inr rfl) (pe_tup (pa_c pe_str (pa_c (pv 3) (pa_c pe_dnewK pa_nil)))))
   (pss_one (ps_thaw (ps_for PassesOwn.never rfl (pi_dict (pv 4)) (pg_name (i:=6) sc.nd rfl (by first | exact Or.inl rfl | exact Or.inr rfl)) (pss_one (ps_dput hu (pe_ix ix_tup (pv 8) pe_int (fun _ _=>rfl)) (pv 6) (pe_fn F_stairs hr (pa_c (pe_dget hu (pv 4) (pv 6) (fun _ _=>rfl)) pa_nil)) rfl)))))) pss_nil))
   (pss_cons (ps_set (i:=16) sc.nd rfl (by first | exact Or.inl rfl | exact Or.inr rfl) (pe_tup (pa_c (pe_cT call_dict_copy (by rfl) B.dict_ bt_dict (pa_c (pe_ix ix_tup (pv 5) pe_int (fun _ _=>rfl)) pa_nil)) (pa_c (pe_cT call_dict_copy (by rfl) B.dict_ bt_dict (pa_c (pe_ix ix_tup (pv 5) pe_int (fun _ _=>rfl)) pa_nil)) (pa_c (pe_cT call_list_of (by rfl) B.list_ bt_list (pa_c (pe_ix ix_tup (pv 5) pe_int (fun _ _=>rfl)) pa_nil)) pa_nil)))))
   (pss_cons (ps_set (i:=17) sc.nd rfl (by first | exact Or.inl rfl | exact Or.inr rfl) (pe_cT call_list_of (by rfl) B.list_ bt_list (pa_c (pv 7) pa_nil)))
   (pss_cons (ps_set (i:=18) sc.nd rfl (by first | exact Or.inl rfl | exact Or.inr rfl) (pe_fn F_through hr (pa_c (pv 7) (pa_c (pv 5) pa_nil))))
   (pss_cons (ps_if (pw_or (pt_cmpR (op_neDDL 3 hu4) (pv 5) (pv 16) (nomark _)) (pw_or (pt_cmpR (op_neLV 4 hu0) (pv 7) (pv 17) (nomark _)) (pw_or (pt_not (pt_val (pe_cB call_isinst (by rfl) B.isinstance_ bt_isinstance (pa_c (pv 18) (pa_c (pe_bltn (v:=.ty "tuple") (by rfl) B.tuple_ bt_tuple (by rfl)) pa_nil))))) (pw_or1 (pt_cmpR (op_alt (op_neTT 0 hu2) (op_neSDD 3 hu4)) (pv 18) (pv 8) (nomark _)))))).pt (pss_one (ps_ret pe_bl)) pss_nil)
   (pss_one (ps_ret (pe_or (pe_cmpR op_eq (pe_ix ix_tup (pv 18) pe_int (fun _ _=>rfl)) pe_str (nomark _)) (pe_one (pe_and (pe_cB call_isinst (by rfl) B.isinstance_ bt_isinstance (pa_c (pe_ix ix_tup (pv 18) pe_int (fun _ _=>rfl)) (pa_c (pe_bltn (v:=.ty "int") (by rfl) B.int_ bt_int (by rfl)) pa_nil))) (pe_one (pe_not (pe_cB call_isinst (by rfl) B.isinstance_ bt_isinstance (pa_c (pe_ix ix_tup (pv 18) pe_int (fun _ _=>rfl)) (pa_c (pe_bltn (v:=.ty "bool") (by rfl) B.bool_ bt_bool (by rfl)) pa_nil)))))))))))))))))))))))),?_⟩
 refine ⟨_,rfl,sa,ns,0,rfl,hS,by decide,by decide,fun c0=>?_⟩
 refine ⟨c0,rfl,fun l ws H1 hw8 s1 hl=>?_⟩
 refine ⟨_,rfl,sa,ns,0,rfl,s1.seq hS,by decide,by decide,fun c1=>?_⟩
 refine ⟨_,_,rfl,rfl,.inr ⟨by decide,by decide⟩,_,_,rfl,rfl,⟨by decide,by decide,by decide⟩,_,_,rfl,rfl,.inl ⟨by decide,by decide⟩,_,_,rfl,rfl,(by show (0:Int) < _;decide),_,_,rfl,rfl,⟨by decide,by decide,by decide⟩,_,_,rfl,rfl,?_⟩
 dsimp only
 have hb:-(10 ^ 18:Int) < c1 * 998244353 % (2 * 10 ^ Int.toNat 17) - 10 ^ Int.toNat 17∧c1 * 998244353 % (2 * 10 ^ Int.toNat 17) - 10 ^ Int.toNat 17 < (10 ^ 18:Int):=by
  have e:(10:Int) ^ Int.toNat 17=100000000000000000:=by decide
  rw [e]
  have b0:=Int.emod_nonneg (c1 * 998244353) (b:=2 * 100000000000000000) (by decide)
  have b1:=Int.emod_lt_of_pos (c1 * 998244353) (b:=2 * 100000000000000000) (by decide)
  omega
 generalize c1 * 998244353 % (2 * 10 ^ Int.toNat 17) - 10 ^ Int.toNat 17=near at *
 have hS1:=s1.seq hS
 refine ⟨_,rfl,_,rfl,_,rfl,sa,l,ns,ws,near,rfl,hS1,⟨hl,hw8,hb.1,hb.2⟩,fun t m rr N0 lvs0 L0 H2 s2 ht hm0 hr0 nmr hm hrr hV hN hL hNd hLd=>?_⟩
 refine ⟨t,_,rfl,SqT.of ht,rfl,_,_,rfl,_,_,rfl,rfl,?_⟩
 have sG:=s2
 have hGm:=hm
 have hGr:=hrr
 generalize N0=N at *
 generalize lvs0=lvs at *
 generalize L0=L at *
 generalize H2=G at *
 clear hm hrr s2 ht
 refine ⟨_,rfl,m,_,rfl,hGm,fun m1 hm1=>?_⟩
 have nm1m:=ne_of_none hGm hm1
 have nm1r:=ne_of_none hGr hm1
 have u3:=same_new hm1 (.dK (nKV N))
 have f3:upd G m1 (.dK (nKV N)) m1=some (.dK (nKV N)):=upd_same
 generalize upd G m1 (.dK (nKV N))=G3 at *
 refine fun n1 hn1=>?_
 have hn1H:H1 n1=none:=sG.free (u3.free hn1)
 have hGm3:=u3 _ _ hGm
 have hGr3:=u3 _ _ hGr
 have nn1m:=ne_of_none hGm3 hn1
 have nn1r:=ne_of_none hGr3 hn1
 have nn1m1:=ne_of_none f3 hn1
 have u4:=same_new hn1 (.dK [])
 have f4:upd G3 n1 (.dK []) n1=some (.dK []):=upd_same
 generalize upd G3 n1 (.dK [])=G4 at *
 refine ⟨sm rfl,fun pk hpk=>?_⟩
 have u34:=u3.trans u4
 have hGm4:=u34 _ _ hGm
 have hGr4:=u34 _ _ hGr
 have u1:=same_new hpk (.lst [])
 have f1:upd G4 pk (.lst []) pk=some (.lst []):=upd_same
 have npm:=ne_of_none hGm4 hpk
 have hpkH:H1 pk=none:=sG.free (u34.free hpk)
 have npr:=ne_of_none hGr4 hpk
 generalize upd G4 pk (.lst [])=G5' at *
 refine ⟨sm rfl,fun st hst=>?_⟩
 have u5:=same_new hst (.tup [V.ref m1,V.ref n1,V.ref pk])
 have f5:upd G5' st (.tup [V.ref m1,V.ref n1,V.ref pk]) st=some (.tup [V.ref m1,V.ref n1,V.ref pk]):=upd_same
 generalize upd G5' st (.tup [V.ref m1,V.ref n1,V.ref pk])=G5 at *
 have u05:=u34.trans (u1.trans u5)
 have hGm5:=u05 _ _ hGm
 have hGr5:=u05 _ _ hGr
 have hpk5:=u5 _ _ f1
 have hm15:=u5 _ _ (u1 _ _ (u4 _ _ f3))
 have hn15:=u5 _ _ (u1 _ _ f4)
 have sG5:=sG.trans u05
 have hV5:=RP.imp (fun lq v h=>LF.tk (TK.same u05) h) hV
 have hll:=hV.len
 clear u1 u3 u4 u34 u5 u05 f1 f3 f4 hGm hGr hGm3 hGr3 hGm4 hGr4 hV sG
 refine ⟨_,rfl,rr,lvs,rfl,hGr5,fun o=>?_⟩
 refine for_dict (fun i σ G=>∃ (x6:Option V) (rv:List (Key×V)),σ=[some (.ref sa),some (.ref l),some (.int near),some (.ref m),some (.ref rr),some (.ref st),x6,none,none,none,none,none,none,none,none,none,none,none,none]∧G rr=some (.frz o (.dK lvs))∧(∀ b u,b≠rr→b≠n1→G5 b=some u→G b=some u)∧G n1=some (.dK rv)∧RP (SF G 0) rv (L.take i)) ?_ ?_ ?_ ?_
 ·exact ⟨none,[],rfl,upd_same,fun b u h1 _ e=>by rw [upd_ne h1];exact e,by rw [upd_ne nn1r.symm];exact hn15,by rw [List.take_zero];trivial⟩
 ·rintro i σ G' _ ⟨x6,rv,rfl,h,_⟩
  exact h
 ·rintro i k v σ G' hkv ⟨x6,rv,rfl,hfr,kG,hn1',hRV⟩
  obtain ⟨hi,rfl,_⟩:=hV5.nth hkv
  obtain ⟨v',hv',hLF'⟩:=hV5.valn hLd hi
  have tkG:TK G5 G':=fun b xs e=>kG b _ (by rintro rfl;rw [hGr5] at e;cases e) (by rintro rfl;rw [hn15] at e;cases e) e
  have hst':=tkG _ _ f5
  have hq:=LF.tk tkG hLF'
  have hq4:=hq.2.2.2
  refine ⟨_,rfl,_,rfl,rr,v',rfl,.inl ⟨lvs,Sum.inr L[i].1,.inr ⟨o,hfr⟩,rfl,hv'.symm⟩,?_⟩
  refine ⟨v',L[i].2,rfl,hq.1,hq.2.1,hq.2.2.1,by omega,fun u R' G2 t2 hu' hc hl' he=>?_⟩
  have hn12:=t2 _ _ hn1'
  refine ⟨_,rfl,st,_,_,_,rfl,rfl,SqT.of (t2 _ _ hst'),rfl,_,rfl,n1,_,rfl,DPut.k (k:=Sum.inr L[i].1) hn12 (small1000 (by rw [hRV.len,List.length_take];omega)),?_⟩
  have tk3:TK G2 (upd G2 n1 (.dK (putK rv (Sum.inr L[i].1) u))):=TK.upd hn12 (by intro xs z;cases z)
  refine ⟨_,_,rfl,by rw [upd_ne nn1r];exact t2 _ _ hfr,fun b z h1 h2 e=>by rw [upd_ne h2];exact t2 _ _ (kG b z h1 h2 e),upd_same,?_⟩
  rw [← putA_take hLd hi]
  exact RP.put (RP.imp (fun lq v h=>SF.tk tk3 (SF.tk (TK.same t2) h)) hRV) ⟨⟨R',tk3.held hu',hc,hl',he⟩,hq4⟩
 rintro σ G6 ⟨x6,rvs,rfl,hfr,kG,hn1',hRV⟩
 rw [hll,List.take_length] at hRV
 refine ⟨rr,o,_,hfr,(fun o z e=>by have e':H rr=some (.frz o z):=e;rw [s1.free hr0] at e';cases e'),?_⟩
 have k6:∀ b u,b≠n1→G5 b=some u→upd G6 rr (.dK lvs) b=some u:=fun b u h e=>by
  by_cases hb:b=rr
  ·subst hb
   rw [upd_same,← hGr5,e]
  ·rw [upd_ne hb]
   exact kG b u hb h e
 have hn16:upd G6 rr (.dK lvs) n1=some (.dK rvs):=by rw [upd_ne nn1r.symm];exact hn1'
 have hRV6:RV K (upd G6 rr (.dK lvs)) 0 rvs L:=sf_rv (RP.imp (fun lq v h=>SF.tk (fun b xs e=>by rw [upd_ne (by rintro rfl;rw [hfr] at e;cases e)];exact e) h) hRV)
 clear hfr kG hn1' hRV
 generalize upd G6 rr (.dK lvs)=G7 at *
 clear G6
 have hgm7:=k6 _ _ nn1m hGm5
 have hgr7:=k6 _ _ nn1r hGr5
 have hpk7:=k6 _ _ (by rintro rfl;rw [hpk5] at hn15;cases hn15) hpk5
 have hst7:=k6 _ _ (by rintro rfl;rw [f5] at hn15;cases hn15) f5
 have hm17:=k6 _ _ nn1m1 hm15
 have tk57:TK G5 G7:=fun b xs e=>k6 b _ (by rintro rfl;rw [hn15] at e;cases e) e
 have hV7:=RP.imp (fun lq v h=>LF.tk tk57 h) hV5
 have sG7:Same H1 G7:=fun b u e=>k6 b u (ne_of_none e hn1H) (sG5 _ _ e)
 clear k6 hGm5 hGr5 hpk5 f5 hm15 hn15 hV5 tk57 sG5
 clear G5
 refine ⟨sm rfl,fun sl hsl=>?_⟩
 have u1:=same_new hsl (.lst [])
 have hsl8:upd G7 sl (.lst []) sl=some (.lst []):=upd_same
 have hslH:H1 sl=none:=sG7.free hsl
 have nsp:sl≠pk:=(ne_of_none hpk7 hsl).symm
 generalize upd G7 sl (.lst [])=G8 at *
 refine ⟨_,rfl,_,rfl,_,rfl,sa,_,rfl,(sG7.trans u1).seq hS1,fun lc hlc=>?_⟩
 obtain ⟨cs,hcs,hcl⟩:=cut_ints ns h63
 rw [hcs]
 have u2:=same_new hlc (.lst (cs.map V.int))
 have f2:upd G8 lc (.lst (cs.map V.int)) lc=some (.lst (cs.map V.int)):=upd_same
 have nls:=ne_of_none hsl8 hlc
 have nlp:=ne_of_none (u1 _ _ hpk7) hlc
 generalize upd G8 lc (.lst (cs.map V.int))=G9 at *
 have u:=u1.trans u2
 refine ⟨lc,rfl,⟨_,SqL.of f2⟩,?_⟩
 obtain ⟨c,hc⟩:∃ c:LC,c=⟨K,H1,sa,l,st,m1,n1,pk,sl,m,rr,lc,near,x6,cs,N,L,rvs⟩:=⟨_,rfl⟩
 have ok:LCok c:=by
  rw [hc]
  exact ⟨hm0,hr0,hslH,hpkH,nmr,nm1m.symm,nm1r.symm,nn1m.symm,nn1r.symm,nls.symm,nlp.symm,nsp⟩
 have mid0:Mid c 0 G9 [] [] [] lvs:=by
  rw [hc]
  exact ⟨⟨sG7.trans u,f2,u _ _ hst7,u _ _ hm17,u _ _ hn16,hRV6.tk (TKF.same u)⟩,Nat.le_refl _,u _ _ hpk7,⟨rfl,fun j k v e=>by simp at e⟩,trivial,u _ _ hgm7,u _ _ hgr7,RP.imp (fun lq v h=>LF.tk (TK.same u) h) hV7,(by show N.length≤4+0;omega),(by show L.length≤4+0;omega),hNd,hLd⟩
 have hsl9:=u2 _ _ hsl8
 clear hgm7 hgr7 hpk7 hst7 hm17 hn16 hRV6 hV7 u1 u2 u f2 hsl8
 have hK:c.K=K:=by rw [hc]
 have hH:c.H1=H1:=by rw [hc]
 have hsa:c.sa=sa:=by rw [hc]
 have hl':c.l=l:=by rw [hc]
 have hnear:c.near=near:=by rw [hc]
 refine for_enum (xs:=cs.map V.int) (LInv c) ?_ ?_ ?_ ?_
 ·exact ⟨.non,none,none,none,none,none,none,none,[],[],[],[],lvs,by rw [hc];rfl,mid0,rfl,by rw [hc];exact hsl9,(show HeldL G9 [] [] from heldL_nil),rfl,.inl ⟨rfl,fun j hj=>absurd hj (Nat.not_lt_zero _)⟩⟩
 ·rintro i σ G _ ⟨dv,x9,x10,x11,x12,x13,x14,x15,RK,qs,Pc,pks,lv,rfl,mid,_⟩
  have:=mid.fr.lc
  rw [hc] at this
  exact SqL.of this
 ·rintro i y σ G t hy ⟨dv,x9,x10,x11,x12,x13,x14,x15,RK,qs,Pc,pks,lv,rfl,mid,hRl,hsl,hR,hP,hD⟩ ht
  have hi:i < cs.length:=by
   have:=(List.getElem?_eq_some_iff.mp hy).1
   rw [List.length_map] at this
   exact this
  have hi40:i < 40:=by omega
  rw [List.getElem?_map,List.getElem?_eq_getElem hi] at hy
  cases hy
  have tG:=same_new ht (.tup [.int i,.int cs[i]])
  have eG:upd G t (.tup [.int i,.int cs[i]]) t=some (.tup [.int i,.int cs[i]]):=upd_same
  generalize upd G t (.tup [.int i,.int cs[i]])=G1 at *
  refine ⟨t,_,rfl,SqT.of eG,rfl,_,_,rfl,_,_,rfl,rfl,?_⟩
  have sH:Same H1 G1:=by
   have:=mid.fr.same
   rw [hH] at this
   exact this.trans tG
  have wsA:WsAt G1 c.l ws c.near:=by
   rw [hl',hnear]
   exact ⟨sH _ _ hl,hw8,hb.1,hb.2⟩
  have mid1:=mid.mono tG
  have hsl1:=tG _ _ hsl
  have hR1:=rowK_tk (TK.same tG) hR
  have hD1:=hD.tk (TK.same tG)
  have hql:qs.length=i:=by
   have:=hR.length
   rw [List.length_map,hRl] at this
   exact this.symm
  clear mid hsl hR hD tG eG ht
  clear G
  refine ⟨_,rfl,_,_,rfl,rfl,(by show (0:Int) < _;decide),_,rfl,_,_,rfl,fun s2=>?_⟩
  refine ⟨_,rfl,_,_,rfl,rfl,⟨by decide,by decide⟩,_,_,rfl,rfl,(by show (0:Int) < _;decide),rfl,_,rfl,ite2 (fun d0=>?_) (fun d0=>?_)⟩
  ·-- something known
   refine ⟨_,rfl,_,rfl,c.l,_,rfl,SqL.of wsA.1,fun l3 hl3=>?_⟩
   obtain ⟨gs,hgs,hgl⟩:=cut3 ws
   rw [hgs]
   have t1:=same_new hl3 (.lst (gs.map V.str))
   have e1:upd G1 l3 (.lst (gs.map V.str)) l3=some (.lst (gs.map V.str)):=upd_same
   generalize upd G1 l3 (.lst (gs.map V.str))=G2 at *
   refine ⟨l3,rfl,⟨_,SqL.of e1⟩,fun p hp=>?_⟩
   have t2:=same_new hp (.lst [])
   refine comp_list (xs:=gs.map V.str) (fun i σ' G'=>∃ u3 fs,σ'=[u3,some (.ref c.rr)]∧Same G2 G'∧G' p=some (.lst (fs.map V.str))∧fs.length≤i) ⟨none,[],rfl,t2,upd_same,Nat.le_refl _⟩ ?_ ?_ ?_
   ·rintro i σ' G' _ ⟨u3,fs,rfl,sG',_⟩
    exact SqL.of (sG' _ _ e1)
   ·rintro i y σ' G' hy ⟨u3,fs,rfl,sG',hGp,hfl⟩
    have hi:i < gs.length:=by
     have:=(List.getElem?_eq_some_iff.mp hy).1
     rw [List.length_map] at this
     exact this
    rw [List.getElem?_map,List.getElem?_eq_getElem hi] at hy
    cases hy
    unfold gName
    have sZ:=t1.trans sG'
    have hrr':=sZ _ _ mid1.rr
    refine ⟨_,rfl,c.rr,rfl,.inl ⟨_,.inl hrr'⟩,_,rfl,?_⟩
    refine ⟨sm rfl,fun z1 hz1=>?_⟩
    have v1:=same_new hz1 (.tup [])
    have g1:upd G' z1 (.tup []) z1=some (.tup []):=upd_same
    generalize upd G' z1 (.tup [])=K1 at *
    refine ⟨sm rfl,fun z2 hz2=>?_⟩
    have v2:=same_new hz2 (.tup [])
    have g2:upd K1 z2 (.tup []) z2=some (.tup []):=upd_same
    generalize upd K1 z2 (.tup [])=K2 at *
    refine ⟨sm rfl,fun z3 hz3=>?_⟩
    have v3:=same_new hz3 (.tup [V.int 0,V.ref z1,V.ref z2])
    have g3:upd K2 z3 (.tup [V.int 0,V.ref z1,V.ref z2]) z3=some (.tup [V.int 0,V.ref z1,V.ref z2]):=upd_same
    generalize upd K2 z3 (.tup [V.int 0,V.ref z1,V.ref z2])=K3 at *
    have v13:=v1.trans (v2.trans v3)
    refine ⟨_,DGet.k (k:=Sum.inr gs[i]) (v13 _ _ hrr'),?_⟩
    have hrow:=lf_get (r:=gs[i]) mid1.rp (sZ.trans v13) ((v2.trans v3) _ _ g1) (v3 _ _ g2) g3
    generalize (valV lv (Sum.inr gs[i])).getD (.ref z3)=rv at *
    obtain ⟨a,ca,ea,qa,wa,rfl,ha,hca,hqa,hea,hwa⟩:=lrow_inv hrow.1
    refine ⟨a,_,_,_,rfl,rfl,SqT.of ha,rfl,sm rfl,fun z4 hz4=>?_⟩
    have v4:=same_new hz4 (.tup [])
    have g4:upd K3 z4 (.tup []) z4=some (.tup []):=upd_same
    generalize upd K3 z4 (.tup [])=K4 at *
    have v14:=v13.trans v4
    refine ⟨ea,z4,_,_,_,[],rfl,rfl,v4 _ _ hea,g4,depth_pairs _,hwa.mono v4,heldL_nil,_,rfl,ite2 (fun d=>?_) (fun d=>?_)⟩
    ·refine ⟨_,rfl,_,v14 _ _ hGp,small1000 (by rw [List.length_map];omega),_,fs++[gs[i]],rfl,fun b o e=>?_,?_,by rw [List.length_append];exact Nat.succ_le_succ hfl⟩
     ·rw [upd_ne (ne_of_none e hp)]
      exact v14 _ _ (sG' _ _ e)
     ·rw [upd_same,List.map_append]
      rfl
    ·exact ⟨_,fs,rfl,sG'.trans v14,v14 _ _ hGp,by omega⟩
   rintro σ' G3 ⟨u3,fs,rfl,sG3,hGp,hfl⟩
   rw [List.length_map] at hfl
   have t13:=t1.trans sG3
   refine ⟨_,rfl,s2,1,rfl,fun s3=>?_⟩
   have mid3:=mid1.mono t13
   have wsA3:WsAt G3 c.l ws c.near:=⟨t13 _ _ wsA.1,wsA.2⟩
   refine ⟨_,rfl,_,rfl,_,rfl,s3,c.near,c.l,p,ws,fs,rfl,wsA3,hGp,by omega,fun u C G4 t4 hu' hwo=>?_⟩
   have mid4:=mid3.mono t4
   refine ⟨_,rfl,_,_,rfl,rfl,⟨by decide,by decide⟩,_,rfl,_,rfl,u,_,C,c.m,c.rr,i,_,lv,_,rfl,hu',hwo,mid4.m,mid4.rr,mid4.rp,by omega,fun u2 C2 G5 t5 hu2 hwo2=>?_⟩
   have t15:=t13.trans (t4.trans t5)
   have mid5:=mid1.mono t15
   have hsl5:=t15 _ _ hsl1
   have hR5:=rowK_tk (TK.same t15) hR1
   have hD5:=hD1.tk (TK.same t15)
   clear mid1 mid3 mid4 hsl1 hR1 hD1 t13 t4 t5 t15 sG3 t1 t2 hu' wsA wsA3 sH hGp e1
   refine ⟨fun σ G=>∃ dv',σ=[some (.ref c.sa),some (.ref c.l),some (.int c.near),some (.ref c.m),some (.ref c.rr),some (.ref c.st),c.x6,some (.ref c.sl),some dv',some (.int i),some (.int cs[i]),some (.int s2),some (.ref p),some u2,x14,x15,none,none,none]∧Same G5 G∧DueIs G Pc (0,c.N,c.L) (RK++[.know C2]) dv',?_,?_⟩
   ·rcases hD5 with ⟨rfl,hkn⟩ | ⟨dd,kk,rfl,hdd,hkk⟩
    ·refine ⟨_,rfl,rfl,_,rfl,?_⟩
     rw [decide_eq_true rfl]
     refine iteT ?_
     refine ⟨_,rfl,_,rfl,_,rfl,u2,C2,c.m,c.rr,i,_,lv,_,rfl,hu2,hwo2,mid5.m,mid5.rr,mid5.rp,by omega,fun b G6 t6 hb6=>?_⟩
     refine ⟨_,rfl,?_⟩
     cases b with
     | true=>
      refine iteF ?_
      exact ⟨.non,rfl,t6,DueIs.know_ok (.inl ⟨rfl,hkn⟩) fun _=>hb6.mp rfl⟩
     | false=>
      refine iteT ?_
      refine ⟨_,rfl,sm rfl,fun tt htt=>?_⟩
      have t7:=same_new htt (.tup [V.str "barred",V.int i])
      exact ⟨.ref tt,rfl,t6.trans t7,DueIs.know_no (.inl ⟨rfl,hkn⟩) (fun z=>by have:=hb6.mpr z;cases this) (by rw [hRl];exact upd_same)⟩
    ·refine ⟨_,rfl,rfl,_,rfl,?_⟩
     rw [decide_eq_false (by intro z;cases z)]
     refine iteF ?_
     refine iteF ?_
     exact ⟨.ref dd,rfl,Same.refl _,DueIs.know_ok (.inr ⟨dd,kk,rfl,hdd,hkk⟩) fun e=>by cases e⟩
   rintro σ G6 ⟨dv',rfl,t6,hD6⟩
   have hu6:=hu2.mono t6
   have mid6:=mid5.mono t6
   have hsl6:=t6 _ _ hsl5
   have hR6:=rowK_tk (TK.same t6) hR5
   clear mid5 hsl5 hR5 hD5 hu2
   refine ⟨_,rfl,.inl ⟨rfl,_,SqL.of hsl6⟩,_,rfl,sm rfl,fun tk htk=>?_⟩
   have t7:=same_new htk (.tup [V.str "know",u2])
   have e7:upd G6 tk (.tup [V.str "know",u2]) tk=some (.tup [V.str "know",u2]):=upd_same
   generalize upd G6 tk (.tup [V.str "know",u2])=G7 at *
   have hsl7:=t7 _ _ hsl6
   refine ⟨c.sl,_,_,rfl,rfl,hsl7,small1000 (by omega),?_⟩
   have tk8:TK G7 (upd G7 c.sl (.lst (qs++[V.ref tk]))):=TK.upd hsl7 (by intro xs z;cases z)
   have mid8:=((mid6.mono t7).sl ok (ys:=qs++[V.ref tk]) hsl7).up
   refine ⟨dv',_,_,_,_,_,_,_,RK++[.know C2],qs++[.ref tk],Pc,pks,lv,rfl,by rw [rwsOf_snoc_know];exact mid8,by rw [List.length_append,hRl];rfl,upd_same,?_,?_,(hD6.tk (TK.same t7)).tk tk8⟩
   ·exact (rowK_tk tk8 (rowK_tk (TK.same t7) hR6)).snoc (rk:=.know C2) (tk8.held (held_tup e7 (heldL_cons held_str (heldL_cons (hu6.mono t7) heldL_nil))))
   ·unfold stK
    rw [rwsOf_snoc_know]
    exact hP
  ·-- a row
   refine ⟨_,rfl,s2,2,rfl,fun s3=>?_⟩
   refine ⟨_,rfl,_,rfl,s3,c.near,c.l,ws,rfl,wsA,fun v rw G2 t2 hv=>?_⟩
   have mid2:=mid1.mono t2
   have hsl2:=t2 _ _ hsl1
   have hR2:=rowK_tk (TK.same t2) hR1
   have hD2:=hD1.tk (TK.same t2)
   refine ⟨_,rfl,.inl ⟨rfl,_,SqL.of hsl2⟩,_,rfl,c.sl,_,_,rfl,rfl,hsl2,small1000 (by omega),?_⟩
   have tk3:TK G2 (upd G2 c.sl (.lst (qs++[v]))):=TK.upd hsl2 (by intro xs z;cases z)
   have mid3:=mid2.sl ok (ys:=qs++[v]) hsl2
   have hsl3:upd G2 c.sl (.lst (qs++[v])) c.sl=some (.lst (qs++[v])):=upd_same
   have hR3:=rowK_tk tk3 hR2
   have hv3:=tk3.held hv
   have hD3:=hD2.tk tk3
   generalize upd G2 c.sl (.lst (qs++[v]))=G3 at *
   clear mid1 mid2 hsl1 hsl2 hR1 hR2 hv tk3 t2 wsA sH hD1 hD2
   have hpl:=mid3.ps.1
   have hj40:=runL_le Pc (rwsOf RK) (0,c.N,c.L)
   have hRl':=mid3.hi
   have hjP:(runL Pc (0,c.N,c.L) (rwsOf RK)).1=Pc.length:=hP.symm
   cases rw with
   | set x tm d=>
    obtain ⟨a,u',rfl,ha,_⟩:=set_inv hv3
    refine ⟨_,rfl,a,_,_,_,rfl,rfl,SqT.of ha,rfl,sm rfl,fun tl htl=>?_⟩
    have t4:=same_new htl (.tup [V.str "any",V.str "lose"])
    refine ⟨tl,_,rfl,.inr (SqT.of upd_same),rfl,rfl,_,rfl,iteFb (by decide +kernel) ?_⟩
    refine ⟨_,rfl,_,rfl,_,rfl,_,rfl,?_⟩
    exact fin_gone (E:=E) ok (mid3.mono t4) hi40 hRl (t4 _ _ hsl3) (rowK_tk (TK.same t4) hR3) (hv3.mono t4) hP trivial trivial (hD3.tk (TK.same t4))
   | put r x d tm e=>
    obtain ⟨a,b,u',rfl,ha,_⟩:=put_inv hv3
    refine ⟨_,rfl,a,_,_,_,rfl,rfl,SqT.of ha,rfl,sm rfl,fun tl htl=>?_⟩
    have t4:=same_new htl (.tup [V.str "any",V.str "lose"])
    refine ⟨tl,_,rfl,.inr (SqT.of upd_same),rfl,rfl,_,rfl,iteFb (by decide +kernel) ?_⟩
    refine ⟨_,rfl,_,rfl,_,rfl,_,rfl,?_⟩
    exact fin_gone (E:=E) ok (mid3.mono t4) hi40 hRl (t4 _ _ hsl3) (rowK_tk (TK.same t4) hR3) (hv3.mono t4) hP trivial trivial (hD3.tk (TK.same t4))
   | any x=>
    obtain ⟨a,rfl,ha⟩:=is_inv hv3
    refine ⟨_,rfl,a,_,_,_,rfl,rfl,SqT.of ha,rfl,sm rfl,fun tl htl=>?_⟩
    have t4:=same_new htl (.tup [V.str "any",V.str "lose"])
    refine ⟨tl,_,rfl,.inr (SqT.of upd_same),rfl,rfl,_,rfl,iteTb (by decide +kernel) ?_⟩
    generalize upd G3 tl (.tup [V.str "any",V.str "lose"])=G4 at *
    refine ⟨_,rfl,_,_,rfl,fun s4=>?_⟩
    refine ⟨_,rfl,_,rfl,s4,c.near,.ref a,.any x,rfl,hv3.mono t4,(fun _ z G5 t5=>?_),(fun e=>by cases e)⟩
    have t45:=t4.trans t5
    have mid5:=mid3.mono t45
    have hsl5:=t45 _ _ hsl3
    have hR5:=rowK_tk (TK.same t45) hR3
    have hv5:=hv3.mono t45
    have ha5:=t45 _ _ ha
    have hD5:=hD3.tk (TK.same t45)
    refine ⟨_,rfl,c.st,_,_,_,rfl,rfl,SqT.of mid5.fr.st,rfl,.inl ⟨rfl,_,SqL.of mid5.pk⟩,_,rfl,a,_,_,_,rfl,rfl,SqT.of ha5,rfl,rfl,_,rfl,iteTb (decide_eq_true rfl) ?_⟩
    refine ⟨_,rfl,c.pk,_,_,rfl,rfl,mid5.pk,small1000 (by omega),?_⟩
    have mid6:=mid5.grow ok (x:=.num z) (v:=.int z) (Nat.le_of_eq hjP) rfl
    have er:=runL_more (x:=Pk.num z) (rwsOf RK) (0,c.N,c.L) (Nat.le_of_eq hjP)
    have tk6:TK G5 (upd G5 c.pk (.lst (pks++[V.int z]))):=TK.upd mid5.pk (by intro xs z;cases z)
    refine ⟨_,rfl,_,rfl,_,rfl,_,rfl,?_⟩
    refine fin_gone (E:=E) ok mid6 hi40 hRl (by rw [upd_ne ok.sp];exact hsl5) (rowK_tk tk6 hR5) (tk6.held hv5) ?_ ?_ ?_ ((hD5.tk tk6).more (Nat.le_of_eq hjP))
    ·show _=(runL _ _ _).1+1
     rw [er,List.length_append,List.length_singleton,hjP]
    ·show pickOk _ (runL _ _ _).1 _
     rw [er]
     exact fun k e=>last_num hjP e
    ·show V.int z=V.int (pkNum _ (runL _ _ _).1)
     rw [er,hjP,pkNum_new]
   | lose r=>
    obtain ⟨a,rfl,ha⟩:=is_inv hv3
    refine ⟨_,rfl,a,_,_,_,rfl,rfl,SqT.of ha,rfl,sm rfl,fun tl htl=>?_⟩
    have t4:=same_new htl (.tup [V.str "any",V.str "lose"])
    refine ⟨tl,_,rfl,.inr (SqT.of upd_same),rfl,rfl,_,rfl,iteTb (by decide +kernel) ?_⟩
    generalize upd G3 tl (.tup [V.str "any",V.str "lose"])=G4 at *
    refine ⟨_,rfl,_,_,rfl,fun s4=>?_⟩
    refine ⟨_,rfl,_,rfl,s4,c.near,.ref a,.lose r,rfl,hv3.mono t4,(fun e=>by cases e),(fun _ z lq G5 t5 hz=>?_)⟩
    have t45:=t4.trans t5
    have mid5:=mid3.mono t45
    have hsl5:=t45 _ _ hsl3
    have hR5:=rowK_tk (TK.same t45) hR3
    have hv5:=hv3.mono t45
    have ha5:=t45 _ _ ha
    have hD5:=hD3.tk (TK.same t45)
    refine ⟨_,rfl,c.st,_,_,_,rfl,rfl,SqT.of mid5.fr.st,rfl,.inl ⟨rfl,_,SqL.of mid5.pk⟩,_,rfl,a,_,_,_,rfl,rfl,SqT.of ha5,rfl,rfl,_,rfl,iteFb (decide_eq_false (by decide)) ?_⟩
    refine ⟨_,rfl,z,lq,rfl,hz.1,hz.2.1,hz.2.2.1,Nat.le_trans hz.2.2.2 (by decide),fun u' R' G6 t6 hu' hc' hl' he'=>?_⟩
    have mid6:=mid5.mono t6
    refine ⟨c.pk,_,_,rfl,rfl,mid6.pk,small1000 (by omega),?_⟩
    have mid7:=mid6.grow ok (x:=.row lq) (v:=u') (Nat.le_of_eq hjP) (rowIs_held hu' hc' hl' he')
    have er:=runL_more (x:=Pk.row lq) (rwsOf RK) (0,c.N,c.L) (Nat.le_of_eq hjP)
    have tk7:TK G6 (upd G6 c.pk (.lst (pks++[u']))):=TK.upd mid6.pk (by intro xs z;cases z)
    have tk67:=(TK.same t6).trans tk7
    refine ⟨_,rfl,_,rfl,_,rfl,_,rfl,?_⟩
    refine fin_gone (E:=E) ok mid7 hi40 hRl (by rw [upd_ne ok.sp];exact t6 _ _ hsl5) (rowK_tk tk67 hR5) (tk67.held hv5) ?_ ?_ ?_ ((hD5.tk tk67).more (Nat.le_of_eq hjP))
    ·show _=(runL _ _ _).1+1
     rw [er,List.length_append,List.length_singleton,hjP]
    ·show pickOk _ (runL _ _ _).1 _
     rw [er]
     exact fun k e=>last_row hjP hz.2.2.2 e
    ·show LF _ 0 (pkRow _ (runL _ _ _).1) z
     rw [er,hjP,pkRow_new]
     exact hz.tk tk67
 rintro σ G ⟨dv,x9,x10,x11,x12,x13,x14,x15,RK,qs,Pc,pks,lv,rfl,mid,hRl,hsl,hR,hP,hD⟩
 rw [List.length_map] at mid hRl
 have hj40:=runL_le Pc (rwsOf RK) (0,c.N,c.L)
 have hjP:(runL Pc (0,c.N,c.L) (rwsOf RK)).1=Pc.length:=hP.symm
 have hRl':=mid.hi
 refine ⟨fun σ G=>∃ P' pks',σ=[some (.ref c.sa),some (.ref c.l),some (.int c.near),some (.ref c.m),some (.ref c.rr),some (.ref c.st),c.x6,some (.ref c.sl),some dv,x9,x10,x11,x12,x13,x14,x15,none,none,none]∧Mid c cs.length G (rwsOf RK) P' pks' lv∧G c.sl=some (.lst qs)∧RowK G RK qs∧DueIs G P' (0,c.N,c.L) RK dv,?_,?_⟩
 ·refine ⟨_,rfl,c.sa,ns,0,rfl,(by rw [hsa];exact Same.seq (by rw [← hH];exact mid.fr.same) hS1),by decide,by decide,fun c4=>?_⟩
  refine ⟨_,_,rfl,rfl,⟨by decide,by decide⟩,_,_,rfl,rfl,(by show (0:Int) < _;decide),rfl,_,rfl,ite2 (fun d2=>?_) (fun d2=>⟨Pc,pks,rfl,mid,hsl,hR,hD⟩)⟩
  have hpl:=mid.ps.1
  refine ⟨_,rfl,c.st,_,_,_,rfl,rfl,SqT.of mid.fr.st,rfl,.inl ⟨rfl,_,SqL.of mid.pk⟩,_,rfl,c.pk,_,_,rfl,rfl,mid.pk,small1000 (by omega),?_⟩
  have tk6:TK G (upd G c.pk (.lst (pks++[V.int c.near]))):=TK.upd mid.pk (by intro xs z;cases z)
  exact ⟨Pc++[.num c.near],_,rfl,mid.grow ok (x:=.num c.near) (Nat.le_of_eq hjP) rfl,by rw [upd_ne ok.sp];exact hsl,rowK_tk tk6 hR,(hD.tk tk6).more (Nat.le_of_eq hjP)⟩
 clear mid hsl hR hP hj40 hjP hD
 rintro σ G ⟨P',pks',rfl,mid,hsl,hR,hD⟩
 have hNc:c.N.length≤4:=by rw [hc];exact Nat.le_trans hN (by decide)
 have hLc:c.L.length≤4:=by rw [hc];exact Nat.le_trans hL (by decide)
 have hNcd:NdA c.N:=by rw [hc];exact hNd
 have hLcd:NdA c.L:=by rw [hc];exact hLd
 have hl2:=mid.l2
 have hl1:=mid.l1
 refine ⟨fun σ G=>∃ y6 dv',σ=[some (.ref c.sa),some (.ref c.l),some (.int c.near),some (.ref c.m),some (.ref c.rr),some (.ref c.st),y6,some (.ref c.sl),some dv',x9,x10,x11,x12,x13,x14,x15,none,none,none]∧Mid c cs.length G (rwsOf RK) P' pks' lv∧G c.sl=some (.lst qs)∧RowK G RK qs∧FinDue K c G P' RK dv',?_,?_⟩
 ·rcases hD with ⟨rfl,hkn⟩ | ⟨dd,kk,rfl,hdd,hkk⟩
  ·refine ⟨_,rfl,rfl,_,rfl,?_⟩
   rw [decide_eq_true rfl]
   refine iteT ?_
   have hll2:=mid.rp.len
   refine ⟨_,rfl,fun n2 hn2=>?_⟩
   have v1:=same_new hn2 (.dK [])
   have e1:upd G n2 (.dK []) n2=some (.dK []):=upd_same
   have nn2r:c.rr≠n2:=ne_of_none mid.rr hn2
   generalize upd G n2 (.dK [])=G1 at *
   refine ⟨sm rfl,fun du hdu=>?_⟩
   have v2:=same_new hdu (.tup [V.str "through",V.ref c.m,V.ref n2])
   have f2:upd G1 du (.tup [V.str "through",V.ref c.m,V.ref n2]) du=some (.tup [V.str "through",V.ref c.m,V.ref n2]):=upd_same
   have e2:=v2 _ _ e1
   generalize upd G1 du (.tup [V.str "through",V.ref c.m,V.ref n2])=G2 at *
   have v12:=v1.trans v2
   have hrr2:=v12 _ _ mid.rr
   have hrp2:=RP.imp (fun lq v h=>LF.tk (TK.same v12) h) mid.rp
   refine ⟨_,rfl,c.rr,lv,rfl,hrr2,fun o2=>?_⟩
   refine for_dict (fun i σ G=>∃ (y6:Option V) (rv:List (Key×V)),σ=[some (.ref c.sa),some (.ref c.l),some (.int c.near),some (.ref c.m),some (.ref c.rr),some (.ref c.st),y6,some (.ref c.sl),some (.ref du),x9,x10,x11,x12,x13,x14,x15,none,none,none]∧G c.rr=some (.frz o2 (.dK lv))∧(∀ b u,b≠c.rr→b≠n2→G2 b=some u→G b=some u)∧G n2=some (.dK rv)∧RP (SF G 60) rv ((runL P' (0,c.N,c.L) (rwsOf RK)).2.2.take i)) ?_ ?_ ?_ ?_
   ·exact ⟨_,[],rfl,upd_same,fun b u h1 _ e=>by rw [upd_ne h1];exact e,by rw [upd_ne nn2r.symm];exact e2,by rw [List.take_zero];trivial⟩
   ·rintro i σ G' _ ⟨y8,rv,rfl,h,_⟩
    exact h
   ·rintro i k v σ G' hkv ⟨y8,rv,rfl,hfr,kG,hn1',hRV⟩
    obtain ⟨hi,rfl,_⟩:=hrp2.nth hkv
    obtain ⟨v',hv',hLF'⟩:=hrp2.valn mid.d2 hi
    have tkG:TK G2 G':=fun b xs e=>kG b _ (by rintro rfl;rw [hrr2] at e;cases e) (by rintro rfl;rw [e2] at e;cases e) e
    have hst':=tkG _ _ f2
    have hq:=LF.tk tkG hLF'
    have hq4:=hq.2.2.2
    have hd2:=mid.d2
    generalize (runL P' (0,c.N,c.L) (rwsOf RK)).2.2=L9 at *
    refine ⟨_,rfl,_,rfl,c.rr,v',rfl,.inl ⟨lv,Sum.inr L9[i].1,.inr ⟨o2,hfr⟩,rfl,hv'.symm⟩,?_⟩
    refine ⟨v',L9[i].2,rfl,hq.1,hq.2.1,hq.2.2.1,by omega,fun u R' G2' t2 hu' hc' hl' he=>?_⟩
    have hn12:=t2 _ _ hn1'
    refine ⟨_,rfl,du,_,_,_,rfl,rfl,SqT.of (t2 _ _ hst'),rfl,_,rfl,n2,_,rfl,DPut.k (k:=Sum.inr L9[i].1) hn12 (small1000 (by rw [hRV.len,List.length_take];omega)),?_⟩
    have tk3:TK G2' (upd G2' n2 (.dK (putK rv (Sum.inr L9[i].1) u))):=TK.upd hn12 (by intro xs z;cases z)
    refine ⟨_,_,rfl,by rw [upd_ne nn2r];exact t2 _ _ hfr,fun b z h1 h2 e=>by rw [upd_ne h2];exact t2 _ _ (kG b z h1 h2 e),upd_same,?_⟩
    rw [← putA_take hd2 hi]
    exact RP.put (RP.imp (fun lq v h=>SF.tk tk3 (SF.tk (TK.same t2) h)) hRV) ⟨⟨R',tk3.held hu',hc',hl',he⟩,by omega⟩
   rintro σ G6 ⟨y6,rv,rfl,hfr,kG,hn1',hRV⟩
   rw [hll2,List.take_length] at hRV
   refine ⟨c.rr,o2,_,hfr,(fun o z e=>by have e':H c.rr=some (.frz o z):=e;rw [s1.free (by rw [← hH];exact ok.hr)] at e';cases e'),?_⟩
   have k6:∀ b u,b≠n2→G2 b=some u→upd G6 c.rr (.dK lv) b=some u:=fun b u h e=>by
    by_cases hb:b=c.rr
    ·subst hb
     rw [upd_same,← hrr2,e]
    ·rw [upd_ne hb]
     exact kG b u hb h e
   have hn23:upd G6 c.rr (.dK lv) n2=some (.dK rv):=by rw [upd_ne nn2r.symm];exact hn1'
   have hRV3:RV K (upd G6 c.rr (.dK lv)) 60 rv (runL P' (0,c.N,c.L) (rwsOf RK)).2.2:=sf_rv (RP.imp (fun lq v h=>SF.tk (fun b xs e=>by rw [upd_ne (by rintro rfl;rw [hfr] at e;cases e)];exact e) h) hRV)
   clear hfr kG hn1' hRV
   generalize upd G6 c.rr (.dK lv)=G3 at *
   clear G6
   have sG3:Same G G3:=fun b u e=>k6 b u (ne_of_none e hn2) (v12 _ _ e)
   have hdu3:=k6 _ _ (by rintro rfl;rw [f2] at e2;cases e2) f2
   exact ⟨y6,_,rfl,mid.mono sG3,sG3 _ _ hsl,rowK_tk (TK.same sG3) hR,.inl ⟨du,n2,rv,rfl,hdu3,hn23,hRV3,hkn⟩⟩
  ·refine ⟨_,rfl,rfl,_,rfl,?_⟩
   rw [decide_eq_false (by intro z;cases z)]
   refine iteF ?_
   exact ⟨_,_,rfl,mid,hsl,hR,.inr ⟨dd,kk,rfl,hdd,hkk⟩⟩
 clear mid hsl hR hD
 rintro σ G3 ⟨y6,dv',rfl,mid3,hsl3,hR3,hF3⟩
 refine ⟨_,rfl,c.st,_,_,_,rfl,rfl,SqT.of mid3.fr.st,rfl,c.m1,_,rfl,mid3.fr.m1,fun m4 hm4=>?_⟩
 have w1:=same_new hm4 (.dK (nKV c.N))
 have g1:upd G3 m4 (.dK (nKV c.N)) m4=some (.dK (nKV c.N)):=upd_same
 generalize upd G3 m4 (.dK (nKV c.N))=G4 at *
 refine ⟨_,rfl,c.st,_,_,_,rfl,rfl,SqT.of (w1 _ _ mid3.fr.st),rfl,c.n1,_,rfl,w1 _ _ mid3.fr.n1,fun n4 hn4=>?_⟩
 have w2:=same_new hn4 (.dK c.rvs)
 have g2:upd G4 n4 (.dK c.rvs) n4=some (.dK c.rvs):=upd_same
 generalize upd G4 n4 (.dK c.rvs)=G5 at *
 have w12:=w1.trans w2
 refine ⟨_,rfl,c.st,_,_,_,rfl,rfl,SqT.of (w12 _ _ mid3.fr.st),rfl,c.pk,_,rfl,.inl (SqL.of (w12 _ _ mid3.pk)),fun p4 hp4=>?_⟩
 have w3:=same_new hp4 (.lst pks')
 have g3:upd G5 p4 (.lst pks') p4=some (.lst pks'):=upd_same
 generalize upd G5 p4 (.lst pks')=G6 at *
 refine ⟨sm rfl,fun hd hhd=>?_⟩
 have w4:=same_new hhd (.tup [V.ref m4,V.ref n4,V.ref p4])
 have g4:upd G6 hd (.tup [V.ref m4,V.ref n4,V.ref p4]) hd=some (.tup [V.ref m4,V.ref n4,V.ref p4]):=upd_same
 generalize upd G6 hd (.tup [V.ref m4,V.ref n4,V.ref p4])=G7' at *
 have w14:=w12.trans (w3.trans w4)
 refine ⟨_,rfl,c.sl,_,rfl,.inl (SqL.of (w14 _ _ hsl3)),fun kp hkp=>?_⟩
 have w5:=same_new hkp (.lst qs)
 have g5:upd G7' kp (.lst qs) kp=some (.lst qs):=upd_same
 generalize upd G7' kp (.lst qs)=G8' at *
 have w15:=w14.trans w5
 have mid8:=mid3.mono w15
 have hsl8:=w15 _ _ hsl3
 have hR8:=rowK_tk (TK.same w15) hR3
 have hF8:=hF3.mono w15
 have hm48:=w5 _ _ (w4 _ _ (w3 _ _ (w2 _ _ g1)))
 have hn48:=w5 _ _ (w4 _ _ (w3 _ _ g2))
 have hp48:=w5 _ _ (w4 _ _ g3)
 have hhd8:=w5 _ _ g4
 clear w1 w2 w12 w3 w4 w14 w5 w15 g1 g2 g3 g4 mid3 hsl3 hR3 hF3
 refine ⟨_,rfl,_,rfl,?_⟩
 have hrv8:RV K G8' 0 c.rvs c.L:=by rw [← hK];exact mid8.fr.rv
 have hps8:PKs K G8' P' pks':=by rw [← hK];exact mid8.ps
 have same9:∀ {G9:Hp},Same G8' G9→LikeD K G9 3 (nKV c.N) (nKV c.N)∧LikeD K G9 3 c.rvs c.rvs∧LikeV K G9 4 (.ref c.pk) (.ref p4):=fun s9=>
  ⟨nkv_like hNcd 3,rv_like hLcd (hrv8.tk (TKF.same s9)) (hrv8.tk (TKF.same s9)),pks_like (hps8.tk (TKF.same s9)) (s9 _ _ mid8.pk) (s9 _ _ hp48)⟩
 refine ⟨c.sl,c.st,c.m1,c.n1,c.pk,RK,qs,c.N,c.rvs,c.L,P',pks',rfl,hsl8,hR8,by omega,mid8.fr.st,mid8.fr.m1,by omega,mid8.fr.n1,hrv8,by omega,mid8.pk,hps8,okK mid8.ok,fun i r G9 hi hkj hki s9 hr9=>?_,fun r m' n' rvs' G9 hkn s9 hr9 hm9n hn9n hmn9 hm9 hn9 hRV9=>?_⟩
 ·-- barred
  obtain ⟨a1,a2,a3⟩:=same9 s9
  refine ⟨_,rfl,_,rfl,c.st,hd,c.m1,m4,c.n1,n4,c.pk,p4,_,_,_,_,rfl,rfl,s9 _ _ mid8.fr.st,s9 _ _ hhd8,s9 _ _ mid8.fr.m1,s9 _ _ hm48,a1,s9 _ _ mid8.fr.n1,s9 _ _ hn48,a2,a3,_,rfl,iteF ?_⟩
  refine ⟨_,rfl,_,rfl,c.sl,kp,qs,qs,rfl,rfl,SqL.of (s9 _ _ hsl8),SqL.of (s9 _ _ g5),rfl,rowk_like (rowK_tk (TK.same s9) hR8),_,rfl,iteF ?_⟩
  refine ⟨_,rfl,_,_,_,_,rfl,TyOf.tup hr9,kit_tt K,_,rfl,iteF ?_⟩
  rcases hF8.mono s9 with ⟨du,n2,rv,rfl,_,_,_,hall⟩ | ⟨dd,kk,rfl,hdd,hkk,hk1,hk2⟩
  ·exact absurd (hall i hi) hki
  have hik:kk=i:=by
   rcases Nat.lt_trichotomy kk i with c | c | c
   ·exact absurd (hkj kk c) hk2
   ·exact c
   ·exact absurd (hk1 i c) hki
  subst hik
  refine ⟨_,rfl,_,rfl,.inl ⟨r,dd,_,_,[.str "barred",.int kk],[.str "barred",.int kk],rfl,rfl,hr9,hdd,Nat.le_refl _,heldL_cons held_str (heldL_cons held_int heldL_nil),heldL_cons held_str (heldL_cons held_int heldL_nil),_,rfl,?_⟩⟩
  rw [decide_eq_true rfl]
  refine iteF ?_
  refine ⟨_,rfl,r,_,_,_,rfl,rfl,SqT.of hr9,rfl,rfl,_,rfl,?_⟩
  rw [decide_eq_false (by decide)]
  refine iteF ?_
  refine ⟨_,rfl,r,_,_,_,rfl,rfl,SqT.of hr9,rfl,_,_,_,_,rfl,TyOf.int _,kit_ii K,_,rfl,iteT ?_⟩
  exact ⟨_,rfl,r,_,_,_,rfl,rfl,SqT.of hr9,rfl,_,_,_,_,rfl,TyOf.int _,kit_ib K,_,rfl,q _⟩
 ·-- through
  obtain ⟨a1,a2,a3⟩:=same9 s9
  refine ⟨_,rfl,_,rfl,c.st,hd,c.m1,m4,c.n1,n4,c.pk,p4,_,_,_,_,rfl,rfl,s9 _ _ mid8.fr.st,s9 _ _ hhd8,s9 _ _ mid8.fr.m1,s9 _ _ hm48,a1,s9 _ _ mid8.fr.n1,s9 _ _ hn48,a2,a3,_,rfl,iteF ?_⟩
  refine ⟨_,rfl,_,rfl,c.sl,kp,qs,qs,rfl,rfl,SqL.of (s9 _ _ hsl8),SqL.of (s9 _ _ g5),rfl,rowk_like (rowK_tk (TK.same s9) hR8),_,rfl,iteF ?_⟩
  refine ⟨_,rfl,_,_,_,_,rfl,TyOf.tup hr9,kit_tt K,_,rfl,iteF ?_⟩
  rcases hF8.mono s9 with ⟨du,n2,rv,rfl,hdu,hn2,hRV2,hall⟩ | ⟨dd,kk,rfl,hdd,hkk,hk1,hk2⟩
  case inr=>exact absurd (hkn kk hkk) hk2
  refine ⟨_,rfl,_,rfl,.inr ⟨r,du,m',c.m,n',n2,_,_,_,_,_,rfl,rfl,hr9,hdu,hm9,s9 _ _ mid8.m,nkv_like mid8.d1 3,hn9,hn2,rv_like mid8.d2 hRV9 hRV2,_,rfl,iteF ?_⟩⟩
  refine ⟨_,rfl,r,_,_,_,rfl,rfl,SqT.of hr9,rfl,rfl,_,rfl,?_⟩
  rw [decide_eq_true rfl]
  exact iteT (q _)
end
open PySem L2
theorem all_mk {l:PySem.W.OpenLaw} {w:World} {K:PySem.W.Frag} {h:Heap} {mg:Str→Option Value} {fa f0 f1 f2 f3 f4 f5 f6 f7 f8 f9 f10 f11 f12 f13 f14 f15 f16 f17 f18 f19 f20 f21 f22 f23 f24 f25 f26 f27 f28 f29 f30 f31 f32 f33 f34 f35 f36 f37 f38 f39:Addr} (X:K.In h) (G:h.Ns mainGlobals mg) (hfa:mg "law" = some (.ref fa))
  {od0 an0 od1 an1 od2 an2 od3 an3 od4 an4 od5 an5 od6 an6 od7 an7 od8 an8 od9 an9 od10 an10 od11 an11 od12 an12 od13 an13 od14 an14 od15 an15 od16 an16 od17 an17 od18 an18 od19 an19 od20 an20 od21 an21 od22 an22 od23 an23 od24 an24 od25 an25 od26 an26 od27 an27 od28 an28 od29 an29 od30 an30 od31 an31 od32 an32 od33 an33 od34 an34 od35 an35 od36 an36 od37 an37 od38 an38 od39 an39:Option Addr} {sl0 sl1 sl2 sl3 sl4 sl5 sl6 sl7 sl8 sl9 sl10 sl11 sl12 sl13 sl14 sl15 sl16 sl17 sl18 sl19 sl20 sl21 sl22 sl23 sl24 sl25 sl26 sl27 sl28 sl29 sl30 sl31 sl32 sl33 sl34 sl35 sl36 sl37 sl38 sl39:Array (Option Value)} {oc0 kV0 dc0 pm0 cd0 ct0 oc1 kV1 dc1 pm1 cd1 ct1 oc2 kV2 dc2 pm2 cd2 ct2 oc3 kV3 dc3 pm3 cd3 ct3 oc4 kV4 dc4 pm4 cd4 ct4 oc5 kV5 dc5 pm5 cd5 ct5 oc6 kV6 dc6 pm6 cd6 ct6 oc7 kV7 dc7 pm7 cd7 ct7 oc8 kV8 dc8 pm8 cd8 ct8 oc9 kV9 dc9 pm9 cd9 ct9 oc10 kV10 dc10 pm10 cd10 ct10 oc11 kV11 dc11 pm11 cd11 ct11 oc12 kV12 dc12 pm12 cd12 ct12 oc13 kV13 dc13 pm13 cd13 ct13 oc14 kV14 dc14 pm14 cd14 ct14 oc15 kV15 dc15 pm15 cd15 ct15 oc16 kV16 dc16 pm16 cd16 ct16 oc17 kV17 dc17 pm17 cd17 ct17 oc18 kV18 dc18 pm18 cd18 ct18 oc19 kV19 dc19 pm19 cd19 ct19 oc20 kV20 dc20 pm20 cd20 ct20 oc21 kV21 dc21 pm21 cd21 ct21 oc22 kV22 dc22 pm22 cd22 ct22 oc23 kV23 dc23 pm23 cd23 ct23 oc24 kV24 dc24 pm24 cd24 ct24 oc25 kV25 dc25 pm25 cd25 ct25 oc26 kV26 dc26 pm26 cd26 ct26 oc27 kV27 dc27 pm27 cd27 ct27 oc28 kV28 dc28 pm28 cd28 ct28 oc29 kV29 dc29 pm29 cd29 ct29 oc30 kV30 dc30 pm30 cd30 ct30 oc31 kV31 dc31 pm31 cd31 ct31 oc32 kV32 dc32 pm32 cd32 ct32 oc33 kV33 dc33 pm33 cd33 ct33 oc34 kV34 dc34 pm34 cd34 ct34 oc35 kV35 dc35 pm35 cd35 ct35 oc36 kV36 dc36 pm36 cd36 ct36 oc37 kV37 dc37 pm37 cd37 ct37 oc38 kV38 dc38 pm38 cd38 ct38 oc39 kV39 dc39 pm39 cd39 ct39:Value}
  (a0:PySem.W.nsIn K mainGlobals "steps_up_to" = some (some (.ref f0))) (l0:K.lookup f0=some ⟨oc0,od0,.func (PySem.W.fnOf "steps_up_to" "steps_up_to" (defArgs sSteps_up_to) (defBody sSteps_up_to) (defScope sSteps_up_to) .none kV0 dc0 pm0 an0 cd0 ct0),sl0⟩) (c0:PySem.W.codeIn K cd0 "steps_up_to" = true) (k0:PySem.W.keepIn K (.ref f0)=true)
  (a1:PySem.W.nsIn K mainGlobals "entry" = some (some (.ref f1))) (l1:K.lookup f1=some ⟨oc1,od1,.func (PySem.W.fnOf "entry" "entry" (defArgs sEntry) (defBody sEntry) (defScope sEntry) .none kV1 dc1 pm1 an1 cd1 ct1),sl1⟩) (c1:PySem.W.codeIn K cd1 "entry" = true) (k1:PySem.W.keepIn K (.ref f1)=true)
  (a2:PySem.W.nsIn K mainGlobals "stairs" = some (some (.ref f2))) (l2:K.lookup f2=some ⟨oc2,od2,.func (PySem.W.fnOf "stairs" "stairs" (defArgs sStairs) (defBody sStairs) (defScope sStairs) .none kV2 dc2 pm2 an2 cd2 ct2),sl2⟩) (c2:PySem.W.codeIn K cd2 "stairs" = true) (k2:PySem.W.keepIn K (.ref f2)=true)
  (a3:PySem.W.nsIn K mainGlobals "written" = some (some (.ref f3))) (l3:K.lookup f3=some ⟨oc3,od3,.func (PySem.W.fnOf "written" "written" (defArgs sWritten) (defBody sWritten) (defScope sWritten) .none kV3 dc3 pm3 an3 cd3 ct3),sl3⟩) (c3:PySem.W.codeIn K cd3 "written" = true) (k3:PySem.W.keepIn K (.ref f3)=true)
  (a4:PySem.W.nsIn K mainGlobals "number_at" = some (some (.ref f4))) (l4:K.lookup f4=some ⟨oc4,od4,.func (PySem.W.fnOf "number_at" "number_at" (defArgs sNumber_at) (defBody sNumber_at) (defScope sNumber_at) .none kV4 dc4 pm4 an4 cd4 ct4),sl4⟩) (c4:PySem.W.codeIn K cd4 "number_at" = true) (k4:PySem.W.keepIn K (.ref f4)=true)
  (a5:PySem.W.nsIn K mainGlobals "place_at" = some (some (.ref f5))) (l5:K.lookup f5=some ⟨oc5,od5,.func (PySem.W.fnOf "place_at" "place_at" (defArgs sPlace_at) (defBody sPlace_at) (defScope sPlace_at) .none kV5 dc5 pm5 an5 cd5 ct5),sl5⟩) (c5:PySem.W.codeIn K cd5 "place_at" = true) (k5:PySem.W.keepIn K (.ref f5)=true)
  (a6:PySem.W.nsIn K mainGlobals "row_at" = some (some (.ref f6))) (l6:K.lookup f6=some ⟨oc6,od6,.func (PySem.W.fnOf "row_at" "row_at" (defArgs sRow_at) (defBody sRow_at) (defScope sRow_at) .none kV6 dc6 pm6 an6 cd6 ct6),sl6⟩) (c6:PySem.W.codeIn K cd6 "row_at" = true) (k6:PySem.W.keepIn K (.ref f6)=true)
  (a7:PySem.W.nsIn K mainGlobals "term_at" = some (some (.ref f7))) (l7:K.lookup f7=some ⟨oc7,od7,.func (PySem.W.fnOf "term_at" "term_at" (defArgs sTerm_at) (defBody sTerm_at) (defScope sTerm_at) .none kV7 dc7 pm7 an7 cd7 ct7),sl7⟩) (c7:PySem.W.codeIn K cd7 "term_at" = true) (k7:PySem.W.keepIn K (.ref f7)=true)
  (a8:PySem.W.nsIn K mainGlobals "put_into" = some (some (.ref f8))) (l8:K.lookup f8=some ⟨oc8,od8,.func (PySem.W.fnOf "put_into" "put_into" (defArgs sPut_into) (defBody sPut_into) (defScope sPut_into) .none kV8 dc8 pm8 an8 cd8 ct8),sl8⟩) (c8:PySem.W.codeIn K cd8 "put_into" = true) (k8:PySem.W.keepIn K (.ref f8)=true)
  (a9:PySem.W.nsIn K mainGlobals "pick_at" = some (some (.ref f9))) (l9:K.lookup f9=some ⟨oc9,od9,.func (PySem.W.fnOf "pick_at" "pick_at" (defArgs sPick_at) (defBody sPick_at) (defScope sPick_at) .none kV9 dc9 pm9 an9 cd9 ct9),sl9⟩) (c9:PySem.W.codeIn K cd9 "pick_at" = true) (k9:PySem.W.keepIn K (.ref f9)=true)
  (a10:PySem.W.nsIn K mainGlobals "run_places" = some (some (.ref f10))) (l10:K.lookup f10=some ⟨oc10,od10,.func (PySem.W.fnOf "run_places" "run_places" (defArgs sRun_places) (defBody sRun_places) (defScope sRun_places) .none kV10 dc10 pm10 an10 cd10 ct10),sl10⟩) (c10:PySem.W.codeIn K cd10 "run_places" = true) (k10:PySem.W.keepIn K (.ref f10)=true)
  (a11:PySem.W.nsIn K mainGlobals "bounded" = some (some (.ref f11))) (l11:K.lookup f11=some ⟨oc11,od11,.func (PySem.W.fnOf "bounded" "bounded" (defArgs sBounded) (defBody sBounded) (defScope sBounded) .none kV11 dc11 pm11 an11 cd11 ct11),sl11⟩) (c11:PySem.W.codeIn K cd11 "bounded" = true) (k11:PySem.W.keepIn K (.ref f11)=true)
  (a12:PySem.W.nsIn K mainGlobals "compared_row" = some (some (.ref f12))) (l12:K.lookup f12=some ⟨oc12,od12,.func (PySem.W.fnOf "compared_row" "compared_row" (defArgs sCompared_row) (defBody sCompared_row) (defScope sCompared_row) .none kV12 dc12 pm12 an12 cd12 ct12),sl12⟩) (c12:PySem.W.codeIn K cd12 "compared_row" = true) (k12:PySem.W.keepIn K (.ref f12)=true)
  (a13:PySem.W.nsIn K mainGlobals "least_holds" = some (some (.ref f13))) (l13:K.lookup f13=some ⟨oc13,od13,.func (PySem.W.fnOf "least_holds" "least_holds" (defArgs sLeast_holds) (defBody sLeast_holds) (defScope sLeast_holds) .none kV13 dc13 pm13 an13 cd13 ct13),sl13⟩) (c13:PySem.W.codeIn K cd13 "least_holds" = true) (k13:PySem.W.keepIn K (.ref f13)=true)
  (a14:PySem.W.nsIn K mainGlobals "each_holds" = some (some (.ref f14))) (l14:K.lookup f14=some ⟨oc14,od14,.func (PySem.W.fnOf "each_holds" "each_holds" (defArgs sEach_holds) (defBody sEach_holds) (defScope sEach_holds) .none kV14 dc14 pm14 an14 cd14 ct14),sl14⟩) (c14:PySem.W.codeIn K cd14 "each_holds" = true) (k14:PySem.W.keepIn K (.ref f14)=true)
  (a15:PySem.W.nsIn K mainGlobals "rise_holds" = some (some (.ref f15))) (l15:K.lookup f15=some ⟨oc15,od15,.func (PySem.W.fnOf "rise_holds" "rise_holds" (defArgs sRise_holds) (defBody sRise_holds) (defScope sRise_holds) .none kV15 dc15 pm15 an15 cd15 ct15),sl15⟩) (c15:PySem.W.codeIn K cd15 "rise_holds" = true) (k15:PySem.W.keepIn K (.ref f15)=true)
  (a16:PySem.W.nsIn K mainGlobals "holds" = some (some (.ref f16))) (l16:K.lookup f16=some ⟨oc16,od16,.func (PySem.W.fnOf "holds" "holds" (defArgs sHoldsP) (defBody sHoldsP) (defScope sHoldsP) .none kV16 dc16 pm16 an16 cd16 ct16),sl16⟩) (c16:PySem.W.codeIn K cd16 "holds" = true) (k16:PySem.W.keepIn K (.ref f16)=true)
  (a17:PySem.W.nsIn K mainGlobals "through" = some (some (.ref f17))) (l17:K.lookup f17=some ⟨oc17,od17,.func (PySem.W.fnOf "through" "through" (defArgs sThrough) (defBody sThrough) (defScope sThrough) .none kV17 dc17 pm17 an17 cd17 ct17),sl17⟩) (c17:PySem.W.codeIn K cd17 "through" = true) (k17:PySem.W.keepIn K (.ref f17)=true)
  (a18:PySem.W.nsIn K mainGlobals "_law_cell_at" = some (some (.ref f18))) (l18:K.lookup f18=some ⟨oc18,od18,.func (PySem.W.fnOf "_law_cell_at" "_law_cell_at" (defArgs sCell_at) (defBody sCell_at) (defScope sCell_at) .none kV18 dc18 pm18 an18 cd18 ct18),sl18⟩) (c18:PySem.W.codeIn K cd18 "_law_cell_at" = true) (k18:PySem.W.keepIn K (.ref f18)=true)
  (a19:PySem.W.nsIn K mainGlobals "_law_mix" = some (some (.ref f19))) (l19:K.lookup f19=some ⟨oc19,od19,.func (PySem.W.fnOf "_law_mix" "_law_mix" (defArgs sMix) (defBody sMix) (defScope sMix) .none kV19 dc19 pm19 an19 cd19 ct19),sl19⟩) (c19:PySem.W.codeIn K cd19 "_law_mix" = true) (k19:PySem.W.keepIn K (.ref f19)=true)
  (a20:PySem.W.nsIn K mainGlobals "_law_made" = some (some (.ref f20))) (l20:K.lookup f20=some ⟨oc20,od20,.func (PySem.W.fnOf "_law_made" "_law_made" (defArgs sMade) (defBody sMade) (defScope sMade) .none kV20 dc20 pm20 an20 cd20 ct20),sl20⟩) (c20:PySem.W.codeIn K cd20 "_law_made" = true) (k20:PySem.W.keepIn K (.ref f20)=true)
  (a21:PySem.W.nsIn K mainGlobals "_law_holds" = some (some (.ref f21))) (l21:K.lookup f21=some ⟨oc21,od21,.func (PySem.W.fnOf "_law_holds" "_law_holds" (defArgs sHolds) (defBody sHolds) (defScope sHolds) .none kV21 dc21 pm21 an21 cd21 ct21),sl21⟩) (c21:PySem.W.codeIn K cd21 "_law_holds" = true) (k21:PySem.W.keepIn K (.ref f21)=true)
  (a22:PySem.W.nsIn K mainGlobals "_law_place" = some (some (.ref f22))) (l22:K.lookup f22=some ⟨oc22,od22,.func (PySem.W.fnOf "_law_place" "_law_place" (defArgs sPlace) (defBody sPlace) (defScope sPlace) .none kV22 dc22 pm22 an22 cd22 ct22),sl22⟩) (c22:PySem.W.codeIn K cd22 "_law_place" = true) (k22:PySem.W.keepIn K (.ref f22)=true)
  (a23:PySem.W.nsIn K mainGlobals "_law_term" = some (some (.ref f23))) (l23:K.lookup f23=some ⟨oc23,od23,.func (PySem.W.fnOf "_law_term" "_law_term" (defArgs sTerm) (defBody sTerm) (defScope sTerm) .none kV23 dc23 pm23 an23 cd23 ct23),sl23⟩) (c23:PySem.W.codeIn K cd23 "_law_term" = true) (k23:PySem.W.keepIn K (.ref f23)=true)
  (a24:PySem.W.nsIn K mainGlobals "_law_stairs" = some (some (.ref f24))) (l24:K.lookup f24=some ⟨oc24,od24,.func (PySem.W.fnOf "_law_stairs" "_law_stairs" (defArgs sStairsL) (defBody sStairsL) (defScope sStairsL) .none kV24 dc24 pm24 an24 cd24 ct24),sl24⟩) (c24:PySem.W.codeIn K cd24 "_law_stairs" = true) (k24:PySem.W.keepIn K (.ref f24)=true)
  (a25:PySem.W.nsIn K mainGlobals "_law_number" = some (some (.ref f25))) (l25:K.lookup f25=some ⟨oc25,od25,.func (PySem.W.fnOf "_law_number" "_law_number" (defArgs sNumber) (defBody sNumber) (defScope sNumber) .none kV25 dc25 pm25 an25 cd25 ct25),sl25⟩) (c25:PySem.W.codeIn K cd25 "_law_number" = true) (k25:PySem.W.keepIn K (.ref f25)=true)
  (a26:PySem.W.nsIn K mainGlobals "_law_worth" = some (some (.ref f26))) (l26:K.lookup f26=some ⟨oc26,od26,.func (PySem.W.fnOf "_law_worth" "_law_worth" (defArgs sWorth) (defBody sWorth) (defScope sWorth) .none kV26 dc26 pm26 an26 cd26 ct26),sl26⟩) (c26:PySem.W.codeIn K cd26 "_law_worth" = true) (k26:PySem.W.keepIn K (.ref f26)=true)
  (a27:PySem.W.nsIn K mainGlobals "_law_put" = some (some (.ref f27))) (l27:K.lookup f27=some ⟨oc27,od27,.func (PySem.W.fnOf "_law_put" "_law_put" (defArgs sPut) (defBody sPut) (defScope sPut) .none kV27 dc27 pm27 an27 cd27 ct27),sl27⟩) (c27:PySem.W.codeIn K cd27 "_law_put" = true) (k27:PySem.W.keepIn K (.ref f27)=true)
  (a28:PySem.W.nsIn K mainGlobals "_law_gone" = some (some (.ref f28))) (l28:K.lookup f28=some ⟨oc28,od28,.func (PySem.W.fnOf "_law_gone" "_law_gone" (defArgs sGone) (defBody sGone) (defScope sGone) .none kV28 dc28 pm28 an28 cd28 ct28),sl28⟩) (c28:PySem.W.codeIn K cd28 "_law_gone" = true) (k28:PySem.W.keepIn K (.ref f28)=true)
  (a29:PySem.W.nsIn K mainGlobals "_law_drawn" = some (some (.ref f29))) (l29:K.lookup f29=some ⟨oc29,od29,.func (PySem.W.fnOf "_law_drawn" "_law_drawn" (defArgs sDrawn) (defBody sDrawn) (defScope sDrawn) .none kV29 dc29 pm29 an29 cd29 ct29),sl29⟩) (c29:PySem.W.codeIn K cd29 "_law_drawn" = true) (k29:PySem.W.keepIn K (.ref f29)=true)
  (a30:PySem.W.nsIn K mainGlobals "_law_pick" = some (some (.ref f30))) (l30:K.lookup f30=some ⟨oc30,od30,.func (PySem.W.fnOf "_law_pick" "_law_pick" (defArgs sPick) (defBody sPick) (defScope sPick) .none kV30 dc30 pm30 an30 cd30 ct30),sl30⟩) (c30:PySem.W.codeIn K cd30 "_law_pick" = true) (k30:PySem.W.keepIn K (.ref f30)=true)
  (a31:PySem.W.nsIn K mainGlobals "_law_start" = some (some (.ref f31))) (l31:K.lookup f31=some ⟨oc31,od31,.func (PySem.W.fnOf "_law_start" "_law_start" (defArgs sStart) (defBody sStart) (defScope sStart) .none kV31 dc31 pm31 an31 cd31 ct31),sl31⟩) (c31:PySem.W.codeIn K cd31 "_law_start" = true) (k31:PySem.W.keepIn K (.ref f31)=true)
  (a32:PySem.W.nsIn K mainGlobals "_law_words" = some (some (.ref f32))) (l32:K.lookup f32=some ⟨oc32,od32,.func (PySem.W.fnOf "_law_words" "_law_words" (defArgs sWords) (defBody sWords) (defScope sWords) .none kV32 dc32 pm32 an32 cd32 ct32),sl32⟩) (c32:PySem.W.codeIn K cd32 "_law_words" = true) (k32:PySem.W.keepIn K (.ref f32)=true)
  (a33:PySem.W.nsIn K mainGlobals "_law_points" = some (some (.ref f33))) (l33:K.lookup f33=some ⟨oc33,od33,.func (PySem.W.fnOf "_law_points" "_law_points" (defArgs sPoints) (defBody sPoints) (defScope sPoints) .none kV33 dc33 pm33 an33 cd33 ct33),sl33⟩) (c33:PySem.W.codeIn K cd33 "_law_points" = true) (k33:PySem.W.keepIn K (.ref f33)=true)
  (a34:PySem.W.nsIn K mainGlobals "_law_gaps" = some (some (.ref f34))) (l34:K.lookup f34=some ⟨oc34,od34,.func (PySem.W.fnOf "_law_gaps" "_law_gaps" (defArgs sGaps) (defBody sGaps) (defScope sGaps) .none kV34 dc34 pm34 an34 cd34 ct34),sl34⟩) (c34:PySem.W.codeIn K cd34 "_law_gaps" = true) (k34:PySem.W.keepIn K (.ref f34)=true)
  (a35:PySem.W.nsIn K mainGlobals "_law_true" = some (some (.ref f35))) (l35:K.lookup f35=some ⟨oc35,od35,.func (PySem.W.fnOf "_law_true" "_law_true" (defArgs sTrue) (defBody sTrue) (defScope sTrue) .none kV35 dc35 pm35 an35 cd35 ct35),sl35⟩) (c35:PySem.W.codeIn K cd35 "_law_true" = true) (k35:PySem.W.keepIn K (.ref f35)=true)
  (a36:PySem.W.nsIn K mainGlobals "_law_end" = some (some (.ref f36))) (l36:K.lookup f36=some ⟨oc36,od36,.func (PySem.W.fnOf "_law_end" "_law_end" (defArgs sEnd) (defBody sEnd) (defScope sEnd) .none kV36 dc36 pm36 an36 cd36 ct36),sl36⟩) (c36:PySem.W.codeIn K cd36 "_law_end" = true) (k36:PySem.W.keepIn K (.ref f36)=true)
  (a37:PySem.W.nsIn K mainGlobals "_law_claim" = some (some (.ref f37))) (l37:K.lookup f37=some ⟨oc37,od37,.func (PySem.W.fnOf "_law_claim" "_law_claim" (defArgs sClaim) (defBody sClaim) (defScope sClaim) .none kV37 dc37 pm37 an37 cd37 ct37),sl37⟩) (c37:PySem.W.codeIn K cd37 "_law_claim" = true) (k37:PySem.W.keepIn K (.ref f37)=true)
  (a38:PySem.W.nsIn K mainGlobals "_law_fitted" = some (some (.ref f38))) (l38:K.lookup f38=some ⟨oc38,od38,.func (PySem.W.fnOf "_law_fitted" "_law_fitted" (defArgs sFitted) (defBody sFitted) (defScope sFitted) .none kV38 dc38 pm38 an38 cd38 ct38),sl38⟩) (c38:PySem.W.codeIn K cd38 "_law_fitted" = true) (k38:PySem.W.keepIn K (.ref f38)=true)
  (a39:PySem.W.nsIn K mainGlobals "law" = some (some (.ref f39))) (l39:K.lookup f39=some ⟨oc39,od39,.func (PySem.W.fnOf "law" "law" (defArgs sLaw) (defBody sLaw) (defScope sLaw) .none kV39 dc39 pm39 an39 cd39 ct39),sl39⟩) (c39:PySem.W.codeIn K cd39 "law" = true) (k39:PySem.W.keepIn K (.ref f39)=true)
  {ba eb:Addr} {odb ode:Option Addr} {slb sle:Array (Option Value)} {tkb:Tok} {nb ne:Nat} (ag:PySem.W.nsIn K mainGlobals "BARE_ROW" = some (some (.ref ba))) (lg:K.lookup ba=some ⟨.type "tuple",odb,.seq #[.int 0 tkb,.ref eb] nb,slb⟩) (le:K.lookup eb=some ⟨.type "tuple",ode,.seq #[] ne,sle⟩) (ze:PySem.W.nsIn K mainGlobals "enumerate" = some none)
  (z0:PySem.W.nsIn K mainGlobals "len" = some none) (z1:PySem.W.nsIn K mainGlobals "max" = some none) (z2:PySem.W.nsIn K mainGlobals "min" = some none) (z3:PySem.W.nsIn K mainGlobals "all" = some none) (z4:PySem.W.nsIn K mainGlobals "isinstance" = some none) (z5:PySem.W.nsIn K mainGlobals "abs" = some none) (z6:PySem.W.nsIn K mainGlobals "sorted" = some none) (z7:PySem.W.nsIn K mainGlobals "int" = some none) (z8:PySem.W.nsIn K mainGlobals "str" = some none) (z9:PySem.W.nsIn K mainGlobals "bool" = some none) (z10:PySem.W.nsIn K mainGlobals "tuple" = some none) (z11:PySem.W.nsIn K mainGlobals "list" = some none) (z12:PySem.W.nsIn K mainGlobals "dict" = some none) (z13:PySem.W.nsIn K mainGlobals "range" = some none) (z14:PySem.W.nsIn K mainGlobals "set" = some none) :
  ∃ fd:FuncData,(∀ (s:Shared) (v:Value),BindsTo s fd ⟨[v],[]⟩ [("_law_script",v)])∧∀ base:Heap,K.In base→base.Ns mainGlobals mg→FnOk l.prog w K mg base CX0 7 fa fd ["_law_script"] (spLaw K):=by
 have e:=hfa.symm.trans (PySem.W.mg_of X G a39)
 cases e
 have B:Free0 mg:=⟨PySem.W.mg_none_of X G z0,PySem.W.mg_none_of X G z1,PySem.W.mg_none_of X G z2,PySem.W.mg_none_of X G z3,PySem.W.mg_none_of X G z4,PySem.W.mg_none_of X G z5,PySem.W.mg_none_of X G z6,PySem.W.mg_none_of X G z7,PySem.W.mg_none_of X G z8,PySem.W.mg_none_of X G z9,PySem.W.mg_none_of X G z10,PySem.W.mg_none_of X G z11,PySem.W.mg_none_of X G z12,PySem.W.mg_none_of X G z13,PySem.W.mg_none_of X G z14⟩
 have Z_enumerate:mg "enumerate" = none:=PySem.W.mg_none_of X G ze
 have R:Bare K mg:=⟨ba,eb,PySem.W.mg_of X G ag,fun H=>.inr ⟨_,_,_,lg,rfl,rfl,sm rfl,.cons ⟨tkb,rfl⟩ (.cons rfl .nil)⟩,fun H=>.inr ⟨_,_,_,le,rfl,rfl,sm rfl,.nil⟩⟩
 have U0:=fun_mk (st:=sSteps_up_to) l0 c0 k0
 have b0:=U0.binds (ps:=["steps","p"]) fun _ _ _ _ _ _ us hl=>match us,hl with | [_,_],_=>rfl
 have U1:=fun_mk (st:=sEntry) l1 c1 k1
 have b1:=U1.binds (ps:=["row","p"]) fun _ _ _ _ _ _ us hl=>match us,hl with | [_,_],_=>rfl
 have U2:=fun_mk (st:=sStairs) l2 c2 k2
 have b2:=U2.binds (ps:=["base","pairs"]) fun _ _ _ _ _ _ us hl=>match us,hl with | [_,_],_=>rfl
 have U3:=fun_mk (st:=sWritten) l3 c3 k3
 have b3:=U3.binds (ps:=["row","p","v"]) fun _ _ _ _ _ _ us hl=>match us,hl with | [_,_,_],_=>rfl
 have U4:=fun_mk (st:=sNumber_at) l4 c4 k4
 have b4:=U4.binds (ps:=["x","numbers"]) fun _ _ _ _ _ _ us hl=>match us,hl with | [_,_],_=>rfl
 have U5:=fun_mk (st:=sPlace_at) l5 c5 k5
 have b5:=U5.binds (ps:=["place","numbers"]) fun _ _ _ _ _ _ us hl=>match us,hl with | [_,_],_=>rfl
 have U6:=fun_mk (st:=sRow_at) l6 c6 k6
 have b6:=U6.binds (ps:=["r","rows"]) fun _ _ _ _ _ _ us hl=>match us,hl with | [_,_],_=>rfl
 have U7:=fun_mk (st:=sTerm_at) l7 c7 k7
 have b7:=U7.binds (ps:=["term","numbers","rows"]) fun _ _ _ _ _ _ us hl=>match us,hl with | [_,_,_],_=>rfl
 have U8:=fun_mk (st:=sPut_into) l8 c8 k8
 have b8:=U8.binds (ps:=["row","numbers","held"]) fun _ _ _ _ _ _ us hl=>match us,hl with | [_,_,_],_=>rfl
 have U9:=fun_mk (st:=sPick_at) l9 c9 k9
 have b9:=U9.binds (ps:=["picks","n","lacking"]) fun _ _ _ _ _ _ us hl=>match us,hl with | [_,_,_],_=>rfl
 have U10:=fun_mk (st:=sRun_places) l10 c10 k10
 have b10:=U10.binds (ps:=["t","u","held_rows"]) fun _ _ _ _ _ _ us hl=>match us,hl with | [_,_,_],_=>rfl
 have U11:=fun_mk (st:=sBounded) l11 c11 k11
 have b11:=U11.binds (ps:=["value","way","bound"]) fun _ _ _ _ _ _ us hl=>match us,hl with | [_,_,_],_=>rfl
 have U12:=fun_mk (st:=sCompared_row) l12 c12 k12
 have b12:=U12.binds (ps:=["b","numbers","rows"]) fun _ _ _ _ _ _ us hl=>match us,hl with | [_,_,_],_=>rfl
 have U13:=fun_mk (st:=sLeast_holds) l13 c13 k13
 have b13:=U13.binds (ps:=["claim","numbers","rows"]) fun _ _ _ _ _ _ us hl=>match us,hl with | [_,_,_],_=>rfl
 have U14:=fun_mk (st:=sEach_holds) l14 c14 k14
 have b14:=U14.binds (ps:=["claim","numbers","rows"]) fun _ _ _ _ _ _ us hl=>match us,hl with | [_,_,_],_=>rfl
 have U15:=fun_mk (st:=sRise_holds) l15 c15 k15
 have b15:=U15.binds (ps:=["claim","numbers","rows"]) fun _ _ _ _ _ _ us hl=>match us,hl with | [_,_,_],_=>rfl
 have U16:=fun_mk (st:=sHoldsP) l16 c16 k16
 have b16:=U16.binds (ps:=["claim","numbers","rows"]) fun _ _ _ _ _ _ us hl=>match us,hl with | [_,_,_],_=>rfl
 have U17:=fun_mk (st:=sThrough) l17 c17 k17
 have b17:=U17.binds (ps:=["rows","start"]) fun _ _ _ _ _ _ us hl=>match us,hl with | [_,_],_=>rfl
 have U18:=fun_mk (st:=sCell_at) l18 c18 k18
 have b18:=U18.binds (ps:=["_law_script","_law_k"]) fun _ _ _ _ _ _ us hl=>match us,hl with | [_,_],_=>rfl
 have U19:=fun_mk (st:=sMix) l19 c19 k19
 have b19:=U19.binds (ps:=["_law_seed","_law_k"]) fun _ _ _ _ _ _ us hl=>match us,hl with | [_,_],_=>rfl
 have U20:=fun_mk (st:=sMade) l20 c20 k20
 have b20:=U20.binds (ps:=["_law_seed","_law_near"]) fun _ _ _ _ _ _ us hl=>match us,hl with | [_,_],_=>rfl
 have U21:=fun_mk (st:=sHolds) l21 c21 k21
 have b21:=U21.binds (ps:=["_law_row","_law_place_here"]) fun _ _ _ _ _ _ us hl=>match us,hl with | [_,_],_=>rfl
 have U22:=fun_mk (st:=sPlace) l22 c22 k22
 have b22:=U22.binds (ps:=["_law_seed","_law_w","_law_near"]) fun _ _ _ _ _ _ us hl=>match us,hl with | [_,_,_],_=>rfl
 have U23:=fun_mk (st:=sTerm) l23 c23 k23
 have b23:=U23.binds (ps:=["_law_seed","_law_w","_law_near"]) fun _ _ _ _ _ _ us hl=>match us,hl with | [_,_,_],_=>rfl
 have U24:=fun_mk (st:=sStairsL) l24 c24 k24
 have b24:=U24.binds (ps:=["_law_row"]) fun _ _ _ _ _ _ us hl=>match us,hl with | [_],_=>rfl
 have U25:=fun_mk (st:=sNumber) l25 c25 k25
 have b25:=U25.binds (ps:=["_law_x","_law_numbers"]) fun _ _ _ _ _ _ us hl=>match us,hl with | [_,_],_=>rfl
 have U26:=fun_mk (st:=sWorth) l26 c26 k26
 have b26:=U26.binds (ps:=["_law_term_here","_law_numbers","_law_rows"]) fun _ _ _ _ _ _ us hl=>match us,hl with | [_,_,_],_=>rfl
 have U27:=fun_mk (st:=sPut) l27 c27 k27
 have b27:=U27.binds (ps:=["_law_rows","_law_r","_law_place_here","_law_value"]) fun _ _ _ _ _ _ us hl=>match us,hl with | [_,_,_,_],_=>rfl
 have U28:=fun_mk (st:=sGone) l28 c28 k28
 have b28:=U28.binds (ps:=["_law_row","_law_numbers","_law_rows","_law_pick_here"]) fun _ _ _ _ _ _ us hl=>match us,hl with | [_,_,_,_],_=>rfl
 have U29:=fun_mk (st:=sDrawn) l29 c29 k29
 have b29:=U29.binds (ps:=["_law_seed","_law_w","_law_near"]) fun _ _ _ _ _ _ us hl=>match us,hl with | [_,_,_],_=>rfl
 have U30:=fun_mk (st:=sPick) l30 c30 k30
 have b30:=U30.binds (ps:=["_law_seed","_law_row","_law_near"]) fun _ _ _ _ _ _ us hl=>match us,hl with | [_,_,_],_=>rfl
 have U31:=fun_mk (st:=sStart) l31 c31 k31
 have b31:=U31.binds (ps:=["_law_script","_law_w","_law_near"]) fun _ _ _ _ _ _ us hl=>match us,hl with | [_,_,_],_=>rfl
 have U32:=fun_mk (st:=sWords) l32 c32 k32
 have b32:=U32.binds (ps:=["_law_cell","_law_many"]) fun _ _ _ _ _ _ us hl=>match us,hl with | [_,_],_=>rfl
 have U33:=fun_mk (st:=sPoints) l33 c33 k33
 have b33:=U33.binds (ps:=["_law_some","_law_t","_law_u"]) fun _ _ _ _ _ _ us hl=>match us,hl with | [_,_,_],_=>rfl
 have U34:=fun_mk (st:=sGaps) l34 c34 k34
 have b34:=U34.binds (ps:=["_law_claim_here","_law_numbers","_law_rows"]) fun _ _ _ _ _ _ us hl=>match us,hl with | [_,_,_],_=>rfl
 have U35:=fun_mk (st:=sTrue) l35 c35 k35
 have b35:=U35.binds (ps:=["_law_claim_here","_law_numbers","_law_rows"]) fun _ _ _ _ _ _ us hl=>match us,hl with | [_,_,_],_=>rfl
 have U36:=fun_mk (st:=sEnd) l36 c36 k36
 have b36:=U36.binds (ps:=["_law_seed","_law_w","_law_near"]) fun _ _ _ _ _ _ us hl=>match us,hl with | [_,_,_],_=>rfl
 have U37:=fun_mk (st:=sClaim) l37 c37 k37
 have b37:=U37.binds (ps:=["_law_seed","_law_w","_law_near","_law_free"]) fun _ _ _ _ _ _ us hl=>match us,hl with | [_,_,_,_],_=>rfl
 have U38:=fun_mk (st:=sFitted) l38 c38 k38
 have b38:=U38.binds (ps:=["_law_claim_here","_law_seed","_law_numbers","_law_rows"]) fun _ _ _ _ _ _ us hl=>match us,hl with | [_,_,_,_],_=>rfl
 have U39:=fun_mk (st:=sLaw) l39 c39 k39
 refine ⟨PySem.W.fnOf "law" "law" (defArgs sLaw) (defBody sLaw) (defScope sLaw) .none kV39 dc39 pm39 an39 cd39 ct39,fun s v=>.of_eq rfl,fun base _ _=>?_⟩
 have F_steps_up_to:=Fn.mk' U0 b0 (PySem.W.mg_of X G a0) (ok_steps (P:=l.prog) (w:=w) (base:=base) U0 B)
 have F_entry:=Fn.mk' U1 b1 (PySem.W.mg_of X G a1) (ok_entry (P:=l.prog) (w:=w) (base:=base) U1 F_steps_up_to)
 have F_stairs:=Fn.mk' U2 b2 (PySem.W.mg_of X G a2) (ok_stairs (P:=l.prog) (w:=w) (base:=base) U2 B)
 have F_written:=Fn.mk' U3 b3 (PySem.W.mg_of X G a3) (ok_written (P:=l.prog) (w:=w) (base:=base) U3 B F_steps_up_to F_entry F_stairs)
 have F_number_at:=Fn.mk' U4 b4 (PySem.W.mg_of X G a4) (ok_number_at (P:=l.prog) (w:=w) (base:=base) U4 )
 have F_place_at:=Fn.mk' U5 b5 (PySem.W.mg_of X G a5) (ok_place_at (P:=l.prog) (w:=w) (base:=base) U5 F_number_at)
 have F_row_at:=Fn.mk' U6 b6 (PySem.W.mg_of X G a6) (ok_row_at (P:=l.prog) (w:=w) (base:=base) U6 R)
 have F_term_at:=Fn.mk' U7 b7 (PySem.W.mg_of X G a7) (ok_term_at (P:=l.prog) (w:=w) (base:=base) U7 F_number_at F_place_at F_row_at F_entry)
 have F_put_into:=Fn.mk' U8 b8 (PySem.W.mg_of X G a8) (ok_put_into (P:=l.prog) (w:=w) (base:=base) U8 F_place_at F_row_at F_term_at F_written)
 have F_pick_at:=Fn.mk' U9 b9 (PySem.W.mg_of X G a9) (ok_pick_at (P:=l.prog) (w:=w) (base:=base) U9 B)
 have F_run_places:=Fn.mk' U10 b10 (PySem.W.mg_of X G a10) (ok_run (P:=l.prog) (w:=w) (base:=base) U10 B)
 have F_bounded:=Fn.mk' U11 b11 (PySem.W.mg_of X G a11) (ok_bounded (P:=l.prog) (w:=w) (base:=base) U11 )
 have F_compared_row:=Fn.mk' U12 b12 (PySem.W.mg_of X G a12) (ok_compared (P:=l.prog) (w:=w) (base:=base) U12 F_row_at F_number_at)
 have F_least_holds:=Fn.mk' U13 b13 (PySem.W.mg_of X G a13) (ok_least (P:=l.prog) (w:=w) (base:=base) U13 F_term_at)
 have F_each_holds:=Fn.mk' U14 b14 (PySem.W.mg_of X G a14) (ok_each (P:=l.prog) (w:=w) (base:=base) U14 F_row_at F_compared_row F_run_places F_place_at F_bounded F_entry)
 have F_rise_holds:=Fn.mk' U15 b15 (PySem.W.mg_of X G a15) (ok_rise (P:=l.prog) (w:=w) (base:=base) U15 B F_row_at F_run_places F_place_at F_entry)
 have F_holds:=Fn.mk' U16 b16 (PySem.W.mg_of X G a16) (ok_holdsP (P:=l.prog) (w:=w) (base:=base) U16 F_least_holds F_each_holds F_rise_holds)
 have F_through:=Fn.mk' U17 b17 (PySem.W.mg_of X G a17) (ok_through (P:=l.prog) (w:=w) (base:=base) U17 B Z_enumerate R F_term_at F_holds F_put_into F_pick_at)
 have F_cell_at:=Fn.mk' U18 b18 (PySem.W.mg_of X G a18) (ok_cell (P:=l.prog) (w:=w) (base:=base) U18 B)
 have F_mix:=Fn.mk' U19 b19 (PySem.W.mg_of X G a19) (ok_mix (P:=l.prog) (w:=w) (base:=base) U19 )
 have F_made:=Fn.mk' U20 b20 (PySem.W.mg_of X G a20) (ok_made (P:=l.prog) (w:=w) (base:=base) U20 B F_mix)
 have F_holds:=Fn.mk' U21 b21 (PySem.W.mg_of X G a21) (ok_holdsL (P:=l.prog) (w:=w) (base:=base) U21 )
 have F_place:=Fn.mk' U22 b22 (PySem.W.mg_of X G a22) (ok_place (P:=l.prog) (w:=w) (base:=base) U22 B)
 have F_term:=Fn.mk' U23 b23 (PySem.W.mg_of X G a23) (ok_term (P:=l.prog) (w:=w) (base:=base) U23 B F_place)
 have F_stairs:=Fn.mk' U24 b24 (PySem.W.mg_of X G a24) (ok_stairsL (P:=l.prog) (w:=w) (base:=base) U24 B F_holds)
 have F_number:=Fn.mk' U25 b25 (PySem.W.mg_of X G a25) (ok_number (P:=l.prog) (w:=w) (base:=base) U25 )
 have F_worth:=Fn.mk' U26 b26 (PySem.W.mg_of X G a26) (ok_worth (P:=l.prog) (w:=w) (base:=base) U26 F_number F_holds)
 have F_put:=Fn.mk' U27 b27 (PySem.W.mg_of X G a27) (ok_put (P:=l.prog) (w:=w) (base:=base) U27 )
 have F_gone:=Fn.mk' U28 b28 (PySem.W.mg_of X G a28) (ok_gone (P:=l.prog) (w:=w) (base:=base) U28 F_number F_worth F_put)
 have F_drawn:=Fn.mk' U29 b29 (PySem.W.mg_of X G a29) (ok_drawn (P:=l.prog) (w:=w) (base:=base) U29 B F_mix F_place F_term)
 have F_pick:=Fn.mk' U30 b30 (PySem.W.mg_of X G a30) (ok_pick (P:=l.prog) (w:=w) (base:=base) U30 F_made)
 have F_start:=Fn.mk' U31 b31 (PySem.W.mg_of X G a31) (ok_start (P:=l.prog) (w:=w) (base:=base) U31 B F_cell_at F_made)
 have F_words:=Fn.mk' U32 b32 (PySem.W.mg_of X G a32) (ok_words (P:=l.prog) (w:=w) (base:=base) U32 B)
 have F_points:=Fn.mk' U33 b33 (PySem.W.mg_of X G a33) (ok_points (P:=l.prog) (w:=w) (base:=base) U33 B)
 have F_gaps:=Fn.mk' U34 b34 (PySem.W.mg_of X G a34) (ok_gaps (P:=l.prog) (w:=w) (base:=base) U34 F_number F_holds F_points)
 have F_true:=Fn.mk' U35 b35 (PySem.W.mg_of X G a35) (ok_true (P:=l.prog) (w:=w) (base:=base) U35 B F_number F_worth F_holds F_points F_gaps)
 have F_end:=Fn.mk' U36 b36 (PySem.W.mg_of X G a36) (ok_end (P:=l.prog) (w:=w) (base:=base) U36 F_place)
 have F_claim:=Fn.mk' U37 b37 (PySem.W.mg_of X G a37) (ok_claim (P:=l.prog) (w:=w) (base:=base) U37 B F_mix F_place F_term F_end)
 have F_fitted:=Fn.mk' U38 b38 (PySem.W.mg_of X G a38) (ok_fitted (P:=l.prog) (w:=w) (base:=base) U38 B F_worth F_gaps)
 exact ok_law U39 B Z_enumerate F_cell_at F_words F_start F_stairs F_drawn F_mix F_claim F_fitted F_true F_pick F_gone F_through
theorem walk {l:PySem.W.OpenLaw} {q:Program} {loose:List Str} {XP:(Str→Option Value)→Heap→Prop} {YP:World→Heap→Prop} {d:DefRec} {K:Params→PySem.W.Frag} (hn:l.most=some 63) (hdf:d.params.defaults=[])
  (hY:∀ (w:World) (h:Heap),YP w h→(K w.params).In h)
  (F:∀ (w:World) (mg:Str→Option Value) (fa:Addr) (h:Heap),(K w.params).In h→h.Ns mainGlobals mg→mg d.name=some (.ref fa)→
   ∃ fd:FuncData,(∀ (s:Shared) (u:Value),BindsTo s fd ⟨[u],[]⟩ [("_law_script",u)])∧∀ base:Heap,(K w.params).In base→base.Ns mainGlobals mg→FnOk l.prog w (K w.params) mg base CX0 7 fa fd ["_law_script"] (spLaw (K w.params))) :
  PySem.W.WalkO q loose XP YP l.row.toRowW d [] (fun f vs=>PySem.call f vs):=
 L2.walk_of (n:=63) (k:=7) (x:="_law_script") (CX:=fun _=>CX0) (sp:=fun w=>spLaw (K w.params)) hn (by decide) hdf ⟨rfl,by decide,by decide⟩ hY F (fun _ _ a ns hl _ hS=>⟨a,ns,rfl,hS,hl,fun _=>rfl⟩) fun _ _ _ _ _ z=>z
end LW
def PySem.W.Fast.tw13201308809029016593:Unit:=()
def PySem.W.Fast.tw7309786727586844319:Unit:=()
def PySem.W.Fast.tw17652781903622473580:Unit:=()
def PySem.W.Fast.tw14697341199094295413:Unit:=()
def PySem.W.Fast.tw12812863278768781891:Unit:=()
def PySem.W.Fast.tw16862438446484831510:Unit:=()
def PySem.W.Fast.tw5901636647129787985:Unit:=()
def PySem.W.Fast.tw16603917009661330486:Unit:=()
def PySem.W.Fast.tw3402619616288564900:Unit:=()
def PySem.W.Fast.tw18019113401815920618:Unit:=()
def PySem.W.Fast.tw17058145087483278120:Unit:=()
def PySem.W.Fast.tw17966773888097591266:Unit:=()
def PySem.W.Fast.tw14888196047659427549:Unit:=()
def PySem.W.Fast.tw4899096212648132134:Unit:=()
def PySem.W.Fast.tw10070101368914416150:Unit:=()
def PySem.W.Fast.tw12642670504513362356:Unit:=()
def PySem.W.Fast.tw4228727458883648050:Unit:=()
def PySem.W.Fast.tw18267477768821708266:Unit:=()
def PySem.W.Fast.tw12901839760712855644:Unit:=()
def PySem.W.Fast.tw15690522897341184124:Unit:=()
def PySem.W.Fast.tw4624355722941714810:Unit:=()
def PySem.W.Fast.tw14462790864756553748:Unit:=()
def PySem.W.Fast.tw589988588455682802:Unit:=()
def PySem.W.Fast.tw10204528089773475209:Unit:=()
def PySem.W.Fast.tw421624116115725276:Unit:=()
def PySem.W.Fast.tw11945940559367927153:Unit:=()
def PySem.W.Fast.tw10129495630241658577:Unit:=()
def PySem.W.Fast.tw1089055431810144123:Unit:=()
def PySem.W.Fast.tw3097281610008091559:Unit:=()
def PySem.W.Fast.tw2174400693690673960:Unit:=()
def PySem.W.Fast.tw13816657390993387515:Unit:=()
def PySem.W.Fast.tw330798302520456400:Unit:=()
def PySem.W.Fast.tw1763187302000510856:Unit:=()
def PySem.W.Fast.tw8044938636616978397:Unit:=()
def PySem.W.Fast.tw4954446595163070996:Unit:=()
def PySem.W.Fast.tw10812718268197897522:Unit:=()
def PySem.W.Fast.tw3583329616922422093:Unit:=()
def PySem.W.Fast.tw14491709039670114396:Unit:=()
def PySem.W.Fast.tw14179971400825691272:Unit:=()
def PySem.W.Fast.tw536079569786602620:Unit:=()
def PySem.W.Fast.tw5876318078576441320:Unit:=()
def PySem.W.Fast.tw17889337943021571173:Unit:=()
def PySem.W.Fast.tw11747329289771592706:Unit:=()
def PySem.W.Fast.tw5760620149003763708:Unit:=()
def PySem.W.Fast.tw13955199622244139367:Unit:=()
def PySem.W.Fast.tw6910085079877153148:Unit:=()
def PySem.W.Fast.tw16935701293846680461:Unit:=()
def PySem.W.Fast.tw16838376142120640916:Unit:=()
def PySem.W.Fast.tw10731680105017322075:Unit:=()
def PySem.W.Fast.tw1727898792149395919:Unit:=()
def PySem.W.Fast.tw2430497283136611790:Unit:=()
def PySem.W.Fast.tw17613248475496687069:Unit:=()
def PySem.W.Fast.tw5835311138373143786:Unit:=()
def PySem.W.Fast.tw2209233776404886913:Unit:=()
def PySem.W.Fast.tw17190244081615606244:Unit:=()
def PySem.W.Fast.tw3837521309665506949:Unit:=()
def PySem.W.Fast.tw13370443584849629454:Unit:=()
def PySem.W.Fast.tw11295812024407841663:Unit:=()
def PySem.W.Fast.tw9900117736150286932:Unit:=()
def PySem.W.Fast.tw2407025188830603177:Unit:=()
def PySem.W.Fast.tw7081718865360008843:Unit:=()
def PySem.W.Fast.tw2346165720619984363:Unit:=()
def PySem.W.Fast.tw10604253236535289486:Unit:=()
def PySem.W.Fast.tw2133889707560525336:Unit:=()
def PySem.W.Fast.tw15257492502906381188:Unit:=()
def PySem.W.Fast.tw3512598395254898317:Unit:=()
def PySem.W.Fast.tw11849583545653346369:Unit:=()
def PySem.W.Fast.tw6251943356003290001:Unit:=()
def PySem.W.Fast.tw8977604834995593602:Unit:=()
def PySem.W.Fast.tw18182478491138263879:Unit:=()
def PySem.W.Fast.tw3316496524385915240:Unit:=()
def PySem.W.Fast.tw15174542858155170219:Unit:=()
def PySem.W.Fast.tw2144875721833887701:Unit:=()
def PySem.W.Fast.tw7782187153244070273:Unit:=()
def PySem.W.Fast.tw17791986212640392319:Unit:=()
def PySem.W.Fast.tw9128573192686990946:Unit:=()
def PySem.W.Fast.tw15010584645729910392:Unit:=()
def PySem.W.Fast.tw10949145013749342748:Unit:=()
def PySem.W.Fast.tw3286795673067887623:Unit:=()
def PySem.W.Fast.tw6569208081277883094:Unit:=()
def PySem.W.Fast.tw1012241243652600918:Unit:=()
def PySem.W.Fast.tw18020401377222113907:Unit:=()
def PySem.W.Fast.tw9233707171719349316:Unit:=()
def PySem.W.Fast.tw13979672401110867366:Unit:=()
def PySem.W.Fast.tw17737879189131088131:Unit:=()
def PySem.W.Fast.tw5020332868462351224:Unit:=()
def PySem.W.Fast.tw7288974787195283384:Unit:=()
def PySem.W.Fast.tw4828439352965047452:Unit:=()
def PySem.W.Fast.tw11655027371298065272:Unit:=()
def PySem.W.Fast.tw5843428840524774361:Unit:=()
def PySem.W.Fast.tw17471459004046791041:Unit:=()
def PySem.W.Fast.tw15423274466443204444:Unit:=()
def PySem.W.Fast.tw14490307245247422646:Unit:=()
def PySem.W.Fast.tw16520207162411344309:Unit:=()
def PySem.W.Fast.tw7691831931185815894:Unit:=()
def PySem.W.Fast.tw3524187296531499489:Unit:=()
def PySem.W.Fast.tw2457595523899313721:Unit:=()
def PySem.W.Fast.tw9589944129475947703:Unit:=()
def PySem.W.Fast.tw7873278822208673786:Unit:=()
def PySem.W.Fast.tw16209146898706881469:Unit:=()
def PySem.W.Fast.tw3678940263357322106:Unit:=()
def PySem.W.Fast.tw12024727029107376451:Unit:=()
def PySem.W.Fast.tw13084862628249019036:Unit:=()
def PySem.W.Fast.tw12667469849979924779:Unit:=()
def PySem.W.Fast.tw17720826201158737437:Unit:=()
def PySem.W.Fast.tw319960262913140747:Unit:=()
def PySem.W.Fast.tw1615150516274228285:Unit:=()
def PySem.W.Fast.tw2069678121579961353:Unit:=()
def PySem.W.Fast.tw3969093184562313671:Unit:=()
open PySem PySem.W PyProof.Rows
set_option maxRecDepth 100000 in
set_option maxHeartbeats 0 in
theorem PySem.Challenge.cw_outlineward_k42_barred_at_the_first_holds : PySem.Challenge.rw_outlineward_k42_barred_at_the_first.Holds := by
 w_on;o_law;k_head;(case hw=>w_witness2)
 k_fill
 refine LW.walk (l:=PySem.Challenge.rw_outlineward_k42_barred_at_the_first) rfl rfl (fun w h Y=>PySem.W.kIn_of Y) ?F
 case F=>
  intro w mg fa h KX G hmg
  refine' LW.all_mk KX G hmg ?a0 ?l0 ?c0 ?k0 ?a1 ?l1 ?c1 ?k1 ?a2 ?l2 ?c2 ?k2 ?a3 ?l3 ?c3 ?k3 ?a4 ?l4 ?c4 ?k4 ?a5 ?l5 ?c5 ?k5 ?a6 ?l6 ?c6 ?k6 ?a7 ?l7 ?c7 ?k7 ?a8 ?l8 ?c8 ?k8 ?a9 ?l9 ?c9 ?k9 ?a10 ?l10 ?c10 ?k10 ?a11 ?l11 ?c11 ?k11 ?a12 ?l12 ?c12 ?k12 ?a13 ?l13 ?c13 ?k13 ?a14 ?l14 ?c14 ?k14 ?a15 ?l15 ?c15 ?k15 ?a16 ?l16 ?c16 ?k16 ?a17 ?l17 ?c17 ?k17 ?a18 ?l18 ?c18 ?k18 ?a19 ?l19 ?c19 ?k19 ?a20 ?l20 ?c20 ?k20 ?a21 ?l21 ?c21 ?k21 ?a22 ?l22 ?c22 ?k22 ?a23 ?l23 ?c23 ?k23 ?a24 ?l24 ?c24 ?k24 ?a25 ?l25 ?c25 ?k25 ?a26 ?l26 ?c26 ?k26 ?a27 ?l27 ?c27 ?k27 ?a28 ?l28 ?c28 ?k28 ?a29 ?l29 ?c29 ?k29 ?a30 ?l30 ?c30 ?k30 ?a31 ?l31 ?c31 ?k31 ?a32 ?l32 ?c32 ?k32 ?a33 ?l33 ?c33 ?k33 ?a34 ?l34 ?c34 ?k34 ?a35 ?l35 ?c35 ?k35 ?a36 ?l36 ?c36 ?k36 ?a37 ?l37 ?c37 ?k37 ?a38 ?l38 ?c38 ?k38 ?a39 ?l39 ?c39 ?k39 ?bag ?blg ?ble ?ze ?z0 ?z1 ?z2 ?z3 ?z4 ?z5 ?z6 ?z7 ?z8 ?z9 ?z10 ?z11 ?z12 ?z13 ?z14
  (case a0=>k_is);(case l0=>k_is);(case c0=>k_is);(case k0=>k_is)
  (case a1=>k_is);(case l1=>k_is);(case c1=>k_is);(case k1=>k_is)
  (case a2=>k_is);(case l2=>k_is);(case c2=>k_is);(case k2=>k_is)
  (case a3=>k_is);(case l3=>k_is);(case c3=>k_is);(case k3=>k_is)
  (case a4=>k_is);(case l4=>k_is);(case c4=>k_is);(case k4=>k_is)
  (case a5=>k_is);(case l5=>k_is);(case c5=>k_is);(case k5=>k_is)
  (case a6=>k_is);(case l6=>k_is);(case c6=>k_is);(case k6=>k_is)
  (case a7=>k_is);(case l7=>k_is);(case c7=>k_is);(case k7=>k_is)
  (case a8=>k_is);(case l8=>k_is);(case c8=>k_is);(case k8=>k_is)
  (case a9=>k_is);(case l9=>k_is);(case c9=>k_is);(case k9=>k_is)
  (case a10=>k_is);(case l10=>k_is);(case c10=>k_is);(case k10=>k_is)
  (case a11=>k_is);(case l11=>k_is);(case c11=>k_is);(case k11=>k_is)
  (case a12=>k_is);(case l12=>k_is);(case c12=>k_is);(case k12=>k_is)
  (case a13=>k_is);(case l13=>k_is);(case c13=>k_is);(case k13=>k_is)
  (case a14=>k_is);(case l14=>k_is);(case c14=>k_is);(case k14=>k_is)
  (case a15=>k_is);(case l15=>k_is);(case c15=>k_is);(case k15=>k_is)
  (case a16=>k_is);(case l16=>k_is);(case c16=>k_is);(case k16=>k_is)
  (case a17=>k_is);(case l17=>k_is);(case c17=>k_is);(case k17=>k_is)
  (case a18=>k_is);(case l18=>k_is);(case c18=>k_is);(case k18=>k_is)
  (case a19=>k_is);(case l19=>k_is);(case c19=>k_is);(case k19=>k_is)
  (case a20=>k_is);(case l20=>k_is);(case c20=>k_is);(case k20=>k_is)
  (case a21=>k_is);(case l21=>k_is);(case c21=>k_is);(case k21=>k_is)
  (case a22=>k_is);(case l22=>k_is);(case c22=>k_is);(case k22=>k_is)
  (case a23=>k_is);(case l23=>k_is);(case c23=>k_is);(case k23=>k_is)
  (case a24=>k_is);(case l24=>k_is);(case c24=>k_is);(case k24=>k_is)
  (case a25=>k_is);(case l25=>k_is);(case c25=>k_is);(case k25=>k_is)
  (case a26=>k_is);(case l26=>k_is);(case c26=>k_is);(case k26=>k_is)
  (case a27=>k_is);(case l27=>k_is);(case c27=>k_is);(case k27=>k_is)
  (case a28=>k_is);(case l28=>k_is);(case c28=>k_is);(case k28=>k_is)
  (case a29=>k_is);(case l29=>k_is);(case c29=>k_is);(case k29=>k_is)
  (case a30=>k_is);(case l30=>k_is);(case c30=>k_is);(case k30=>k_is)
  (case a31=>k_is);(case l31=>k_is);(case c31=>k_is);(case k31=>k_is)
  (case a32=>k_is);(case l32=>k_is);(case c32=>k_is);(case k32=>k_is)
  (case a33=>k_is);(case l33=>k_is);(case c33=>k_is);(case k33=>k_is)
  (case a34=>k_is);(case l34=>k_is);(case c34=>k_is);(case k34=>k_is)
  (case a35=>k_is);(case l35=>k_is);(case c35=>k_is);(case k35=>k_is)
  (case a36=>k_is);(case l36=>k_is);(case c36=>k_is);(case k36=>k_is)
  (case a37=>k_is);(case l37=>k_is);(case c37=>k_is);(case k37=>k_is)
  (case a38=>k_is);(case l38=>k_is);(case c38=>k_is);(case k38=>k_is)
  (case a39=>k_is);(case l39=>k_is);(case c39=>k_is);(case k39=>k_is)
  (case bag=>k_is);(case blg=>k_is);(case ble=>k_is);(case ze=>k_is)
  (case z0=>k_is)
  (case z1=>k_is)
  (case z2=>k_is)
  (case z3=>k_is)
  (case z4=>k_is)
  (case z5=>k_is)
  (case z6=>k_is)
  (case z7=>k_is)
  (case z8=>k_is)
  (case z9=>k_is)
  (case z10=>k_is)
  (case z11=>k_is)
  (case z12=>k_is)
  (case z13=>k_is)
  (case z14=>k_is)
