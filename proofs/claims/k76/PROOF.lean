import PyProof.Rows.All
import Wide.All
import OpenK.AllK
import Wide.FinOn
import Lean
import PyProof.EqAt
import PyProof.EqKinds
import PyProof.TupleCall
import PyProof.NeKinds
import KE.KEqDict
import KE.KDictSum
import PyProof.Rows.StrMul
import PyProof.Rows.SortStr
import PyProof.Rows.SortWalk
import KE.KSortTup
import PyProof.IsiH_list
import KE.KDictOf
import KE.KItemsList
import PyProof.SetKind
import PyProof.Rows.SetFrom
import PyProof.IsRules
import PyProof.EnumStmt
import PyProof.EnumFor
import PyProof.EnumMake
import PyProof.Rows.StrJoin2
import KE.KDictList
import PyProof.StrLawsJoin
import PyProof.DictCompW
import PyProof.ZipIter
import PySem.Challenge.RW_outlineward_k76_loops_come_to_again
set_option Elab.async false
set_option linter.all false
set_option maxRecDepth 100000
namespace L2
open PySem PySem.Spec PyProof.Rows
abbrev Key := Sum Int Str
def keyIs : Key → Value → Bool
  | .inl k, v => Value.isInt k v
  | .inr x, v => Value.isStrOf x v
def keyH (w : World) : Key → Int
  | .inl k => hashInt k
  | .inr x => hashStr w x
theorem keyIs_shape : ∀ {k : Key} {v : Value}, keyIs k v = true → (∃ i t, k = Sum.inl i ∧ v = Value.int i t) ∨ (∃ x t, k = Sum.inr x ∧ v = Value.str x t)
  | .inl i, v, h => by
    obtain ⟨t, e⟩ := Value.isInt_shape (k := i) (v := v) h
    exact .inl ⟨i, t, rfl, e⟩
  | .inr x, v, h => by
    obtain ⟨t, e⟩ := Value.isStrOf_shape (x := x) (v := v) h
    exact .inr ⟨x, t, rfl, e⟩
theorem keyIs_int (i : Int) (t : Tok) : keyIs (.inl i) (.int i t) = true := by simp [keyIs, Value.isInt]
theorem keyIs_str (x : Str) (t : Tok) : keyIs (.inr x) (.str x t) = true := by simp [keyIs, Value.isStrOf]
theorem key_ll (a b : Int) : decide ((Sum.inl a : Key) = Sum.inl b) = (a == b) := by
  by_cases e : a = b
  · subst e; simp
  · have h : ¬ (Sum.inl a : Key) = Sum.inl b := fun q => e (Sum.inl.inj q)
    rw [decide_eq_false h]
    exact (beq_eq_false_iff_ne.mpr e).symm
theorem key_rr (a b : Str) : decide ((Sum.inr a : Key) = Sum.inr b) = decide (a = b) := by
  by_cases e : a = b
  · subst e; simp
  · have h : ¬ (Sum.inr a : Key) = Sum.inr b := fun q => e (Sum.inr.inj q)
    rw [decide_eq_false h, decide_eq_false e]
theorem key_lr (a : Int) (b : Str) : decide ((Sum.inl a : Key) = Sum.inr b) = false := decide_eq_false (fun q => nomatch q)
theorem key_rl (a : Str) (b : Int) : decide ((Sum.inr a : Key) = Sum.inl b) = false := decide_eq_false (fun q => nomatch q)
def mixKind (prog : Program) (w : World) : PySem.KeyKind prog w Key where
  is := keyIs
  hash := keyH w
  inj := fun v a b ha hb => by
    rcases keyIs_shape ha with ⟨i, t, rfl, rfl⟩ | ⟨x, t, rfl, rfl⟩
    · rcases keyIs_shape hb with ⟨j, u, rfl, e⟩ | ⟨y, u, rfl, e⟩
      · injection e with e1 _; rw [e1]
      · exact nomatch e
    · rcases keyIs_shape hb with ⟨j, u, rfl, e⟩ | ⟨y, u, rfl, e⟩
      · exact nomatch e
      · injection e with e1 _; rw [e1]
  byValue := fun k v h => by
    rcases keyIs_shape h with ⟨i, t, rfl, rfl⟩ | ⟨x, t, rfl, rfl⟩ <;> rfl
  pyHash := fun hv h => by
    rcases keyIs_shape hv with ⟨i, t, rfl, rfl⟩ | ⟨x, t, rfl, rfl⟩
    · exact wpAny_pyHash_int h
    · exact wpAny_pyHash_str h
  eqBool := fun hu hv h => by
    rcases keyIs_shape hu with ⟨i, t, rfl, rfl⟩ | ⟨x, t, rfl, rfl⟩
    · rcases keyIs_shape hv with ⟨j, u, rfl, rfl⟩ | ⟨y, u, rfl, rfl⟩
      · rw [key_ll] at h; exact wpAny_eqBool_int h
      · rw [key_lr] at h; exact SeqAt.EqAt.int_str i t y u _ _ _ _ h
    · rcases keyIs_shape hv with ⟨j, u, rfl, rfl⟩ | ⟨y, u, rfl, rfl⟩
      · rw [key_rl] at h; exact SeqAt.EqAt.str_int x t j u _ _ _ _ h
      · rw [key_rr] at h; exact wpAny_eqBool_str h
  «strs» := fun k x t v h => by
    rcases keyIs_shape h with ⟨i, u, rfl, e⟩ | ⟨y, u, rfl, e⟩
    · exact nomatch e
    · injection e with e1 _
      subst e1
      cases v <;> rfl
theorem mixKind_int (prog : Program) (w : World) (i : Int) (t : Tok) : (mixKind prog w).is (.inl i) (.int i t) = true := keyIs_int i t
theorem mixKind_str (prog : Program) (w : World) (x : Str) (t : Tok) : (mixKind prog w).is (.inr x) (.str x t) = true := keyIs_str x t
end L2
namespace L2
open PySem PySem.Spec PyProof.Rows
inductive V where
  | non | bl (b : Bool) | int (i : Int) | str (x : Str) | byt (b : Array UInt8) | flt (b : UInt64) | ref (a : Addr) | ty (n : String)
  deriving DecidableEq
def RelV : V → Value → Prop
  | .non, u => u = Value.none
  | .bl b, u => u = Value.bool b
  | .int i, u => ∃ t, u = Value.int i t
  | .str x, u => ∃ t, u = Value.str x t
  | .byt b, u => ∃ t, u = Value.bytes b t
  | .flt b, u => ∃ t, u = Value.float b t
  | .ref a, u => u = Value.ref a
  | .ty n, u => u = Value.type n
abbrev Vals : List V → List Value → Prop := Paired RelV
theorem Vals.length {xs : List V} {us : List Value} (r : Vals xs us) : xs.length = us.length := Paired.length r
theorem Vals.get : ∀ {xs : List V} {us : List Value} {i : Nat} {x : V}, Vals xs us → xs[i]? = some x → ∃ u, us[i]? = some u ∧ RelV x u
  | _, _, _, _, .nil, e => by simp at e
  | _, _, 0, _, .cons r _, e => by simp at e; subst e; exact ⟨_, rfl, r⟩
  | _, _, i + 1, x, .cons _ t, e => by
    obtain ⟨u, h1, h2⟩ := Vals.get (i := i) (x := x) t (by simpa using e)
    exact ⟨u, by simpa using h1, h2⟩
theorem Vals.set {x : V} {u : Value} (r : RelV x u) : ∀ {xs : List V} {us : List Value} (i : Nat), Vals xs us → Vals (xs.set i x) (us.set i u)
  | _, _, _, .nil => .nil
  | _, _, 0, .cons _ t => .cons r t
  | _, _, i + 1, .cons q t => .cons q (Vals.set r i t)
theorem Vals.append : ∀ {xs ys : List V} {us ws : List Value}, Vals xs us → Vals ys ws → Vals (xs ++ ys) (us ++ ws)
  | _, _, _, _, .nil, s => s
  | _, _, _, _, .cons r t, s => .cons r (Vals.append t s)
theorem Vals.take : ∀ {xs : List V} {us : List Value} (n : Nat), Vals xs us → Vals (xs.take n) (us.take n)
  | _, _, 0, _ => .nil
  | _, _, _ + 1, .nil => .nil
  | _, _, n + 1, .cons r t => .cons r (Vals.take n t)
theorem Vals.drop : ∀ {xs : List V} {us : List Value} (n : Nat), Vals xs us → Vals (xs.drop n) (us.drop n)
  | _, _, 0, r => r
  | _, _, _ + 1, .nil => .nil
  | _, _, n + 1, .cons _ t => Vals.drop n t
def RelO : Option V → Option Value → Prop
  | some v, some u => RelV v u
  | none, none => True
  | _, _ => False
def KV {κ : Type} : List (κ × V) → List (κ × Value) → Prop := Paired fun (p : κ × V) (q : κ × Value) => p.1 = q.1 ∧ RelV p.2 q.2
def kV : Key → V
  | .inl i => .int i
  | .inr x => .str x
inductive HO where
  | lst (xs : List V)
  | tup (xs : List V)
  | dK (kvs : List (Key × V)) | dT (kvs : List (List Key × V))
  | set (S : Int → Bool) (n : Nat)
  | ins (C dx : Addr) (fs : List (Str × V))
  | own (x : Addr)
  | xd (fs : List (Str × V))
  | met (f x : Addr)
  | rng (lo hi : Int)
  | frz (o : Obj) (u : HO)
  | tbl (ps : Array Value)
  | ext (φ : Heap → Prop)
abbrev Hp := Addr → Option HO
def upd (H : Hp) (a : Addr) (o : HO) : Hp := fun b => if b = a then some o else H b
theorem upd_same {H : Hp} {a : Addr} {o : HO} : upd H a o a = some o := by unfold upd; rw [if_pos rfl]
theorem upd_ne {H : Hp} {a b : Addr} {o : HO} (h : b ≠ a) : upd H a o b = H b := by unfold upd; rw [if_neg h]
theorem ne_of {H : Hp} {a b : Addr} {o u : HO} (h : H a = some o) (h' : H b = some u) (d : o ≠ u) : a ≠ b := by
  intro e; subst e; rw [h] at h'; exact d (Option.some.inj h')
theorem ne_of_none {H : Hp} {a b : Addr} {o : HO} (h : H a = some o) (h' : H b = none) : a ≠ b := by
  intro e; subst e; rw [h] at h'; cases h'
section
variable (P : Program) (w : World)
def ObjOk (H : Hp) (h : Heap) (a : Addr) : HO → Prop
  | .lst xs => xs.length ≤ sizeLine ∧ ∃ (its : List Value) (n : Nat), Vals xs its ∧ h.get? a = some { cls := .type "list", data := .seq its.toArray n }
  | .tup xs => xs.length ≤ sizeLine ∧ ∃ its : List Value, Vals xs its ∧ IsTup h a its.toArray
  | .dK kvs => kvs.length ≤ sizeLine ∧ (a == sysModules) = false ∧ ∃ vs, KV kvs vs ∧ h.DictOf (mixKind P w) a vs
  | .dT kvs => kvs.length ≤ sizeLine ∧ (a == sysModules) = false ∧ ∃ xs : List (List Key × Addr × Value),
      Paired (fun (p : List Key × V) (q : List Key × Addr × Value) => p.1 = q.1 ∧ H q.2.1 = some (.tup (p.1.map kV)) ∧ RelV p.2 q.2.2) kvs xs ∧
      ∃ o es ep, h.get? a = some o ∧ o.ExactDict ∧ o.data = .dict es ep ∧ es.toList = xs.map (entryOfKey (tupleKind (mixKind P w))) ∧ (xs.map (·.1)).Nodup
  | .set S n => h.SetOf (intKind P w) a S n
  | .ins C dx fs => H dx = some (.own a) ∧ fs.length ≤ 1000 ∧ dx ≠ a ∧ h.get? a = some (PySem.W.instObj C dx) ∧
      ∃ mA, h.Ns1 dx mA ∧ (∀ f, RelO (fs.lookup f) (mA f)) ∧ PySem.Within mA (fs.map (·.1))
  | .own _ => ∃ o, h.get? a = some o
  | .xd fs => ∃ mA, h.Ns1 a mA ∧ ∀ f, RelO (fs.lookup f) (mA f)
  | .rng lo hi => ∃ t u v, h.get? a = some { cls := .type "range", data := .fields #[.int lo t, .int hi u, .int 1 v] }
  | .frz o u => h.get? a = some o ∧ ObjOk H h a u
  | .tbl ps => h.get? a = some { cls := .none, data := .fields ps }
  | .met f x => h.get? a = some (PySem.W.methodObj (.ref f) (.ref x))
  | .ext φ => φ h ∧ (∃ o, h.get? a = some o) ∧ ∀ h1 h2 : Heap, φ h1 → (∀ o, h1.get? a = some o → h2.get? a = some o) → φ h2
def HOk (H : Hp) (h : Heap) : Prop := ∀ a o, H a = some o → ObjOk P w H h a o
end
section
variable {P : Program} {w : World} {H H' : Hp} {h h' : Heap} {a : Addr} {o : HO}
theorem ObjOk.lt (x : ObjOk P w H h a o) : a < h.objs.size := by
  cases o with
  | lst xs => obtain ⟨_, _, _, _, e⟩ := x; exact Heap.lt_size e
  | tup xs => obtain ⟨_, _, _, p⟩ := x; exact p.lt
  | dK kvs => obtain ⟨_, _, _, _, o, _, _, e, _⟩ := x; exact Heap.lt_size e
  | dT kvs => obtain ⟨_, _, _, _, o, _, _, e, _⟩ := x; exact Heap.lt_size e
  | set S n => obtain ⟨o, _, _, _, e, _⟩ := x; exact Heap.lt_size e
  | ins C dx fs => obtain ⟨_, _, _, e, _⟩ := x; exact Heap.lt_size e
  | own y => obtain ⟨_, e⟩ := x; exact Heap.lt_size e
  | xd fs => obtain ⟨_, ⟨_, _, _, e, _⟩, _⟩ := x; exact Heap.lt_size e
  | rng lo hi => obtain ⟨_, _, _, e⟩ := x; exact Heap.lt_size e
  | frz ob u => obtain ⟨e, _⟩ := x; exact Heap.lt_size e
  | tbl ps => exact Heap.lt_size (show h.get? a = some _ from x)
  | met f y => exact Heap.lt_size (show h.get? a = some _ from x)
  | ext φ => obtain ⟨_, ⟨_, e⟩, _⟩ := x; exact Heap.lt_size e
theorem Paired.mapP {α β : Type} {F G : α → β → Prop} : ∀ {l₁ : List α} {l₂ : List β}, Paired F l₁ l₂ → (∀ a b, F a b → G a b) → Paired G l₁ l₂
  | _, _, .nil, _ => .nil
  | _, _, .cons r t, f => .cons (f _ _ r) (Paired.mapP t f)
theorem ObjOk.stay (x : ObjOk P w H h a o) (k : ∀ b u, (b = a ∨ H b = some (.own a)) → h.get? b = some u → h'.get? b = some u)
    (ho : ∀ b, H b = some (.own a) → H' b = some (.own a)) (ht : ∀ b xs, H b = some (.tup xs) → H' b = some (.tup xs)) : ObjOk P w H' h' a o := by
  induction o with
  | lst xs => obtain ⟨z, its, n, r, e⟩ := x; exact ⟨z, its, n, r, k _ _ (.inl rfl) e⟩
  | tup xs => obtain ⟨z, its, r, ob, e, c⟩ := x; exact ⟨z, its, r, ob, k _ _ (.inl rfl) e, c⟩
  | dK kvs => obtain ⟨z, y, vs, r, ob, es, ep, e, c⟩ := x; exact ⟨z, y, vs, r, ob, es, ep, k _ _ (.inl rfl) e, c⟩
  | dT kvs =>
    obtain ⟨z, y, xs, r, ob, es, ep, e, c⟩ := x
    exact ⟨z, y, xs, Paired.mapP r fun p q z => ⟨z.1, ht _ _ z.2.1, z.2.2⟩, ob, es, ep, k _ _ (.inl rfl) e, c⟩
  | set S n => obtain ⟨ob, es, ep, t, e, c⟩ := x; exact ⟨ob, es, ep, t, k _ _ (.inl rfl) e, c⟩
  | ins C dx fs =>
    obtain ⟨d, z, ne, e, mA, ⟨od, es, ep, e2, c⟩, r⟩ := x
    exact ⟨ho _ d, z, ne, k _ _ (.inl rfl) e, mA, ⟨od, es, ep, k _ _ (.inr d) e2, c⟩, r⟩
  | own y => obtain ⟨ob, e⟩ := x; exact ⟨ob, k _ _ (.inl rfl) e⟩
  | xd fs => obtain ⟨mA, ⟨od, es, ep, e, c⟩, r⟩ := x; exact ⟨mA, ⟨od, es, ep, k _ _ (.inl rfl) e, c⟩, r⟩
  | rng lo hi => obtain ⟨t, u, v, e⟩ := x; exact ⟨t, u, v, k _ _ (.inl rfl) e⟩
  | frz ob u ih => obtain ⟨e, q⟩ := x; exact ⟨k _ _ (.inl rfl) e, ih q⟩
  | tbl ps =>
    have e : h.get? a = some { cls := .none, data := .fields ps } := x
    show h'.get? a = some { cls := .none, data := .fields ps }
    exact k a _ (.inl rfl) e
  | met f y =>
    have e : h.get? a = some (PySem.W.methodObj (.ref f) (.ref y)) := x
    show h'.get? a = some (PySem.W.methodObj (.ref f) (.ref y))
    exact k a _ (.inl rfl) e
  | ext φ => obtain ⟨p, ⟨o, e⟩, st⟩ := x; exact ⟨st _ _ p fun o q => k _ _ (.inl rfl) q, ⟨o, k _ _ (.inl rfl) e⟩, st⟩
theorem HOk.lt (x : HOk P w H h) (e : H a = some o) : a < h.objs.size := (x a o e).lt
theorem HOk.fresh (x : HOk P w H h) (e : h.objs.size ≤ a) : H a = none := by
  cases q : H a with
  | none => rfl
  | some u => exact absurd (Nat.lt_of_lt_of_le (x.lt q) e) (Nat.lt_irrefl _)
theorem HOk.kept (x : HOk P w H h) (k : ∀ b u, h.get? b = some u → h'.get? b = some u) : HOk P w H h' := fun a o e =>
  (x a o e).stay (fun b u _ q => k b u q) (fun _ q => q) fun _ _ q => q
theorem HOk.laid (x : HOk P w H h) (k : ∀ b u, h.get? b = some u → h'.get? b = some u) (hp : h.objs.size ≤ a) (new : ObjOk P w (upd H a o) h' a o) : HOk P w (upd H a o) h' := fun b u e => by
  have hn := x.fresh hp
  by_cases hb : b = a
  · subst hb; rw [upd_same] at e; cases e; exact new
  · rw [upd_ne hb] at e
    exact (x b u e).stay (fun c v _ q => k c v q) (fun c q => by rw [upd_ne (ne_of_none q hn)]; exact q) fun c xs q => by rw [upd_ne (ne_of_none q hn)]; exact q
end
def Rd (H : Hp) (a : Addr) (u : HO) : Prop := H a = some u ∨ ∃ o, H a = some (.frz o u)
theorem Rd.ok {P : Program} {w : World} {H : Hp} {h : Heap} {a : Addr} {u : HO} (r : Rd H a u) (x : HOk P w H h) : ObjOk P w H h a u := by
  rcases r with r | ⟨o, r⟩
  · exact x a u r
  · obtain ⟨_, q⟩ := x a _ r
    exact q
def Mut : Option HO → Prop
  | some (.lst _) => True
  | some (.dK _) => True
  | some (.dT _) => True
  | some (.set _ _) => True
  | some (.ins _ _ _) => True
  | some (.ext _) => True
  | _ => False
section
variable {P : Program} {w : World} {H : Hp} {h h' : Heap} {x e : Addr} {o' : HO}
theorem HOk.write (ok : HOk P w H h) (mu : Mut (H x)) (he : e = x ∨ H e = some (.own x)) (k : ∀ b u, b ≠ e → h.get? b = some u → h'.get? b = some u) (heo : ∃ u, h'.get? e = some u)
    (new : ObjOk P w (upd H x o') h' x o') : HOk P w (upd H x o') h' := fun b u q => by
  have nown : ∀ c y, H c = some (.own y) → c ≠ x := fun c y r z => by subst z; rw [r] at mu; exact mu
  have ntup : ∀ c xs, H c = some (.tup xs) → c ≠ x := fun c xs r z => by subst z; rw [r] at mu; exact mu
  by_cases hb : b = x
  · subst hb; rw [upd_same] at q; cases q; exact new
  · rw [upd_ne hb] at q
    by_cases hbe : b = e
    · have q' : H b = some (.own x) := by
        rcases he with z | z
        · exact absurd (hbe.trans z) hb
        · rw [hbe]; exact z
      rw [q] at q'; cases q'
      obtain ⟨v, hv⟩ := heo
      exact ⟨v, by rw [hbe]; exact hv⟩
    · refine (ok b u q).stay (fun c v hc r => k c v ?_ r) (fun c r => by rw [upd_ne (nown c b r)]; exact r) fun c xs r => by rw [upd_ne (ntup c xs r)]; exact r
      rcases hc with rfl | hc
      · exact hbe
      · rintro rfl
        rcases he with z | z
        · exact nown c b hc z
        · rw [hc] at z; cases z; exact hb rfl
end
structure Un (fs ex : List Addr) (H H' : Hp) (h h' : Heap) : Prop where
  keep : ∀ b o, h.get? b = some o → H b = none → b ∉ fs → b ∉ ex → h'.get? b = some o
  slot : ∀ b o, h.get? b = some o → H b = none → b ∈ fs → b ∉ ex → ∃ sl, h'.get? b = some { o with slots := sl }
  free : ∀ b o, h.get? b = some o → H b = none → b ∉ ex → H' b = none
  there : ∀ b o, h.get? b = some o → b ∉ ex → ∃ o', h'.get? b = some o'
  tups : ∀ b xs, H b = some (.tup xs) → H' b = some (.tup xs)
  frzs : ∀ b o u, H b = some (.frz o u) → H' b = some (.frz o u)
  tbls : ∀ b ps, H b = some (.tbl ps) → ∃ more, H' b = some (.tbl (ps ++ more))
section
variable {fs fs' ex ex' : List Addr} {H H1 H2 : Hp} {h h1 h2 h' : Heap} {a x e : Addr} {o : HO}
theorem Un.any (u : Un fs ex H H1 h h1) {b : Addr} {ob : Obj} (q : h.get? b = some ob) (n : H b = none) (hx : b ∉ ex) : ∃ sl, h1.get? b = some { ob with slots := sl } := by
  by_cases hb : b ∈ fs
  · exact u.slot b ob q n hb hx
  · exact ⟨ob.slots, u.keep b ob q n hb hx⟩
theorem Un.kept (k : ∀ b u, h.get? b = some u → h'.get? b = some u) : Un fs ex H H h h' :=
  ⟨fun b ob q _ _ _ => k b ob q, fun b ob q _ _ _ => ⟨ob.slots, k b ob q⟩, fun _ _ _ n _ => n, fun b ob q _ => ⟨ob, k b ob q⟩, fun _ _ q => q, fun _ _ _ q => q, fun _ ps q => ⟨#[], by rw [q]; simp⟩⟩
theorem Un.refl : Un fs ex H H h h := Un.kept fun _ _ q => q
theorem Un.laid (k : ∀ b u, h.get? b = some u → h'.get? b = some u) (hp : h.objs.size ≤ a) (hn : H a = none) : Un fs ex H (upd H a o) h h' where
  keep := fun b u q _ _ _ => k b u q
  slot := fun b u q _ _ _ => ⟨u.slots, k b u q⟩
  free := fun b u q n _ => by rw [upd_ne (Nat.ne_of_lt (Nat.lt_of_lt_of_le (Heap.lt_size q) hp))]; exact n
  there := fun b u q _ => ⟨u, k b u q⟩
  tups := fun b xs q => by rw [upd_ne (ne_of_none q hn)]; exact q
  frzs := fun b u xs q => by rw [upd_ne (ne_of_none q hn)]; exact q
  tbls := fun b ps q => ⟨#[], by rw [upd_ne (ne_of_none q hn), q]; simp⟩
theorem Un.write (mu : Mut (H x)) (he : e = x ∨ H e = some (.own x)) (k : ∀ b u, b ≠ e → h.get? b = some u → h'.get? b = some u) (heo : ∃ u, h'.get? e = some u) : Un fs ex H (upd H x o) h h' := by
  have hx : ∀ b, H b = none → b ≠ x := fun b n z => by subst z; rw [n] at mu; exact mu
  have hb : ∀ b, H b = none → b ≠ e := fun b n z => by
    subst z
    rcases he with r | r
    · exact hx b n r
    · rw [n] at r; cases r
  have hm : ∀ b u, H b = some u → ¬ Mut (some u) → b ≠ x := fun b u q nm z => by subst z; rw [q] at mu; exact nm mu
  refine ⟨fun b u q n _ _ => k b u (hb b n) q, fun b u q n _ _ => ⟨u.slots, k b u (hb b n) q⟩, fun b u q n _ => by rw [upd_ne (hx b n)]; exact n, fun b u q _ => ?_,
    fun b xs q => by rw [upd_ne (hm b _ q fun z => z)]; exact q, fun b u xs q => by rw [upd_ne (hm b _ q fun z => z)]; exact q, fun b ps q => ⟨#[], by rw [upd_ne (hm b _ q fun z => z), q]; simp⟩⟩
  by_cases hbe : b = e
  · subst hbe; exact heo
  · exact ⟨u, k b u hbe q⟩
end
def trk (h : Heap) (H : Hp) : List Addr := (List.range h.objs.size).filter fun a => (H a).isSome
def hidT (h : Heap) (H : Hp) : Heap := PySem.W.hideAll h (trk h H)
theorem hidT_size (h : Heap) (H : Hp) : (hidT h H).objs.size = h.objs.size := PySem.W.hideAll_size _ _
theorem hidT_get {h : Heap} {H : Hp} {b : Addr} {o : Obj} (e : h.get? b = some o) (n : H b = none) : (hidT h H).get? b = some o :=
  PySem.W.hideAll_get _ e fun hm => by
    have q : (H b).isSome = true := (List.mem_filter.mp hm).2
    rw [n] at q; simp at q
theorem of_hidT {h : Heap} {H : Hp} {b : Addr} {o : Obj} (e : (hidT h H).get? b = some o) : h.get? b = some o ∧ H b = none := by
  have e' : h.get? b = some o := PySem.W.of_hideAll (trk h H) e
  refine ⟨e', ?_⟩
  cases q : H b with
  | none => rfl
  | some x =>
    have hm : b ∈ trk h H := List.mem_filter.mpr ⟨List.mem_range.mpr (Heap.lt_size e'), by simp [q]⟩
    have z : (hidT h H).get? b = none := PySem.W.hideAll_none (trk h H) hm
    rw [z] at e; cases e
def allNews (g h : Heap) (L : Addr) : List (Addr × Obj) := (List.range h.objs.size).filterMap fun a => if a = L ∨ (g.get? a).isSome = true then none else (h.get? a).map fun o => (a, o)
def rest (g h : Heap) (L d : Addr) : List (Addr × Obj) := (allNews g h L).filter fun p => decide (p.1 ≠ d)
end L2
namespace L2
open PySem PySem.Spec PyProof.Rows
structure Mod (K : PySem.W.Frag) (mg : Str → Option Value) (base : Heap) : Prop where
  kin : K.In base
  glob : base.Ns mainGlobals mg
  blt : ∃ mb, base.Ns builtinsNs mb ∧ ∀ x : Str, x ≠ "__name__" → mb x = bootBuiltins x
  nolimit : base.NoLimit
structure Cx where
  prog : Program
  w : World
  K : PySem.W.Frag
  mg : Str → Option Value
  base : Heap
  A : Around
  N : List Str
  s₀ : Shared
  H₀ : Hp
  env : Env
  outer : List Env
  stack : List Env
  ex : List Addr
  fn : Str → Bool
  calm : Bool
  pn : List (Addr × Obj)
  xe : Value → Shared → Prop
def frs (l : List Env) : List Addr := l.filterMap (·.frame)
abbrev Cx.fs (X : Cx) : List Addr := frs X.outer
def Vis (sc : Scope) (x : Str) : Prop := sc.names.lookup x = some .local ∨ sc.names.lookup x = some .cell ∨ sc.names.lookup x = some .free
def Loc (sc : Scope) (x : Str) : Prop := sc.names.lookup x = some .local ∨ sc.names.lookup x = some .cell
def Look (env : Env) (h : Heap) (m : Str → Option Value) (x : Str) (u : Value) : Prop :=
  (env.kindOf x = some .local ∧ m x = some u) ∨ ((env.kindOf x = some .cell ∨ env.kindOf x = some .free) ∧ ∃ c, env.cells.lookup x = some c ∧ h.IsCell c (some u))
structure Cx.Ok (X : Cx) : Prop where
  mod : Mod X.K X.mg X.base
  kind : X.env.scope.kind = .function
  glob : X.env.globals = mainGlobals
  blt : X.env.builtins = builtinsNs
  above : X.s₀.heap.objs.size ≤ X.env.locals
  inj : ∀ x y c, X.env.cells.lookup x = some c → X.env.cells.lookup y = some c → x = y
  has : ∀ x, (X.env.kindOf x = some .cell ∨ X.env.kindOf x = some .free) → ∃ c, X.env.cells.lookup x = some c
  cab : ∀ x c, X.fn x = true → X.env.cells.lookup x = some c → X.s₀.heap.objs.size ≤ c
  hd : X.calm = true → X.A.handled = none
  frames : X.A.frames = some X.stack
  stk : X.stack = X.outer ∨ (X.stack = X.env :: X.outer ∧ X.env.frame = some X.env.locals)
  exf : ∀ b ∈ X.ex, b ≠ X.env.locals ∧ ∀ x c, X.env.cells.lookup x = some c → c ≠ b
  bs : ∀ b o, X.base.get? b = some o → X.s₀.heap.get? b = some o ∧ X.H₀ b = none
  bsz : X.base.objs.size ≤ X.s₀.heap.objs.size
  noex : ∀ b o, X.base.get? b = some o → b ∉ X.ex
  exfs : ∀ b ∈ X.ex, b ∉ X.fs
  funs : X.s₀.heap.FunFrames X.base X.outer
  frf : ∀ b ∈ X.fs, X.H₀ b = none
structure Inv (X : Cx) (pins : List (Addr × Obj)) (σ : List (Option V)) (H : Hp) (s : Shared) : Prop where
  ok : X.Ok
  os : s.os = X.s₀.os
  bare : AllBare s.gens
  base : Un X.fs X.ex X.H₀ H X.s₀.heap s.heap
  loc : ∃ m, s.heap.Ns X.env.locals m ∧ ∀ (i : Nat) (x : Str) (v : V), X.N[i]? = some x → σ[i]? = some (some v) → Vis X.env.scope x → ∃ u, RelV v u ∧ Look X.env s.heap m x u
  cell : ∀ x c, X.env.cells.lookup x = some c → ∃ v, s.heap.IsCell c v
  free : H X.env.locals = none
  freeC : ∀ x c, X.env.cells.lookup x = some c → H c = none
  pin : ∀ p ∈ X.pn ++ pins, s.heap.get? p.1 = some p.2 ∧ H p.1 = none ∧ p.1 ≠ X.env.locals ∧ p.1 ∉ X.fs ∧ ∀ v, p.2.data ≠ .cell v
  hok : HOk X.prog X.w H s.heap
  len : σ.length = X.N.length
section
variable {X : Cx} {pins : List (Addr × Obj)} {σ : List (Option V)} {H H' : Hp} {s : Shared} {h' : Heap}
theorem Cx.Ok.nofr (ok : X.Ok) {b : Addr} {o : Obj} (e : X.base.get? b = some o) : b ∉ X.fs := fun hb => by
  have := (ok.funs.mem hb).1
  rw [e] at this; cases this
theorem Inv.bs (I : Inv X pins σ H s) : ∀ b o, X.base.get? b = some o → s.heap.get? b = some o ∧ H b = none := fun b o e =>
  ⟨I.base.keep b o (I.ok.bs b o e).1 (I.ok.bs b o e).2 (I.ok.nofr e) (I.ok.noex b o e), I.base.free b o (I.ok.bs b o e).1 (I.ok.bs b o e).2 (I.ok.noex b o e)⟩
theorem Inv.bk (I : Inv X pins σ H s) : ∀ b o, X.base.get? b = some o → s.heap.get? b = some o := fun b o e => (I.bs b o e).1
theorem Inv.mod (I : Inv X pins σ H s) : Mod X.K X.mg X.base := I.ok.mod
theorem Inv.kIn (I : Inv X pins σ H s) : X.K.In s.heap := I.ok.mod.kin.keeps I.bk
theorem Inv.nolimit (I : Inv X pins σ H s) : s.heap.NoLimit := I.ok.mod.nolimit.keeps I.bk
theorem Inv.fr (I : Inv X pins σ H s) : ∃ m, Fr X.base X.env.locals s.heap m :=
  let ⟨m, hn, _⟩ := I.loc
  ⟨m, hn, I.bk, Nat.le_trans I.ok.bsz I.ok.above⟩
theorem Inv.lt (I : Inv X pins σ H s) : X.env.locals < s.heap.objs.size := let ⟨_, hn, _⟩ := I.loc; hn.lt
theorem Inv.sz (I : Inv X pins σ H s) : X.s₀.heap.objs.size ≤ s.heap.objs.size := Nat.le_trans I.ok.above (Nat.le_of_lt I.lt)
theorem Inv.nofs (I : Inv X pins σ H s) {a : Addr} (h : s.heap.objs.size ≤ a) : a ∉ X.fs := fun hb => by
  obtain ⟨_, o, ho, _⟩ := I.ok.funs.mem hb
  exact absurd (Nat.lt_of_lt_of_le (Heap.lt_size ho) (Nat.le_trans I.sz h)) (Nat.lt_irrefl _)
theorem Inv.cne (I : Inv X pins σ H s) : ∀ x c, X.env.cells.lookup x = some c → c ≠ X.env.locals := fun x c e z => by
  obtain ⟨v, o, ho, hd⟩ := I.cell x c e
  obtain ⟨m, ⟨o', es, ep, ho', hd', _⟩, _⟩ := I.loc
  rw [z, ho'] at ho; cases ho; rw [hd'] at hd; cases hd
theorem Inv.funs (I : Inv X pins σ H s) : s.heap.FunFrames X.base X.outer := by
  have all : ∀ (l : List Env), (∀ b ∈ frs l, b ∈ X.fs) → X.s₀.heap.FunFrames X.base l → s.heap.FunFrames X.base l := by
    intro l
    induction l with
    | nil => intro _ _; trivial
    | cons env r ih =>
      intro hs hl
      obtain ⟨hk, ⟨L, o, hf, hn, ho, hd⟩, hr⟩ := hl
      have hL : L ∈ X.fs := hs L (by unfold frs; rw [List.filterMap_cons, hf]; exact List.mem_cons_self)
      obtain ⟨sl, e⟩ := I.base.slot L o ho (I.ok.frf L hL) hL fun z => I.ok.exfs L z hL
      exact ⟨hk, ⟨L, _, hf, hn, e, hd⟩, ih (fun b hb => hs b (by unfold frs; rw [List.filterMap_cons, hf]; exact List.mem_cons_of_mem _ hb)) hr⟩
  exact all X.outer (fun _ hb => hb) I.ok.funs
theorem Inv.stack (I : Inv X pins σ H s) : s.heap.FunFrames X.base X.stack := by
  rcases I.ok.stk with e | ⟨e, hf⟩
  · rw [e]; exact I.funs
  · rw [e]
    obtain ⟨m, hn, _⟩ := I.loc
    refine .cons (by rw [I.ok.kind]; decide) hf hn ?_ I.funs
    exact Heap.get?_none_of_le (Nat.le_trans I.ok.bsz I.ok.above)
theorem Inv.stkSub (I : Inv X pins σ H s) : ∀ b ∈ frs X.stack, b ∈ X.env.locals :: X.fs := fun b hb => by
  rcases I.ok.stk with e | ⟨e, hf⟩
  · rw [e] at hb; exact List.mem_cons_of_mem _ hb
  · rw [e] at hb
    unfold frs at hb
    rw [List.filterMap_cons, hf] at hb
    exact hb
theorem Inv.stkFree (I : Inv X pins σ H s) : ∀ b ∈ frs X.stack, H b = none := fun b hb => by
  rcases List.mem_cons.mp (I.stkSub b hb) with e | hb
  · rw [e]; exact I.free
  · obtain ⟨_, o, ho, _⟩ := I.ok.funs.mem hb
    exact I.base.free b o ho (I.ok.frf b hb) fun z => I.ok.exfs b z hb
theorem Inv.step {g' : Array GenState} {t' : Nat} {d' : Drawn} {ch : List Addr} (I : Inv X pins σ H s)
    (hch : ∀ b ∈ ch, (b ∈ X.ex ∨ X.s₀.heap.objs.size ≤ b) ∧ b ≠ X.env.locals ∧ (∀ x c, X.env.cells.lookup x = some c → c ≠ b) ∧ ∀ p ∈ X.pn ++ pins, p.1 ≠ b)
    (keep : ∀ b o, b ≠ X.env.locals → b ∉ X.fs → b ∉ ch → s.heap.get? b = some o → H b = none → h'.get? b = some o)
    (slot : ∀ b o, b ≠ X.env.locals → b ∈ X.fs → b ∉ ch → s.heap.get? b = some o → H b = none → ∃ sl, h'.get? b = some { o with slots := sl }) (free : ∀ b o, b ∉ ch → s.heap.get? b = some o → H b = none → H' b = none)
    (there : ∀ b o, b ∉ ch → s.heap.get? b = some o → ∃ o', h'.get? b = some o')
    (tups : ∀ b xs, H b = some (.tup xs) → H' b = some (.tup xs)) (frzs : ∀ b o u, H b = some (.frz o u) → H' b = some (.frz o u)) (tbls : ∀ b ps, H b = some (.tbl ps) → ∃ more, H' b = some (.tbl (ps ++ more)))
    (ns : ∀ m, s.heap.Ns X.env.locals m → h'.Ns X.env.locals m) (hok : HOk X.prog X.w H' h') (hg : AllBare g') :
    Inv X pins σ H' { s with heap := h', gens := g', drawn := d', toks := t' } := by
  have neL : ∀ b o, X.s₀.heap.get? b = some o → b ≠ X.env.locals := fun b o e => Nat.ne_of_lt (Nat.lt_of_lt_of_le (Heap.lt_size e) I.ok.above)
  have neC : ∀ b o, X.s₀.heap.get? b = some o → b ∉ X.ex → b ∉ ch := fun b o e hx hb => by
    rcases (hch b hb).1 with z | z
    · exact hx z
    · exact absurd (Nat.lt_of_lt_of_le (Heap.lt_size e) z) (Nat.lt_irrefl _)
  have cellK : ∀ x c, X.env.cells.lookup x = some c → ∀ v, s.heap.IsCell c v → h'.IsCell c v := fun x c e v ⟨o, ho, hd⟩ => by
    have nch : c ∉ ch := fun z => (hch c z).2.2.1 x c e rfl
    by_cases hc : c ∈ X.fs
    · obtain ⟨sl, q⟩ := slot c o (I.cne x c e) hc nch ho (I.freeC x c e)
      exact ⟨_, q, hd⟩
    · exact ⟨o, keep c o (I.cne x c e) hc nch ho (I.freeC x c e), hd⟩
  refine ⟨I.ok, I.os, hg, ⟨fun b o e n hb hx => ?_, fun b o e n hb hx => ?_, fun b o e n hx => ?_, fun b o e hx => ?_, fun b xs e => tups b xs (I.base.tups b xs e), fun b o xs e => frzs b o xs (I.base.frzs b o xs e), fun b ps e => ?_⟩, ?_, fun x c e => ?_, ?_, fun x c e => ?_, fun p hp => ?_, hok, I.len⟩
  · exact keep b o (neL b o e) hb (neC b o e hx) (I.base.keep b o e n hb hx) (I.base.free b o e n hx)
  · obtain ⟨sl, e1⟩ := I.base.slot b o e n hb hx
    obtain ⟨sl', e2⟩ := slot b _ (neL b o e) hb (neC b o e hx) e1 (I.base.free b o e n hx)
    exact ⟨sl', e2⟩
  · obtain ⟨o', e1⟩ := I.base.there b o e hx
    exact free b o' (neC b o e hx) e1 (I.base.free b o e n hx)
  · obtain ⟨o', e1⟩ := I.base.there b o e hx
    exact there b o' (neC b o e hx) e1
  · obtain ⟨m1, e1⟩ := I.base.tbls b ps e
    obtain ⟨m2, e2⟩ := tbls b _ e1
    exact ⟨m1 ++ m2, by rw [e2, Array.append_assoc]⟩
  · obtain ⟨m, hn, hl⟩ := I.loc
    refine ⟨m, ns m hn, fun i x v e1 e2 e3 => ?_⟩
    obtain ⟨u, r, l⟩ := hl i x v e1 e2 e3
    refine ⟨u, r, ?_⟩
    rcases l with l | ⟨k, c, e, z⟩
    · exact .inl l
    · exact .inr ⟨k, c, e, cellK x c e _ z⟩
  · obtain ⟨v, z⟩ := I.cell x c e
    exact ⟨v, cellK x c e v z⟩
  · obtain ⟨m, ⟨o, _, _, ho, _⟩, _⟩ := I.loc
    exact free _ o (fun z => (hch _ z).2.1 rfl) ho I.free
  · obtain ⟨v, o, ho, hd⟩ := I.cell x c e
    exact free c o (fun z => (hch c z).2.2.1 x c e rfl) ho (I.freeC x c e)
  · obtain ⟨e, n, ne, nf, d⟩ := I.pin p hp
    have nch : p.1 ∉ ch := fun z => (hch p.1 z).2.2.2 p hp rfl
    exact ⟨keep p.1 p.2 ne nf nch e n, free p.1 p.2 nch e n, ne, nf, d⟩
theorem Inv.un {t' : Nat} (I : Inv X pins σ H s) (u : Un X.fs [] H H' s.heap h') (hok : HOk X.prog X.w H' h') : Inv X pins σ H' { s with heap := h', toks := t' } := by
  obtain ⟨m, ⟨o, es, ep, ho, r⟩, _⟩ := id I.loc
  obtain ⟨sl, hL⟩ := u.any ho I.free (by simp)
  exact I.step (g' := s.gens) (d' := s.drawn) (ch := []) (fun _ z => nomatch z) (fun b o _ hb _ e n => u.keep b o e n hb (by simp)) (fun b o _ hb _ e n => u.slot b o e n hb (by simp)) (fun b o _ e n => u.free b o e n (by simp)) (fun b o _ e => u.there b o e (by simp)) u.tups u.frzs u.tbls (fun m' hm => by
    obtain ⟨o', es', ep', ho', r'⟩ := hm
    rw [ho] at ho'; cases ho'
    exact ⟨_, es', ep', hL, r'⟩) hok I.bare
theorem Inv.call {g' : Array GenState} {t' : Nat} {d' : Drawn} {ch : List Addr} (I : Inv X pins σ H s) (u : Un (frs X.stack) ch H H' s.heap h') (hok : HOk X.prog X.w H' h') (hg : AllBare g')
    (hch : ∀ b ∈ ch, (b ∈ X.ex ∨ X.s₀.heap.objs.size ≤ b) ∧ b ≠ X.env.locals ∧ (∀ x c, X.env.cells.lookup x = some c → c ≠ b) ∧ ∀ p ∈ X.pn ++ pins, p.1 ≠ b) :
    Inv X pins σ H' { s with heap := h', gens := g', drawn := d', toks := t' } := by
  obtain ⟨m, ⟨o, es, ep, ho, r⟩, _⟩ := id I.loc
  obtain ⟨sl, hL⟩ := u.any ho I.free fun z => (hch _ z).2.1 rfl
  exact I.step (ch := ch) hch (fun b o hL hb hc e n => u.keep b o e n (fun z => (List.mem_cons.mp (I.stkSub b z)).elim hL hb) hc) (fun b o _ _ hc e n => u.any e n hc) (fun b o hc e n => u.free b o e n hc) (fun b o hc e => u.there b o e hc) u.tups u.frzs u.tbls (fun m' hm => by
    obtain ⟨o', es', ep', ho', r'⟩ := hm
    rw [ho] at ho'; cases ho'
    exact ⟨_, es', ep', hL, r'⟩) hok hg
theorem Inv.turned {t' : Nat} {it : Addr} (I : Inv X pins σ H s) (k : ∀ b o, b ≠ it → s.heap.get? b = some o → h'.get? b = some o) (hn : H it = none) (hL : it ≠ X.env.locals)
    (h1 : it ∈ X.ex ∨ X.s₀.heap.objs.size ≤ it) (h2 : ∀ x c, X.env.cells.lookup x = some c → c ≠ it) (h3 : ∀ p ∈ X.pn ++ pins, p.1 ≠ it) : Inv X pins σ H { s with heap := h', toks := t' } := by
  have nit : ∀ b u, H b = some u → b ≠ it := fun b u e z => by rw [z, hn] at e; cases e
  refine I.step (g' := s.gens) (d' := s.drawn) (ch := [it]) (fun b hb => ?_) (fun b o _ _ hc e _ => k b o (fun z => hc (by simp [z])) e) (fun b o _ _ hc e _ => ⟨o.slots, k b o (fun z => hc (by simp [z])) e⟩) (fun _ _ _ _ n => n)
    (fun b o hc e => ⟨o, k b o (fun z => hc (by simp [z])) e⟩) (fun _ _ e => e) (fun _ _ _ e => e) (fun b ps e => ⟨#[], by rw [e]; simp⟩) (fun m hm => ?_) (fun b u e => ?_) I.bare
  · have e : b = it := by simpa using hb
    subst e
    exact ⟨h1, hL, h2, h3⟩
  · obtain ⟨o, es, ep, ho, r⟩ := hm
    exact ⟨o, es, ep, k _ o (Ne.symm hL) ho, r⟩
  · refine (I.hok b u e).stay (fun c v hc q => k c v ?_ q) (fun _ q => q) fun _ _ q => q
    rcases hc with z | z
    · rw [z]; exact nit b u e
    · exact nit c _ z
theorem Inv.tok (I : Inv X pins σ H s) (t : Nat) : Inv X pins σ H { s with toks := t } := I.un (h' := s.heap) (t' := t) Un.refl I.hok
theorem Inv.kept {t' : Nat} (I : Inv X pins σ H s) (k : ∀ b u, s.heap.get? b = some u → h'.get? b = some u) : Inv X pins σ H { s with heap := h', toks := t' } := I.un (Un.kept k) (I.hok.kept k)
theorem Inv.laid {a : Addr} {o : HO} {t' : Nat} (I : Inv X pins σ H s) (k : ∀ b u, s.heap.get? b = some u → h'.get? b = some u) (hp : s.heap.objs.size ≤ a) (new : ObjOk X.prog X.w (upd H a o) h' a o) :
    Inv X pins σ (upd H a o) { s with heap := h', toks := t' } := I.un (Un.laid k hp (I.hok.fresh hp)) (I.hok.laid k hp new)
theorem Inv.write {x e : Addr} {o : HO} {t' : Nat} (I : Inv X pins σ H s) (mu : Mut (H x)) (he : e = x ∨ H e = some (.own x)) (k : ∀ b u, b ≠ e → s.heap.get? b = some u → h'.get? b = some u) (heo : ∃ u, h'.get? e = some u)
    (new : ObjOk X.prog X.w (upd H x o) h' x o) : Inv X pins σ (upd H x o) { s with heap := h', toks := t' } := I.un (Un.write mu he k heo) (I.hok.write mu he k heo new)
theorem Inv.pins_of {pins' : List (Addr × Obj)} (I : Inv X pins σ H s) (h : ∀ p ∈ pins', s.heap.get? p.1 = some p.2 ∧ H p.1 = none ∧ p.1 ≠ X.env.locals ∧ p.1 ∉ X.fs ∧ ∀ v, p.2.data ≠ .cell v) : Inv X pins' σ H s :=
  ⟨I.ok, I.os, I.bare, I.base, I.loc, I.cell, I.free, I.freeC, fun p hp => (List.mem_append.mp hp).elim (fun z => I.pin p (List.mem_append_left _ z)) (h p), I.hok, I.len⟩
theorem nodup_ix {N : List Str} (hN : N.Nodup) {i j : Nat} {x : Str} (a : N[i]? = some x) (b : N[j]? = some x) : i = j := by
  obtain ⟨h1, e1⟩ := List.getElem?_eq_some_iff.mp a
  obtain ⟨h2, e2⟩ := List.getElem?_eq_some_iff.mp b
  exact (List.getElem_inj hN).mp (e1.trans e2.symm)
theorem store_ok2 {M : Model} {A : Around} {E : Value → Shared → Prop} {i : Nat} {x : Str} {v : V} {u : Value} {Q : Unit → Shared → Prop} (I : Inv X pins σ H s) (hN : X.N.Nodup) (hi : X.N[i]? = some x) (hx : Loc X.env.scope x) (r : RelV v u)
    (h : ∀ s', Inv X pins (σ.set i (some v)) H s' → (∃ a, Heap.SameBut a s.heap s'.heap ∧ (a = X.env.locals ∨ X.env.cells.lookup x = some a)) → Q () s') (hf : X.fn x = true ∨ X.env.scope.names.lookup x = some .local := by first | exact .inl rfl | exact .inr rfl | assumption) : wpAny M A (storeName X.env x u) Q E s := by
  obtain ⟨m, hn, hl⟩ := id I.loc
  have hcls : (X.env.scope.kind == .class || (X.env.scope.kind == .module && X.env.locals != X.env.globals)) = false := by rw [I.ok.kind]; rfl
  have hiσ : i < σ.length := by rw [I.len]; exact (List.getElem?_eq_some_iff.mp hi).1
  have cne := I.cne
  have tracked : ∀ {a : Addr} {h' : Heap}, (∃ o, s.heap.get? a = some o ∧ H a = none) → Heap.SameBut a s.heap h' → HOk X.prog X.w H h' := fun {a h'} ha hs b ob e => by
    obtain ⟨_, _, hfree⟩ := ha
    refine (I.hok b ob e).stay (fun c w' hc q => (hs.2 c ?_).trans q) (fun _ q => q) fun _ _ q => q
    rintro rfl
    rcases hc with rfl | hc
    · rw [hfree] at e; cases e
    · rw [hfree] at hc; cases hc
  rcases hx with hk | hk
  · refine wpAny_storeName_local hk hn (fun h' hn' hs => ?_) hcls
    obtain ⟨oL, _, _, hoL, _⟩ := id hn
    refine h _ ⟨I.ok, I.os, I.bare, ⟨fun b o e n hb hx => ?_, fun b o e n hb hx => ?_, I.base.free, fun b o e hx => ?_, I.base.tups, I.base.frzs, I.base.tbls⟩, ⟨_, hn', fun j y v' e1 e2 e3 => ?_⟩, fun y c e => ?_, I.free, I.freeC, fun p hp => ?_, tracked ⟨oL, hoL, I.free⟩ hs, by simpa using I.len⟩ ⟨_, hs, .inl rfl⟩
    · exact (hs.2 b (Nat.ne_of_lt (Nat.lt_of_lt_of_le (Heap.lt_size e) I.ok.above))).trans (I.base.keep b o e n hb hx)
    · obtain ⟨sl, e1⟩ := I.base.slot b o e n hb hx
      exact ⟨sl, (hs.2 b (Nat.ne_of_lt (Nat.lt_of_lt_of_le (Heap.lt_size e) I.ok.above))).trans e1⟩
    · obtain ⟨o', e1⟩ := I.base.there b o e hx
      exact ⟨o', (hs.2 b (Nat.ne_of_lt (Nat.lt_of_lt_of_le (Heap.lt_size e) I.ok.above))).trans e1⟩
    · by_cases hj : j = i
      · subst hj
        rw [hi] at e1; cases e1
        rw [List.getElem?_set_self hiσ] at e2
        cases e2
        exact ⟨u, r, .inl ⟨hk, by simp⟩⟩
      · rw [List.getElem?_set_ne (Ne.symm hj)] at e2
        obtain ⟨u', r', q⟩ := hl j y v' e1 e2 e3
        refine ⟨u', r', ?_⟩
        rcases q with ⟨k, e⟩ | ⟨k, c, e, z⟩
        · refine .inl ⟨k, ?_⟩
          have : y ≠ x := fun e => hj (nodup_ix hN e1 (e ▸ hi))
          simp [this, e]
        · exact .inr ⟨k, c, e, z.sameBut hs (cne y c e)⟩
    · obtain ⟨w', z⟩ := I.cell y c e
      exact ⟨w', z.sameBut hs (cne y c e)⟩
    · obtain ⟨e, n, ne, nf, d⟩ := I.pin p hp
      exact ⟨(hs.2 p.1 ne).trans e, n, ne, nf, d⟩
  · have hfn : X.fn x = true := by
      rcases hf with z | z
      · exact z
      · rw [z] at hk; cases hk
    obtain ⟨c, hc⟩ := I.ok.has x (.inl hk)
    obtain ⟨w', z⟩ := I.cell x c hc
    refine wpAny_storeName_cell I.ok.kind hk hc z (fun h' hc' hs => ?_)
    obtain ⟨oc, hoc, hocd⟩ := id z
    refine h { s with heap := h' } ⟨I.ok, I.os, I.bare, ⟨fun b o e n hb hx => ?_, fun b o e n hb hx => ?_, I.base.free, fun b o e hx => ?_, I.base.tups, I.base.frzs, I.base.tbls⟩, ⟨m, hn.sameBut hs (Ne.symm (cne x c hc)), fun j y v' e1 e2 e3 => ?_⟩, fun y c' e => ?_, I.free, I.freeC, fun p hp => ?_, tracked ⟨oc, hoc, I.freeC x c hc⟩ hs, by simpa using I.len⟩ ⟨c, hs, .inr hc⟩
    · exact (hs.2 b (Nat.ne_of_lt (Nat.lt_of_lt_of_le (Heap.lt_size e) (I.ok.cab x c hfn hc)))).trans (I.base.keep b o e n hb hx)
    · obtain ⟨sl, e1⟩ := I.base.slot b o e n hb hx
      exact ⟨sl, (hs.2 b (Nat.ne_of_lt (Nat.lt_of_lt_of_le (Heap.lt_size e) (I.ok.cab x c hfn hc)))).trans e1⟩
    · obtain ⟨o', e1⟩ := I.base.there b o e hx
      exact ⟨o', (hs.2 b (Nat.ne_of_lt (Nat.lt_of_lt_of_le (Heap.lt_size e) (I.ok.cab x c hfn hc)))).trans e1⟩
    · by_cases hj : j = i
      · subst hj
        rw [hi] at e1; cases e1
        rw [List.getElem?_set_self hiσ] at e2
        cases e2
        exact ⟨u, r, .inr ⟨.inl hk, c, hc, hc'⟩⟩
      · rw [List.getElem?_set_ne (Ne.symm hj)] at e2
        obtain ⟨u', r', q⟩ := hl j y v' e1 e2 e3
        refine ⟨u', r', ?_⟩
        rcases q with q | ⟨k, c', e, z'⟩
        · exact .inl q
        · refine .inr ⟨k, c', e, z'.sameBut hs ?_⟩
          rintro rfl
          exact hj (nodup_ix hN e1 (I.ok.inj _ _ _ e hc ▸ hi))
    · by_cases hcc : c' = c
      · subst hcc; exact ⟨_, hc'⟩
      · obtain ⟨w2, z2⟩ := I.cell y c' e
        exact ⟨w2, z2.sameBut hs hcc⟩
    · obtain ⟨e, n, ne, nf, d⟩ := I.pin p hp
      refine ⟨(hs.2 p.1 ?_).trans e, n, ne, nf, d⟩
      intro q
      rw [q, hoc] at e
      have q' : oc = p.2 := Option.some.inj e
      exact d w' (by rw [← q']; exact hocd)
theorem store_ok {M : Model} {A : Around} {E : Value → Shared → Prop} {i : Nat} {x : Str} {v : V} {u : Value} {Q : Unit → Shared → Prop} (I : Inv X pins σ H s) (hN : X.N.Nodup) (hi : X.N[i]? = some x) (hx : Loc X.env.scope x) (r : RelV v u)
    (h : ∀ s', Inv X pins (σ.set i (some v)) H s' → Q () s') (hf : X.fn x = true ∨ X.env.scope.names.lookup x = some .local := by first | exact .inl rfl | exact .inr rfl | assumption) : wpAny M A (storeName X.env x u) Q E s :=
  store_ok2 I hN hi hx r (fun s' I' _ => h s' I') hf
theorem Inv.call' {s' : Shared} {ch : List Addr} (I : Inv X pins σ H s) (ho : s'.os = s.os) (u : Un (frs X.stack) ch H H' s.heap s'.heap) (hok : HOk X.prog X.w H' s'.heap) (hg : AllBare s'.gens)
    (hch : ∀ b ∈ ch, (b ∈ X.ex ∨ X.s₀.heap.objs.size ≤ b) ∧ b ≠ X.env.locals ∧ (∀ x c, X.env.cells.lookup x = some c → c ≠ b) ∧ ∀ p ∈ X.pn ++ pins, p.1 ≠ b) : Inv X pins σ H' s' := by
  obtain ⟨h', g', d', t', o'⟩ := s'
  have e : o' = s.os := ho
  subst e
  exact I.call (g' := g') (t' := t') (d' := d') u hok hg hch
end
abbrev XK := Value → Option Addr → Hp → Prop
abbrev St := List (Option V)
abbrev VK := V → Hp → Prop
abbrev TE := St → Hp → VK → Prop
abbrev TT := St → Hp → (Bool → Hp → Prop) → Prop
abbrev TA := St → Hp → (List V → Hp → Prop) → Prop
structure Ends where
  nx : St → Hp → Prop
  rt : VK
  bk : St → Hp → Prop := fun _ _ => False
  ct : St → Hp → Prop := fun _ _ => False
abbrev TS := Ends → St → Hp → Prop
def EP (X : Cx) (pins : List (Addr × Obj)) (σ : St) (Q : VK) (u : Value) (s' : Shared) : Prop := ∃ v H', Inv X pins σ H' s' ∧ RelV v u ∧ Q v H'
def TP (X : Cx) (pins : List (Addr × Obj)) (σ : St) (Q : Bool → Hp → Prop) (b : Bool) (s' : Shared) : Prop := ∃ H', Inv X pins σ H' s' ∧ Q b H'
def AP (X : Cx) (pins : List (Addr × Obj)) (σ : St) (Q : List V → Hp → Prop) (us : List Value) (s' : Shared) : Prop := ∃ vs H', Inv X pins σ H' s' ∧ Vals vs us ∧ Q vs H'
def SP (X : Cx) (pins : List (Addr × Obj)) (D : Ends) (f : Flow) (s' : Shared) : Prop :=
  match f with
  | .next => ∃ σ' H', Inv X pins σ' H' s' ∧ D.nx σ' H'
  | .brk => ∃ σ' H', Inv X pins σ' H' s' ∧ D.bk σ' H'
  | .cont => ∃ σ' H', Inv X pins σ' H' s' ∧ D.ct σ' H'
  | .ret u => ∃ v σ' H', Inv X pins σ' H' s' ∧ RelV v u ∧ D.rt v H'
def PE (X : Cx) (e : Expr) (t : TE) : Prop :=
  ∀ (pins : List (Addr × Obj)) (s : Shared) (σ : St) (H : Hp) (Q : VK), Inv X pins σ H s → t σ H Q → wpAny (model X.prog X.w) X.A (eval e X.env) (EP X pins σ Q) X.xe s
def PT (X : Cx) (e : Expr) (t : TT) : Prop :=
  ∀ (pins : List (Addr × Obj)) (s : Shared) (σ : St) (H : Hp) (Q : Bool → Hp → Prop), Inv X pins σ H s → t σ H Q → wpAny (model X.prog X.w) X.A (isTrue e X.env (eval e X.env)) (TP X pins σ Q) X.xe s
def PW (X : Cx) (e : Expr) (t : TT) : Prop :=
  ∀ (whole : Sem Value) (pins : List (Addr × Obj)) (s : Shared) (σ : St) (H : Hp) (Q : Bool → Hp → Prop), Inv X pins σ H s → t σ H Q → wpAny (model X.prog X.w) X.A (isTrue e X.env whole) (TP X pins σ Q) X.xe s
theorem PW.pt {X : Cx} {e : Expr} {t : TT} (h : PW X e t) : PT X e t := h _
def PA (X : Cx) (es : List Expr) (t : TA) : Prop :=
  ∀ (pos : Pos) (pins : List (Addr × Obj)) (s : Shared) (σ : St) (H : Hp) (Q : List V → Hp → Prop), Inv X pins σ H s → t σ H Q → wpAny (model X.prog X.w) X.A (spliced (backTo pos (starEach es X.env))) (AP X pins σ Q) X.xe s
def PS (X : Cx) (st : Stmt) (t : TS) : Prop :=
  ∀ (pins : List (Addr × Obj)) (s : Shared) (σ : St) (H : Hp) (D : Ends), Inv X pins σ H s → t D σ H → wpAny (model X.prog X.w) X.A (exec st X.env) (SP X pins D) X.xe s
def PSs (X : Cx) (st : List Stmt) (t : TS) : Prop :=
  ∀ (pins : List (Addr × Obj)) (s : Shared) (σ : St) (H : Hp) (D : Ends), Inv X pins σ H s → t D σ H → wpAny (model X.prog X.w) X.A (execs st X.env) (SP X pins D) X.xe s
theorem thn {α : Type} {t : Sem α} {Q Q' : α → Shared → Prop} {M : Model} {A : Around} {E : Value → Shared → Prop} {s : Shared} (h : wpAny M A t Q E s) (hQ : ∀ a s, Q a s → Q' a s) : wpAny M A t Q' E s := wpAny_mono h hQ fun _ _ x => x
end L2
namespace L2
open PySem PySem.Spec PyProof.Rows
section
variable {X : Cx}
theorem bin {a b : Expr} {ta tb : TE} (ha : PE X a ta) (hb : PE X b tb) {pins : List (Addr × Obj)} {s : Shared} {σ : St} {H : Hp} {R : V → V → Hp → Prop} (I : Inv X pins σ H s) (h : ta σ H fun x H1 => tb σ H1 fun y H2 => R x y H2)
    {α : Type} {Q : α → Shared → Prop} {f : Value → Value → Sem α}
    (hf : ∀ v u s2 x y H2, Inv X pins σ H2 s2 → RelV x v → RelV y u → R x y H2 → wpAny (model X.prog X.w) X.A (f v u) Q X.xe s2) :
    wpAny (model X.prog X.w) X.A (eval a X.env) (fun v s₁ => wpAny (model X.prog X.w) X.A (eval b X.env) (fun u s₂ => wpAny (model X.prog X.w) X.A (f v u) Q X.xe s₂) X.xe s₁) X.xe s := by
  refine thn (ha pins s σ H _ I h) fun v s1 ⟨x, H1, I1, r1, q1⟩ => ?_
  refine thn (hb pins s1 σ H1 _ I1 q1) fun u s2 ⟨y, H2, I2, r2, q2⟩ => ?_
  exact hf v u s2 x y H2 I2 r1 r2 q2
def tVar (i : Nat) : TE := fun σ H Q => ∃ v, σ[i]? = some (some v) ∧ Q v H
def tC (v : V) : TE := fun _ H Q => Q v H
theorem pe_var {i : Nat} {x : Str} {pos : Pos} (hN : X.N[i]? = some x) (hv : Vis X.env.scope x) (hd : (x == ("__debug__" : Str)) = false := by decide) (hcd : (x == ("__classdict__" : Str)) = false := by decide) : PE X (.Name x pos) (tVar i) := by
  intro pins s σ H Q I h
  obtain ⟨v, e, h⟩ := h
  obtain ⟨m, hn, hl⟩ := I.loc
  obtain ⟨u, r, l⟩ := hl i x v hN e hv
  have fin : EP X pins σ Q u s := ⟨v, H, I, r, h⟩
  rcases l with ⟨hk, hm⟩ | ⟨hk, c, hc, hcell⟩
  · exact wpAny_Name (wpAny_loadName_local I.ok.kind hk hn hm fin) hd
  · rcases hk with hk | hk
    · exact wpAny_Name (wpAny_loadName_cell I.ok.kind hk hc hcell fin) hd
    · exact wpAny_Name (wpAny_loadName_free I.ok.kind hk hc hcell fin hcd) hd
theorem pe_int {i j pos} : PE X (.Constant (.int i) j pos) (tC (.int i)) := fun _ _ _ H _ I h => wpAny_Constant_int ⟨.int i, H, I.tok _, ⟨_, rfl⟩, h⟩
theorem pe_non {j pos} : PE X (.Constant .none j pos) (tC .non) := fun _ _ _ H _ I h => Constant_none ⟨.non, H, I, rfl, h⟩
theorem pe_str {x j pos} : PE X (.Constant (.str x) j pos) (tC (.str x)) := fun _ _ _ H _ I h => Calls.Constant_str ⟨.str x, H, I.tok _, ⟨_, rfl⟩, h⟩
def Gl (X : Cx) (x : Str) : Prop := X.env.kindOf x = some .globalImplicit
theorem ld_glob {E : Value → Shared → Prop} {pins : List (Addr × Obj)} {s : Shared} {σ : St} {H : Hp} {x : Str} {u : Value} {pos : Pos} {Q : Value → Shared → Prop} (I : Inv X pins σ H s) (hg : Gl X x) (hm : X.mg x = some u) (h : Q u s)
    (hd : (x == ("__debug__" : Str)) = false := by decide) : wpAny (model X.prog X.w) X.A (eval (.Name x pos) X.env) Q E s :=
  Calls.Name_function_global I.ok.kind hg (Calls.loadGlobal_global (by rw [I.ok.glob]; exact I.mod.glob.keeps I.bk) hm h) hd
theorem ld_blt {E : Value → Shared → Prop} {pins : List (Addr × Obj)} {s : Shared} {σ : St} {H : Hp} {x : Str} {u : Value} {pos : Pos} {Q : Value → Shared → Prop} (I : Inv X pins σ H s) (hg : Gl X x) (hm : X.mg x = none) (hv : bootBuiltins x = some u) (h : Q u s)
    (hn : x ≠ "__name__" := by decide) (hd : (x == ("__debug__" : Str)) = false := by decide) : wpAny (model X.prog X.w) X.A (eval (.Name x pos) X.env) Q E s := by
  obtain ⟨mb, h1, h2⟩ := I.mod.blt
  exact Calls.Name_function_global I.ok.kind hg (Calls.loadGlobal_builtin (by rw [I.ok.glob]; exact I.mod.glob.keeps I.bk) hm (by rw [I.ok.blt]; exact h1.keeps I.bk) ((h2 x hn).trans hv) h) hd
theorem pe_bltn {x : Str} {v : V} {u : Value} {pos : Pos} (hg : Gl X x) (hm : X.mg x = none) (hv : bootBuiltins x = some u) (r : RelV v u) (hn : x ≠ "__name__" := by decide) (hd : (x == ("__debug__" : Str)) = false := by decide) : PE X (.Name x pos) (tC v) :=
  fun _ _ _ H _ I h => ld_blt I hg hm hv ⟨v, H, I, r, h⟩ hn hd
variable {a b : Expr} {ta tb : TE} {pos : Pos}
def PC (X : Cx) (op : CmpOp) (a b : Expr) (t : TE) : Prop :=
  ∀ (pins : List (Addr × Obj)) (s : Shared) (σ : St) (H : Hp) (Q : VK), Inv X pins σ H s → t σ H Q →
    wpAny (model X.prog X.w) X.A (eval a X.env) (fun v s₁ => wpAny (model X.prog X.w) X.A (eval b X.env) (fun u s₂ => wpAny (model X.prog X.w) X.A (compareOp op v u) (EP X pins σ Q) X.xe s₂) X.xe s₁) X.xe s
theorem nobehind (b : Expr) {op : CmpOp} (h : op ≠ .In) (h2 : op ≠ .NotIn) : behindInMarks op b = false := by
  have e1 : (op == CmpOp.In) = false := by cases op <;> first | rfl | exact absurd rfl h
  have e2 : (op == CmpOp.NotIn) = false := by cases op <;> first | rfl | exact absurd rfl h2
  cases b <;> simp [behindInMarks, e1, e2]
def tB (t : TE) : TT := fun σ H Q => t σ H fun x H1 => ∃ c, x = .bl c ∧ Q c H1
theorem pt_cmp {op : CmpOp} {t : TE} (h : PC X op a b t) (h1 : behindInMarks op b = false := by first | exact nobehind _ (by decide) (by decide) | rfl) : PT X (.Compare a [op] [b] pos) (tB t) := by
  intro pins s σ H Q I hw
  refine wpAny_isTrue_Compare1 (thn (h pins s σ H _ I hw) fun v s1 h1 => thn h1 fun u s2 h2 => thn h2 fun c s3 ⟨x, H1, I1, r1, q1⟩ => ?_) h1
  obtain ⟨d, rfl, q⟩ := q1
  cases r1
  exact wpAny_truthy_bool ⟨H1, I1, q⟩
theorem pt_val {e : Expr} {t : TE} (h : PE X e t) (he : ∀ whole, isTrue e X.env whole = (do let v ← whole; standAt e.pos; holding [v] (truthy v)) := by intro _; rfl) : PT X e (tB t) := by
  intro pins s σ H Q I hw
  refine isTrue_plain (thn (h pins s σ H _ I hw) fun v s1 ⟨x, H1, I1, r1, q1⟩ => ?_) (he _)
  obtain ⟨d, rfl, q⟩ := q1
  cases r1
  exact wpAny_truthy_bool ⟨H1, I1, q⟩
variable {tA tB' : TT} {rest : List Expr}
def tAnd (t u : TT) : TT := fun σ H Q => t σ H fun c H1 => if c = true then u σ H1 Q else Q false H1
def tOr (t u : TT) : TT := fun σ H Q => t σ H fun c H1 => if c = true then Q true H1 else u σ H1 Q
def tNot (t : TT) : TT := fun σ H Q => t σ H fun c H1 => Q (!c) H1
theorem pw_and1 (ha : PT X a tA) : PW X (.BoolOp .And [a] pos) tA := by
  intro wh pins s σ H Q I h
  refine isTrue_and (thn (ha pins s σ H Q I h) fun c s1 e => ?_)
  cases c with
  | true => exact isTrue_and_nil e
  | false => exact e
theorem pw_or1 (ha : PT X a tA) : PW X (.BoolOp .Or [a] pos) tA := by
  intro wh pins s σ H Q I h
  refine isTrue_or (thn (ha pins s σ H Q I h) fun c s1 e => ?_)
  cases c with
  | false => exact isTrue_or_nil e
  | true => exact e
theorem pw_and (ha : PT X a tA) (hb : PW X (.BoolOp .And (b :: rest) pos) tB') : PW X (.BoolOp .And (a :: b :: rest) pos) (tAnd tA tB') := by
  intro wh pins s σ H Q I h
  refine isTrue_and (thn (ha pins s σ H _ I h) fun c s1 ⟨H1, I1, q1⟩ => ?_)
  cases c with
  | true => exact hb wh pins s1 σ H1 Q I1 q1
  | false => exact ⟨H1, I1, q1⟩
theorem pw_or (ha : PT X a tA) (hb : PW X (.BoolOp .Or (b :: rest) pos) tB') : PW X (.BoolOp .Or (a :: b :: rest) pos) (tOr tA tB') := by
  intro wh pins s σ H Q I h
  refine isTrue_or (thn (ha pins s σ H _ I h) fun c s1 ⟨H1, I1, q1⟩ => ?_)
  cases c with
  | true => exact ⟨H1, I1, q1⟩
  | false => exact hb wh pins s1 σ H1 Q I1 q1
theorem pt_not (ha : PT X a tA) : PT X (.UnaryOp .Not a pos) (tNot tA) := by
  intro pins s σ H Q I h
  exact isTrue_not (ha pins s σ H (fun c H1 => Q (!c) H1) I h)
def tAndV (ta tb : TE) : TE := fun σ H Q => ta σ H fun x H1 => ∃ c, x = .bl c ∧ if c = true then tb σ H1 Q else Q (.bl false) H1
theorem pe_one {op} {t : TE} (h : PE X a t) : PE X (.BoolOp op [a] pos) t := fun pins s σ H Q I hw => BoolOp_one (h pins s σ H Q I hw)
theorem pe_and (ha : PE X a ta) (hb : PE X (.BoolOp .And (b :: rest) pos) tb) : PE X (.BoolOp .And (a :: b :: rest) pos) (tAndV ta tb) := by
  intro pins s σ H Q I h
  refine BoolOp_and (thn (ha pins s σ H _ I h) fun v s1 ⟨x, H1, I1, r1, q1⟩ => ?_)
  obtain ⟨c, rfl, q1⟩ := q1
  cases r1
  refine wpAny_truthy_bool ?_
  cases c with
  | true => exact hb pins s1 σ H1 Q I1 q1
  | false => exact ⟨.bl false, H1, I1, rfl, q1⟩
end
end L2
namespace L2
open PySem PySem.Spec PyProof.Rows
def SqL (K : PySem.W.Frag) (H : Hp) (a : Addr) (xs : List V) : Prop :=
  Rd H a (.lst xs) ∨
    ∃ (o : Obj) (its : Array Value) (n : Nat), K.lookup a = some o ∧ o.cls = .type "list" ∧ o.dict = none ∧ o.data = .seq its n ∧ its.size ≤ sizeLine ∧ Vals xs its.toList
def SqT (K : PySem.W.Frag) (H : Hp) (a : Addr) (xs : List V) : Prop :=
  Rd H a (.tup xs) ∨
    ∃ (o : Obj) (its : Array Value) (n : Nat), K.lookup a = some o ∧ o.cls = .type "tuple" ∧ o.data = .seq its n ∧ its.size ≤ sizeLine ∧ Vals xs its.toList
def absV : Value → Option V
  | .none => some .non
  | .bool b => some (.bl b)
  | .int i _ => some (.int i)
  | .str x _ => some (.str x)
  | .bytes b _ => some (.byt b)
  | .float b _ => some (.flt b)
  | .ref a => some (.ref a)
  | .type n => some (.ty n)
  | _ => none
theorem RelV.abs {x : V} {u : Value} (r : RelV x u) : absV u = some x := by
  cases x with
  | non => cases r; rfl
  | bl _ => cases r; rfl
  | int _ => obtain ⟨t, rfl⟩ := r; rfl
  | str _ => obtain ⟨t, rfl⟩ := r; rfl
  | byt _ => obtain ⟨t, rfl⟩ := r; rfl
  | flt _ => obtain ⟨t, rfl⟩ := r; rfl
  | ref _ => cases r; rfl
  | ty _ => cases r; rfl
theorem RelV.inj {x y : V} {u : Value} (r : RelV x u) (q : RelV y u) : x = y := Option.some.inj (r.abs.symm.trans q.abs)
theorem Vals.inj : ∀ {xs ys : List V} {us : List Value}, Vals xs us → Vals ys us → xs = ys
  | _, _, _, .nil, .nil => rfl
  | _, _, _, .cons r t, .cons r' t' => by rw [r.inj r', Vals.inj t t']
section
variable {X : Cx} {pins : List (Addr × Obj)} {σ : St} {H : Hp} {s : Shared} {a : Addr} {xs ys : List V}
theorem SqL.of {K : PySem.W.Frag} (h : H a = some (.lst xs)) : SqL K H a xs := .inl (.inl h)
theorem SqT.of {K : PySem.W.Frag} (h : H a = some (.tup xs)) : SqT K H a xs := .inl (.inl h)
theorem Inv.list (I : Inv X pins σ H s) (h : SqL X.K H a xs) : ∃ its : List Value, Vals xs its ∧ PlainL s.heap a its.toArray ∧ xs.length ≤ sizeLine := by
  rcases h with h | ⟨o, its, n, hk, hc, hd, hs, hz, r⟩
  · obtain ⟨z, its, n, r, e⟩ := h.ok I.hok
    exact ⟨its, r, ⟨_, n, e, rfl, rfl, rfl⟩, z⟩
  · refine ⟨its.toList, r, ⟨o, n, I.kIn a o hk, hc, hd, by simpa using hs⟩, ?_⟩
    have e := r.length
    simp only [Array.length_toList] at e
    omega
theorem Inv.tuple (I : Inv X pins σ H s) (h : SqT X.K H a xs) : ∃ its : List Value, Vals xs its ∧ IsTup s.heap a its.toArray ∧ xs.length ≤ sizeLine := by
  rcases h with h | ⟨o, its, n, hk, hc, hs, hz, r⟩
  · obtain ⟨z, its, r, p⟩ := h.ok I.hok
    exact ⟨its, r, p, z⟩
  · refine ⟨its.toList, r, ⟨o, I.kIn a o hk, hc, n, by simpa using hs⟩, ?_⟩
    have e := r.length
    simp only [Array.length_toList] at e
    omega
theorem Inv.list_inj (I : Inv X pins σ H s) (h : SqL X.K H a xs) (h' : SqL X.K H a ys) : xs = ys := by
  obtain ⟨its, r, ⟨o, n, e, _, _, d⟩, _⟩ := I.list h
  obtain ⟨its', r', ⟨o', n', e', _, _, d'⟩, _⟩ := I.list h'
  rw [e] at e'; cases e'
  rw [d] at d'
  injection d' with d1 _
  have : its = its' := by simpa using congrArg Array.toList d1
  subst this
  exact r.inj r'
theorem Inv.tuple_inj (I : Inv X pins σ H s) (h : SqT X.K H a xs) (h' : SqT X.K H a ys) : xs = ys := by
  obtain ⟨its, r, ⟨o, e, _, n, d⟩, _⟩ := I.tuple h
  obtain ⟨its', r', ⟨o', e', _, n', d'⟩, _⟩ := I.tuple h'
  rw [e] at e'; cases e'
  rw [d] at d'
  injection d' with d1 _
  have : its = its' := by simpa using congrArg Array.toList d1
  subst this
  exact r.inj r'
end
abbrev Cx.wish (X : Cx) (E : Value → Shared → Prop) : Cx := { X with xe := E }
abbrev Cx.nox (X : Cx) : Cx := X.wish fun _ _ => False
theorem Cx.Ok.wish {X : Cx} (ok : X.Ok) (E : Value → Shared → Prop) : (X.wish E).Ok :=
  ⟨ok.mod, ok.kind, ok.glob, ok.blt, ok.above, ok.inj, ok.has, ok.cab, ok.hd, ok.frames, ok.stk, ok.exf, ok.bs, ok.bsz, ok.noex, ok.exfs, ok.funs, ok.frf⟩
theorem Cx.Ok.unwish {X : Cx} {E : Value → Shared → Prop} (ok : (X.wish E).Ok) : X.Ok :=
  ⟨ok.mod, ok.kind, ok.glob, ok.blt, ok.above, ok.inj, ok.has, ok.cab, ok.hd, ok.frames, ok.stk, ok.exf, ok.bs, ok.bsz, ok.noex, ok.exfs, ok.funs, ok.frf⟩
section
variable {X : Cx} {pins : List (Addr × Obj)} {σ : St} {H : Hp} {s : Shared} {E : Value → Shared → Prop}
theorem Inv.wish (I : Inv X pins σ H s) (E : Value → Shared → Prop) : Inv (X.wish E) pins σ H s := ⟨I.ok.wish E, I.os, I.bare, I.base, I.loc, I.cell, I.free, I.freeC, I.pin, I.hok, I.len⟩
theorem Inv.unwish (I : Inv (X.wish E) pins σ H s) : Inv X pins σ H s := ⟨I.ok.unwish, I.os, I.bare, I.base, I.loc, I.cell, I.free, I.freeC, I.pin, I.hok, I.len⟩
theorem SP.unwish {D : Ends} {f : Flow} {s' : Shared} (h : SP (X.wish E) pins D f s') : SP X pins D f s' := by
  cases f with
  | next => obtain ⟨σ', H', I, q⟩ := h; exact ⟨σ', H', I.unwish, q⟩
  | brk => obtain ⟨σ', H', I, q⟩ := h; exact ⟨σ', H', I.unwish, q⟩
  | cont => obtain ⟨σ', H', I, q⟩ := h; exact ⟨σ', H', I.unwish, q⟩
  | ret u => obtain ⟨v, σ', H', I, r, q⟩ := h; exact ⟨v, σ', H', I.unwish, r, q⟩
theorem PSs.nox {st : List Stmt} {t : TS} (h : PSs X.nox st t) : PSs X st t := fun pins s σ H D I hw =>
  wpAny_mono (h pins s σ H D (I.wish _) hw) (fun _ _ q => q.unwish) fun _ _ z => False.elim z
end
section
variable {X : Cx} {st : Stmt} {rest : List Stmt} {t u : TS} {e : Expr} {te : TE} {pos : Pos}
def tNext : TS := fun D σ H => D.nx σ H
def tSeq (t u : TS) : TS := fun D σ H => t { D with nx := u D } σ H
theorem pss_nil : PSs X [] tNext := fun _ _ σ H _ I h => wpAny_execs_nil ⟨σ, H, I, h⟩
theorem pss_cons (h1 : PS X st t) (h2 : PSs X rest u) : PSs X (st :: rest) (tSeq t u) := by
  intro pins s σ H D I h
  refine wpAny_execs_cons (thn (h1 pins s σ H { D with nx := u D } I h) fun f s1 q => ?_)
  cases f with
  | next =>
    obtain ⟨σ', H', I', q⟩ := q
    exact h2 pins s1 σ' H' D I' q
  | ret v => exact q
  | brk => exact q
  | cont => exact q
theorem pss_one (h1 : PS X st t) : PSs X [st] t := by
  intro pins s σ H D I h
  refine wpAny_execs_cons (thn (h1 pins s σ H D I h) fun f s1 q => ?_)
  cases f with
  | next => exact wpAny_execs_nil q
  | ret v => exact q
  | brk => exact q
  | cont => exact q
theorem Inv.quiet {pins : List (Addr × Obj)} {σ : St} {H : Hp} {s : Shared} (I : Inv X pins σ H s) : interactive X.env = false := by simp [interactive, I.ok.kind]
def tDrop (te : TE) : TS := fun D σ H => te σ H fun _ H1 => D.nx σ H1
theorem ps_expr (he : PE X e te) (hs : swapsWith e none pos.line X.env = pure false := by rfl) : PS X (.Expr e pos) (tDrop te) := by
  intro pins s σ H D I h
  exact wpAny_Expr_any (thn (he pins s σ H _ I h) fun v s1 ⟨x, H1, I1, r1, q1⟩ => ⟨σ, H1, I1, q1⟩) I.quiet hs
def tRet (te : TE) : TS := fun D σ H => te σ H D.rt
theorem ps_ret (he : PE X e te) : PS X (.Return (some e) pos) (tRet te) := by
  intro pins s σ H D I h
  exact wpAny_Return_some (thn (he pins s σ H _ I h) fun v s1 ⟨x, H1, I1, r1, q1⟩ => ⟨x, σ, H1, I1, r1, q1⟩)
def tIfS (c : TT) (t u : TS) : TS := fun D σ H => c σ H fun b H1 => if b = true then t D σ H1 else u D σ H1
theorem ps_if {c : Expr} {a b : List Stmt} {tc : TT} (hc : PT X c tc) (ha : PSs X a t) (hb : PSs X b u) : PS X (.If c a b pos) (tIfS tc t u) := by
  intro pins s σ H D I h
  refine wpAny_If (thn (hc pins s σ H _ I h) fun d s1 ⟨H1, I1, q1⟩ => ?_)
  cases d with
  | true => exact ha pins s1 σ H1 D I1 q1
  | false => exact hb pins s1 σ H1 D I1 q1
def tNever : TS := fun _ _ _ => False
theorem ps_never : PS X st tNever := fun _ _ _ _ _ _ h => h.elim
end
abbrev TG := V → St → Hp → (St → Hp → Prop) → Prop
abbrev TGs := List V → St → Hp → (St → Hp → Prop) → Prop
def PG (X : Cx) (target : Expr) (t : TG) : Prop :=
  ∀ (pins : List (Addr × Obj)) (s : Shared) (σ : St) (H : Hp) (v : V) (u : Value) (Q : St → Hp → Prop), Inv X pins σ H s → RelV v u → t v σ H Q →
    wpAny (model X.prog X.w) X.A (assign target X.env u) (fun _ s' => ∃ σ' H', Inv X pins σ' H' s' ∧ Q σ' H') X.xe s
def PGs (X : Cx) (ts : List Expr) (t : TGs) : Prop :=
  ∀ (pins : List (Addr × Obj)) (s : Shared) (σ : St) (H : Hp) (vs : List V) (us : List Value) (Q : St → Hp → Prop), Inv X pins σ H s → Vals vs us → t vs σ H Q →
    wpAny (model X.prog X.w) X.A (assignInOrder ((assignEach ts X.env).map (·.2)) us) (fun _ s' => ∃ σ' H', Inv X pins σ' H' s' ∧ Q σ' H') X.xe s
abbrev TSet := V → V → V → Hp → (Hp → Prop) → Prop
def PSet (X : Cx) (t : TSet) : Prop :=
  ∀ (pins : List (Addr × Obj)) (s : Shared) (σ : St) (H : Hp) (o i v : V) (ov iv u : Value) (Q : Hp → Prop), Inv X pins σ H s → RelV o ov → RelV i iv → RelV v u → t o i v H Q →
    wpAny (model X.prog X.w) X.A (setItem ov iv u) (fun _ s' => ∃ H', Inv X pins σ H' s' ∧ Q H') X.xe s
section
variable {X : Cx} {pos : Pos}
def gName (i : Nat) : TG := fun v σ H Q => Q (σ.set i (some v)) H
theorem pg_name {i : Nat} {x : Str} (hN : X.N.Nodup) (hi : X.N[i]? = some x) (hx : Loc X.env.scope x) (hf : X.fn x = true ∨ X.env.scope.names.lookup x = some .local := by first | exact .inl rfl | exact .inr rfl | assumption) : PG X (.Name x pos) (gName i) := by
  intro pins s σ H v u Q I r h
  exact wpAny_assign_Name (store_ok I hN hi hx r (fun s' I' => ⟨_, H, I', h⟩) hf)
def gNil : TGs := fun vs σ H Q => vs = [] ∧ Q σ H
def gCons (t : TG) (u : TGs) : TGs := fun vs σ H Q => ∃ v r, vs = v :: r ∧ t v σ H fun σ' H' => u r σ' H' Q
theorem pgs_nil : PGs X [] gNil := by
  intro pins s σ H vs us Q I r h
  obtain ⟨e, h⟩ := h
  subst e
  cases r
  exact assignInOrder_nil ⟨σ, H, I, h⟩
theorem pgs_cons {e : Expr} {es : List Expr} {t : TG} {u : TGs} (h1 : PG X e t) (h2 : PGs X es u)
    (hs : (assignEach (e :: es) X.env).map (·.2) = assign e X.env :: (assignEach es X.env).map (·.2) := by rfl) : PGs X (e :: es) (gCons t u) := by
  intro pins s σ H vs us Q I r h
  obtain ⟨v, vr, e1, h⟩ := h
  subst e1
  cases r with
  | cons r rr =>
    rw [hs]
    refine assignInOrder_cons (thn (h1 pins s σ H _ _ _ I r h) fun _ s1 ⟨σ1, H1, I1, q1⟩ => ?_)
    exact h2 pins s1 σ1 H1 _ _ Q I1 rr q1
def gTup (K : PySem.W.Frag) (n : Nat) (t : TGs) : TG := fun v σ H Q => ∃ a xs, v = .ref a ∧ SqT K H a xs ∧ xs.length = n ∧ t xs σ H Q
theorem pg_tup {es : List Expr} {k : Nat} {t : TGs} {n : Nat} (hc : X.calm = true) (h : PGs X es t)
    (hn : (assignEach es X.env).length = n := by rfl) (hst : (assignEach es X.env).findIdx? (·.1) = none := by rfl) : PG X (.Tuple es k pos) (gTup X.K n t) := by
  intro pins s σ H v u Q I r hw
  obtain ⟨a, xs, e1, hq, hl, hw⟩ := hw
  subst e1
  cases r
  obtain ⟨its, rv, ht, hz⟩ := I.tuple hq
  refine assign_Tuple_tuple (I.ok.hd hc) ht (by simp [hn, ← hl, rv.length]) hst fun h' hx => ?_
  have I1 : Inv X pins σ H { s with heap := h' } := I.kept (t' := s.toks) fun b o e => hx b o (Nat.ne_of_lt (Heap.lt_size e)) e
  exact h pins _ σ H xs _ Q I1 (by simpa using rv) hw
def gSub (to ti : TE) (t : TSet) : TG := fun v σ H Q => to σ H fun o H1 => ti σ H1 fun i H2 => t o i v H2 fun H3 => Q σ H3
theorem pg_sub {o i : Expr} {to ti : TE} {t : TSet} (ho : PE X o to) (hi : PE X i ti) (hs : PSet X t)
    (ha : ∀ v, assign (.Subscript o i pos) X.env v = (do
      let ov ← holding [v] (eval o X.env)
      let iv ← holding [v, ov] (eval i X.env)
      standAt pos
      holding [v, ov, iv] (setItem ov iv v)
      release [v, ov, iv] []) := by intro _; rfl) : PG X (.Subscript o i pos) (gSub to ti t) := by
  intro pins s σ H v u Q I r h
  rw [ha]
  refine wpAny_bind (wpAny_holding (thn (ho pins s σ H _ I h) fun ov s1 ⟨x, H1, I1, r1, q1⟩ => ?_))
  refine wpAny_bind (wpAny_holding (thn (hi pins s1 σ H1 _ I1 q1) fun iv s2 ⟨y, H2, I2, r2, q2⟩ => ?_))
  refine wpAny_bind (wpAny_standAt (wpAny_bind (wpAny_holding (thn (hs pins s2 σ H2 x y v ov iv u _ I2 r1 r2 r q2) fun _ s3 ⟨H3, I3, q3⟩ => ?_))))
  exact wpAny_release ⟨σ, H3, I3, q3⟩
def tAsg (te : TE) (g : TG) : TS := fun D σ H => te σ H fun x H1 => g x σ H1 D.nx
theorem ps_asg {tg e : Expr} {te : TE} {g : TG} (he : PE X e te) (hg : PG X tg g) (hs : swapsWithSole [tg] e pos.line X.env = pure false := by rfl) (hw : swappedStores [tg] e X.env = pure none := by rfl)
    (h1 : (assignEach [tg] X.env).map (·.2) = [assign tg X.env] := by rfl) : PS X (.Assign [tg] e pos) (tAsg te g) := by
  intro pins s σ H D I h
  refine wpAny_Assign_stores (thn (he pins s σ H _ I h) fun v s1 ⟨x, H1, I1, r1, q1⟩ => ?_) hs hw
  rw [h1]
  exact thn (hg pins s1 σ H1 x v _ I1 r1 q1) fun _ s2 q => q
theorem ps_set {i : Nat} {x : Str} {e : Expr} {te : TE} {pos' : Pos} (hN : X.N.Nodup) (hi : X.N[i]? = some x) (hx : Loc X.env.scope x) (he : PE X e te) (hs : swapsWith e (some (.Name x pos')) pos.line X.env = pure false := by rfl) (hf : X.fn x = true ∨ X.env.scope.names.lookup x = some .local := by first | exact .inl rfl | exact .inr rfl | assumption) :
    PS X (.Assign [.Name x pos'] e pos) (tAsg te (gName i)) := by
  intro pins s σ H D I h
  refine wpAny_Assign_Name (thn (he pins s σ H _ I h) fun v s1 ⟨y, H1, I1, r1, q1⟩ => ?_) hs
  exact store_ok I1 hN hi hx r1 (fun s2 I2 => ⟨_, H1, I2, q1⟩) hf
end
section
variable {X : Cx} {pos : Pos}
def tWhile (c : TT) (tb : TS) : TS := fun D σ H => ∃ W : Nat → St → Hp → Prop, (∃ m, W m σ H) ∧ ∀ m σ H, W m σ H →
  c σ H fun b H1 => if b = true then ∃ N : St → Hp → Prop, (∀ σ' H', N σ' H' → ∃ m', m' < m ∧ W m' σ' H') ∧ tb { D with nx := N, ct := N, bk := D.nx } σ H1 else D.nx σ H1
theorem ps_while {c : Expr} {body : List Stmt} {tc : TT} {tb : TS} (hp : PassesOwn (model X.prog X.w) X.A X.env X.xe) (hc : PT X c tc) (hb : PSs X body tb) : PS X (.While c body [] pos) (tWhile tc tb) := by
  intro pins s σ H D I h
  obtain ⟨W, ⟨m0, w0⟩, turn⟩ := h
  refine wpAny_While (codeAny_whileLoop (fun n s' => ∃ σ' H', Inv X pins σ' H' s' ∧ W n σ' H') ?_ m0 ⟨σ, H, I, w0⟩)
  rintro n s1 ⟨σ1, H1, I1, w1⟩
  refine wpAny_passesOwn hp (thn (hc pins s1 σ1 H1 _ I1 (turn n σ1 H1 w1)) fun b s2 ⟨H2, I2, q2⟩ => ?_)
  cases b with
  | true =>
    obtain ⟨N, hN, q2⟩ := q2
    rw [if_pos rfl]
    refine wpAny_passesOwn hp (thn (hb pins s2 σ1 H2 _ I2 q2) fun f s3 q3 => ?_)
    cases f with
    | next =>
      obtain ⟨σ3, H3, I3, n3⟩ := q3
      obtain ⟨m', hm, w3⟩ := hN σ3 H3 n3
      exact ⟨m', hm, σ3, H3, I3, w3⟩
    | cont =>
      obtain ⟨σ3, H3, I3, n3⟩ := q3
      obtain ⟨m', hm, w3⟩ := hN σ3 H3 n3
      exact ⟨m', hm, σ3, H3, I3, w3⟩
    | brk => exact q3
    | ret v => exact q3
  | false =>
    rw [if_neg Bool.false_ne_true]
    exact wpAny_execs_nil ⟨σ1, H2, I2, q2⟩
end
structure It where
  go : Nat → Hp → Prop
  yld : Nat → Hp → V → Hp → Prop
  stop : Nat → Hp → Prop
def FpOk (X : Cx) (pins : List (Addr × Obj)) (H : Hp) (b : Addr) : Prop :=
  H b = none ∧ b ≠ X.env.locals ∧ b ∉ X.fs ∧ (b ∈ X.ex ∨ X.s₀.heap.objs.size ≤ b) ∧ (∀ x c, X.env.cells.lookup x = some c → c ≠ b) ∧ ∀ p ∈ X.pn ++ pins, p.1 ≠ b
theorem Inv.fpOk {X : Cx} {pins : List (Addr × Obj)} {σ : St} {H H' : Hp} {s : Shared} {b : Addr} (I : Inv X pins σ H s) (hb : s.heap.objs.size ≤ b) (hn : H' b = none) : FpOk X pins H' b := by
  refine ⟨hn, Nat.ne_of_gt (Nat.lt_of_lt_of_le I.lt hb), I.nofs hb, .inr (Nat.le_trans I.sz hb), fun x c e z => ?_, fun p hp z => ?_⟩
  · obtain ⟨v, q⟩ := I.cell x c e
    exact absurd (Nat.lt_of_lt_of_le q.lt (by rw [z]; exact hb)) (Nat.lt_irrefl _)
  · exact absurd (Nat.lt_of_lt_of_le (Heap.lt_size (I.pin p hp).1) (by rw [z]; exact hb)) (Nat.lt_irrefl _)
structure Turn (P : Program) (w : World) (K : PySem.W.Frag) (tg : Expr) (J : It) (fp : List Addr) (it : Addr) (tn : Nat → Heap → Prop) : Prop where
  mem : it ∈ fp
  obj : ∀ i h, tn i h → ∀ b ∈ fp, ∃ o, h.get? b = some o ∧ ∀ v, o.data ≠ .cell v
  keep : ∀ i h h', tn i h → (∀ b ∈ fp, ∀ o, h.get? b = some o → h'.get? b = some o) → tn i h'
  item : ∀ (X : Cx), X.prog = P → X.w = w → X.K = K → X.calm = true → ∀ (i : Nat) (pins : List (Addr × Obj)) (s : Shared) (σ : St) (H : Hp) (E : Value → Shared → Prop), Inv X pins σ H s → (∀ b ∈ fp, FpOk X pins H b) → tn i s.heap → J.go i H →
    wpAny (model P w) X.A (pyNext (.ref it)) (fun r s1 => ∃ u, r = some u ∧
      wpAny (model P w) X.A (letOwnedTupleGo tg (.ref it) u) (fun _ s2 => ∃ x H', Inv X pins σ H' s2 ∧ RelV x u ∧ J.yld i H x H' ∧ tn (i + 1) s2.heap ∧ ∀ b ∈ fp, H' b = none) E s1) E s
  done : ∀ (X : Cx), X.prog = P → X.w = w → X.K = K → X.calm = true → ∀ (i : Nat) (pins : List (Addr × Obj)) (s : Shared) (σ : St) (H : Hp) (E : Value → Shared → Prop), Inv X pins σ H s → (∀ b ∈ fp, FpOk X pins H b) → tn i s.heap → J.stop i H →
    wpAny (model P w) X.A (pyNext (.ref it)) (fun r s1 => r = none ∧ Inv X pins σ H s1) E s
  self : ∀ (A : Around) (i : Nat) (s : Shared) (Q : Value → Shared → Prop) (E : Value → Shared → Prop), tn i s.heap → Q (.ref it) s → wpAny (model P w) A (pyIter (.ref it)) Q E s
abbrev TI := St → Hp → (It → Hp → Prop) → Prop
def PIE (X : Cx) (pins : List (Addr × Obj)) (σ : St) (tg : Expr) (R : It → Hp → Prop) (itv : Value) (s2 : Shared) : Prop :=
  ∃ (it : Addr) (fp : List Addr) (tn : Nat → Heap → Prop) (J : It) (H' : Hp), itv = .ref it ∧ Inv X pins σ H' s2 ∧ Turn X.prog X.w X.K tg J fp it tn ∧ tn 0 s2.heap ∧ (∀ b ∈ fp, FpOk X pins H' b) ∧ R J H'
def PI (X : Cx) (tg iter : Expr) (wi : TI) : Prop :=
  ∀ (pins : List (Addr × Obj)) (s : Shared) (σ : St) (H : Hp) (R : It → Hp → Prop), Inv X pins σ H s → wi σ H R →
    wpAny (model X.prog X.w) X.A (eval iter X.env) (fun v s1 => wpAny (model X.prog X.w) X.A (pyIter v) (PIE X pins σ tg R) X.xe s1) X.xe s
theorem go_of {M : Model} {A : Around} {E : Value → Shared → Prop} {s : Shared} {tg : Expr} {it : Addr} {u : Value} {o : Obj} {n : String} {vs : Array Value} {Q : Unit → Shared → Prop} (ho : s.heap.get? it = some o) (hc : o.cls = .type n) (hd : o.data = .fields vs)
    (hn : ["enumerate", "zip", "dict_itemiterator", "dict_reverseitemiterator", "odict_iterator", "itertools.zip_longest", "itertools.pairwise"].contains n = false) (hQ : Q () s) : wpAny M A (letOwnedTupleGo tg (.ref it) u) Q E s := by
  unfold letOwnedTupleGo
  cases tg <;> first
    | exact wpAny_pure hQ
    | (cases u <;> first
        | exact wpAny_pure hQ
        | (refine wpAny_bind (wpAny_load ho ?_)
           rw [hc, hd]
           show wpAny M A (if (["enumerate", "zip", "dict_itemiterator", "dict_reverseitemiterator", "odict_iterator", "itertools.zip_longest", "itertools.pairwise"].contains n && vs[0]? == some (rawInt _)) = true then _ else _) Q E s
           rw [if_neg (by intro h; rw [hn, Bool.false_and] at h; cases h)]
           exact wpAny_pure hQ))
def Itl (K : PySem.W.Frag) (a : Addr) : It :=
  ⟨fun i H => ∃ xs x, SqL K H a xs ∧ xs[i]? = some x, fun i H x H' => H' = H ∧ ∀ xs, SqL K H a xs → xs[i]? = some x, fun i H => ∃ xs, SqL K H a xs ∧ xs.length ≤ i⟩
def Itt (K : PySem.W.Frag) (a : Addr) : It :=
  ⟨fun i H => ∃ xs x, SqT K H a xs ∧ xs[i]? = some x, fun i H x H' => H' = H ∧ ∀ xs, SqT K H a xs → xs[i]? = some x, fun i H => ∃ xs, SqT K H a xs ∧ xs.length ≤ i⟩
def Itr (lo : Int) (n : Nat) : It := ⟨fun i _ => i < n, fun i H x H' => H' = H ∧ x = .int (lo + i), fun i _ => n ≤ i⟩
theorem turn_list {P : Program} {w : World} {K : PySem.W.Frag} {tg : Expr} (a it : Addr) : Turn P w K tg (Itl K a) [it] it (fun i h => h.IsListIter it a i) where
  mem := by simp
  obj := fun i h st b hb => by
    have e : b = it := by simpa using hb
    subst e
    obtain ⟨o, e, c, d⟩ := st
    exact ⟨o, e, fun v z => by rw [d] at z; cases z⟩
  keep := fun i h h' st k => st.at fun o e => k it (by simp) o e
  item := by
    intro X hP hw hK hc i pins s σ H E I hf st hg
    subst hP hw hK
    obtain ⟨xs, x, hq, hx⟩ := hg
    obtain ⟨its, rv, p, hz⟩ := I.list hq
    obtain ⟨u, hu, ru⟩ := rv.get hx
    obtain ⟨f0, f1, f2, f3, f4, f5⟩ := hf it (by simp)
    refine wpAny_pyNext_list_item st p.isList (x := u) (by simpa using hu) fun h' st' sb => ?_
    have I1 : Inv X pins σ H { s with heap := h' } := I.turned (t' := s.toks) (fun b o hb e => (sb.2 b hb).trans e) f0 f1 f3 f4 f5
    obtain ⟨o, e, c, d⟩ := id st'
    exact ⟨u, rfl, go_of (s := { s with heap := h' }) e c d (by decide) ⟨x, H, I1, ru, ⟨rfl, fun ys hy => by rw [I.list_inj hy hq]; exact hx⟩, st', fun b hb => (hf b hb).1⟩⟩
  done := by
    intro X hP hw hK hc i pins s σ H E I hf st hg
    subst hP hw hK
    obtain ⟨xs, hq, hx⟩ := hg
    obtain ⟨its, rv, p, hz⟩ := I.list hq
    obtain ⟨f0, f1, f2, f3, f4, f5⟩ := hf it (by simp)
    have hl := rv.length
    exact wpAny_pyNext_list_end (I.ok.hd hc) st p.isList (by simp; omega) fun h' eb => ⟨rfl, I.turned (t' := s.toks) (fun b o hb e => eb b o hb e) f0 f1 f3 f4 f5⟩
  self := fun _ _ _ _ _ st h => wpAny_pyIter_listiter st h
theorem turn_tuple {P : Program} {w : World} {K : PySem.W.Frag} {tg : Expr} (a it : Addr) : Turn P w K tg (Itt K a) [it] it (fun i h => h.IsTupleIter it a i) where
  mem := by simp
  obj := fun i h st b hb => by
    have e : b = it := by simpa using hb
    subst e
    obtain ⟨o, e, c, d⟩ := st
    exact ⟨o, e, fun v z => by rw [d] at z; cases z⟩
  keep := fun i h h' st k => st.at fun o e => k it (by simp) o e
  item := by
    intro X hP hw hK hc i pins s σ H E I hf st hg
    subst hP hw hK
    obtain ⟨xs, x, hq, hx⟩ := hg
    obtain ⟨its, rv, p, hz⟩ := I.tuple hq
    obtain ⟨u, hu, ru⟩ := rv.get hx
    obtain ⟨f0, f1, f2, f3, f4, f5⟩ := hf it (by simp)
    refine wpAny_pyNext_tuple_item st (show s.heap.IsTuple a its.toArray from p) (x := u) (by simpa using hu) fun h' st' sb => ?_
    have I1 : Inv X pins σ H { s with heap := h' } := I.turned (t' := s.toks) (fun b o hb e => (sb.2 b hb).trans e) f0 f1 f3 f4 f5
    obtain ⟨o, e, c, d⟩ := id st'
    exact ⟨u, rfl, go_of (s := { s with heap := h' }) e c d (by decide) ⟨x, H, I1, ru, ⟨rfl, fun ys hy => by rw [I.tuple_inj hy hq]; exact hx⟩, st', fun b hb => (hf b hb).1⟩⟩
  done := by
    intro X hP hw hK hc i pins s σ H E I hf st hg
    subst hP hw hK
    obtain ⟨xs, hq, hx⟩ := hg
    obtain ⟨its, rv, p, hz⟩ := I.tuple hq
    obtain ⟨f0, f1, f2, f3, f4, f5⟩ := hf it (by simp)
    have hl := rv.length
    exact wpAny_pyNext_tuple_end (I.ok.hd hc) st (show s.heap.IsTuple a its.toArray from p) (by simp; omega) fun h' eb => ⟨rfl, I.turned (t' := s.toks) (fun b o hb e => eb b o hb e) f0 f1 f3 f4 f5⟩
  self := fun _ _ _ _ _ st h => wpAny_pyIter_tupleiter st h
theorem turn_range {P : Program} {w : World} {K : PySem.W.Frag} {tg : Expr} (it : Addr) (lo : Int) (n : Nat) : Turn P w K tg (Itr lo n) [it] it (fun i h => IsRangeIter h it (lo + (i : Nat) * 1) ((n : Int) - (i : Nat)) 1) where
  mem := by simp
  obj := fun i h st b hb => by
    have e : b = it := by simpa using hb
    subst e
    exact ⟨_, st, fun v z => by
      have z' : Data.fields _ = Data.cell v := z
      cases z'⟩
  keep := fun i h h' st k => k it (by simp) _ st
  item := by
    intro X hP hw hK hc i pins s σ H E I hf st hg
    subst hP hw hK
    obtain ⟨f0, f1, f2, f3, f4, f5⟩ := hf it (by simp)
    have W := Walks.range (prog := X.prog) (w := X.w) (I.ok.hd hc) it lo 1 n
    refine W.item i s _ _ hg st fun v h' tk hv st' kk => ?_
    obtain ⟨t, rfl⟩ := hv
    have I1 : Inv X pins σ H { s with heap := h', toks := tk } := I.turned (fun b o hb e => kk b o (by simpa using hb) e) f0 f1 f3 f4 f5
    refine ⟨_, rfl, go_of (s := { s with heap := h', toks := tk }) (n := "range_iterator") st' rfl rfl (by decide) ⟨.int (lo + i), H, I1, ⟨t, ?_⟩, ⟨rfl, rfl⟩, st', fun b hb => (hf b hb).1⟩⟩
    rw [Int.mul_one]
  done := by
    intro X hP hw hK hc i pins s σ H E I hf st hg
    subst hP hw hK
    obtain ⟨f0, f1, f2, f3, f4, f5⟩ := hf it (by simp)
    exact wpAny_pyNext_range_end (I.ok.hd hc) st (by have : n ≤ i := hg; omega) fun h' eb => ⟨rfl, I.turned (t' := s.toks) (fun b o hb e => eb b o hb e) f0 f1 f3 f4 f5⟩
  self := fun _ _ _ _ _ st h => wpAny_pyIter_rangeiter st h
end L2
namespace L2
open PySem PySem.Spec PyProof.Rows
section
variable {X : Cx} {tg : Expr}
def iList (K : PySem.W.Frag) (tl : TE) : TI := fun σ H R => tl σ H fun x H1 => ∃ a, x = .ref a ∧ (∃ xs, SqL K H1 a xs) ∧ R (Itl K a) H1
def iTup (K : PySem.W.Frag) (tl : TE) : TI := fun σ H R => tl σ H fun x H1 => ∃ a, x = .ref a ∧ (∃ xs, SqT K H1 a xs) ∧ R (Itt K a) H1
theorem pi_list {l : Expr} {tl : TE} (hl : PE X l tl) : PI X tg l (iList X.K tl) := by
  intro pins s σ H R I h
  refine thn (hl pins s σ H _ I h) fun v s1 ⟨x, H1, I1, r1, q1⟩ => ?_
  obtain ⟨a, e, ⟨xs, hq⟩, q⟩ := q1
  subst e
  cases r1
  obtain ⟨its, rv, p, hz⟩ := I1.list hq
  refine wpAny_pyIter_list p.isList ?_
  refine ⟨s1.heap.objs.size, [s1.heap.objs.size], _, _, H1, rfl, I1.kept (t' := s1.toks) fun b o e => Heap.get?_push_of_some _ e, turn_list a _, ⟨_, Heap.get?_push_size _ rfl, rfl, rfl⟩, fun b hb => ?_, q⟩
  have e : b = s1.heap.objs.size := by simpa using hb
  subst e
  exact I1.fpOk (Nat.le_refl _) (I1.hok.fresh (Nat.le_refl _))
theorem pi_tup {l : Expr} {tl : TE} (hl : PE X l tl) : PI X tg l (iTup X.K tl) := by
  intro pins s σ H R I h
  refine thn (hl pins s σ H _ I h) fun v s1 ⟨x, H1, I1, r1, q1⟩ => ?_
  obtain ⟨a, e, ⟨xs, hq⟩, q⟩ := q1
  subst e
  cases r1
  obtain ⟨its, rv, p, hz⟩ := I1.tuple hq
  refine wpAny_pyIter_tuple (show s1.heap.IsTuple a its.toArray from p) ?_
  refine ⟨s1.heap.objs.size, [s1.heap.objs.size], _, _, H1, rfl, I1.kept (t' := s1.toks) fun b o e => Heap.get?_push_of_some _ e, turn_tuple a _, ⟨_, Heap.get?_push_size _ rfl, rfl, rfl⟩, fun b hb => ?_, q⟩
  have e : b = s1.heap.objs.size := by simpa using hb
  subst e
  exact I1.fpOk (Nat.le_refl _) (I1.hok.fresh (Nat.le_refl _))
theorem range_it {pins : List (Addr × Obj)} {σ : St} {H : Hp} {s : Shared} {R : It → Hp → Prop} {E : Value → Shared → Prop} {lo hi : Int} {t u v : Tok} {tk : Nat} (I : Inv X pins σ H s) (h1 : -(2 ^ 62) ≤ lo) (h2 : lo < 2 ^ 62) (h3 : -(2 ^ 62) ≤ hi) (h4 : hi < 2 ^ 62)
    (q : R (Itr lo (hi - lo).toNat) H) : wpAny (model X.prog X.w) X.A (pyIter (.ref s.heap.objs.size)) (PIE X pins σ tg R) E { s with heap := s.heap.push { cls := .type "range", data := .fields #[.int lo t, .int hi u, .int 1 v] }, toks := tk } := by
  refine wpAny_pyIter_range (IsRange.new ..) (small_one h1 h2 h3 h4) ?_
  have I1 : Inv X pins σ H { s with heap := s.heap.push { cls := .type "range", data := .fields #[.int lo t, .int hi u, .int 1 v] }, toks := tk } := I.kept fun b o e => Heap.get?_push_of_some _ e
  refine ⟨(s.heap.push { cls := .type "range", data := .fields #[.int lo t, .int hi u, .int 1 v] }).objs.size, [(s.heap.push { cls := .type "range", data := .fields #[.int lo t, .int hi u, .int 1 v] }).objs.size], _, _, H, rfl,
    I1.kept (t' := tk) fun b o e => Heap.get?_push_of_some _ e, turn_range _ lo (hi - lo).toNat, ?_, fun b hb => ?_, q⟩
  · have e1 : lo + ((0 : Nat) : Int) * 1 = lo := by simp
    have e2 : (((hi - lo).toNat : Nat) : Int) - ((0 : Nat) : Int) = Builtin.Range.rangeSize lo hi 1 := by rw [rangeSize_one]; split <;> omega
    show IsRangeIter _ _ (lo + ((0 : Nat) : Int) * 1) ((((hi - lo).toNat : Nat) : Int) - ((0 : Nat) : Int)) 1
    rw [e1, e2]
    exact Heap.get?_push_size _ rfl
  · have e : b = (s.heap.push { cls := .type "range", data := .fields #[.int lo t, .int hi u, .int 1 v] }).objs.size := by simpa using hb
    subst e
    exact I1.fpOk (Nat.le_refl _) (I1.hok.fresh (Nat.le_refl _))
def iRng1 (ta : TA) : TI := fun σ H R => ta σ H fun vs H1 => ∃ j : Int, vs = [.int j] ∧ -(2 ^ 62) ≤ j ∧ j < 2 ^ 62 ∧ R (Itr 0 j.toNat) H1
theorem pi_range1 {a : Expr} {ta : TA} {p pos : Pos} (hg : Gl X "range") (hm : X.mg "range" = none) (ha : PA X [a] ta) (hs : starEach [a] X.env = [(false, eval a X.env)] := by rfl) : PI X tg (.Call (.Name "range" p) [a] [] pos) (iRng1 ta) := by
  intro pins s σ H R I h
  refine Call_ (ld_blt I hg hm boot_range (PyProof.Rows.callWith_type1 (thn (ha pos pins s σ H _ I h) fun us s1 ⟨vs, H1, I1, r1, q1⟩ => ?_) hs rfl))
  obtain ⟨j, e, q1, q2, q⟩ := q1
  subst e
  cases r1 with
  | cons r rr =>
    cases rr
    obtain ⟨t, rfl⟩ := r
    exact call_range_1 (range_it I1 (by omega) (by omega) q1 q2 (by simpa using q))
def tFor (wi : TI) (g : TG) (tb : TS) : TS := fun D σ H => wi σ H fun J H1 => ∃ W : Nat → Nat → St → Hp → Prop, (∃ m, W 0 m σ H1) ∧ ∀ i m σ H, W i m σ H →
  (J.stop i H ∧ D.nx σ H) ∨ (J.go i H ∧ ∃ N : St → Hp → Prop, (∀ σ' H', N σ' H' → ∃ m', m' < m ∧ W (i + 1) m' σ' H') ∧ ∀ x H', J.yld i H x H' → g x σ H' fun σ2 H2 => tb { D with nx := N, ct := N, bk := D.nx } σ2 H2)
def pinsAt (fp : List Addr) (h : Heap) : List (Addr × Obj) := fp.filterMap fun b => (h.get? b).map fun o => (b, o)
theorem mem_pinsAt {fp : List Addr} {h : Heap} {b : Addr} {o : Obj} (hb : b ∈ fp) (e : h.get? b = some o) : (b, o) ∈ pinsAt fp h := List.mem_filterMap.mpr ⟨b, hb, by rw [e]; rfl⟩
theorem of_pinsAt {fp : List Addr} {h : Heap} {p : Addr × Obj} (hp : p ∈ pinsAt fp h) : p.1 ∈ fp ∧ h.get? p.1 = some p.2 := by
  obtain ⟨b, hb, e⟩ := List.mem_filterMap.mp hp
  cases q : h.get? b with
  | none => rw [q] at e; cases e
  | some o =>
    rw [q] at e
    have e' : (b, o) = p := Option.some.inj e
    subst e'
    exact ⟨hb, q⟩
theorem Inv.pinned {pins : List (Addr × Obj)} {σ : St} {H : Hp} {s : Shared} {fp : List Addr} (I : Inv X pins σ H s) (hf : ∀ b ∈ fp, FpOk X pins H b) (ho : ∀ b ∈ fp, ∃ o, s.heap.get? b = some o ∧ ∀ v, o.data ≠ .cell v) : Inv X (pins ++ pinsAt fp s.heap) σ H s :=
  I.pins_of fun p hp => (List.mem_append.mp hp).elim (fun z => I.pin p (List.mem_append_right _ z)) fun z => by
    obtain ⟨hb, e⟩ := of_pinsAt z
    obtain ⟨f0, f1, f2, _⟩ := hf p.1 hb
    obtain ⟨o, e', d⟩ := ho p.1 hb
    rw [e] at e'; cases e'
    exact ⟨e, f0, f1, f2, d⟩
theorem Inv.unpinned {pins pl : List (Addr × Obj)} {σ : St} {H : Hp} {s : Shared} (I : Inv X (pins ++ pl) σ H s) : Inv X pins σ H s := I.pins_of fun p hp => I.pin p (List.mem_append_right _ (List.mem_append_left _ hp))
theorem ps_for {iter : Expr} {body : List Stmt} {wi : TI} {g : TG} {tb : TS} {pos : Pos} (hp : PassesOwn (model X.prog X.w) X.A X.env X.xe) (hc : X.calm = true) (hi : PI X tg iter wi) (hg : PG X tg g) (hb : PSs X body tb)
    (hs : ∀ x, foldedSetIterable iter X.env x = pure x := by intro _; rfl) : PS X (.For tg iter body [] pos) (tFor wi g tb) := by
  intro pins s σ H D I h
  refine wpAny_For (thn (hi pins s σ H _ I h) fun v s1 h1 => thn h1 fun itv s2 h2 => ?_) hs
  obtain ⟨it, fp, tn, J, H2, e, I2, T, st2, f2, W, ⟨m0, w0⟩, turn⟩ := h2
  subst e
  have stat : ∀ {H' : Hp}, (∀ b ∈ fp, H' b = none) → ∀ b ∈ fp, FpOk X pins H' b := fun hn b hb => ⟨hn b hb, (f2 b hb).2⟩
  refine codeAny_forLoop_any (fun n s' => ∃ i σ' H', Inv X pins σ' H' s' ∧ tn i s'.heap ∧ (∀ b ∈ fp, H' b = none) ∧ W i n σ' H') ?_ m0 ⟨0, σ, H2, I2, st2, fun b hb => (f2 b hb).1, w0⟩
  rintro n s3 ⟨i, σ3, H3, I3, st3, fr3, w3⟩
  rcases turn i n σ3 H3 w3 with ⟨stop, qn⟩ | ⟨go, N, hN, step⟩
  · refine wpAny_passesOwn hp (thn (T.done X rfl rfl rfl hc i pins s3 σ3 H3 X.xe I3 (stat fr3) st3 stop) fun r s4 ⟨hr, I4⟩ => ?_)
    subst hr
    exact wpAny_execs_nil ⟨σ3, H3, I4, qn⟩
  · refine wpAny_passesOwn hp (thn (T.item X rfl rfl rfl hc i pins s3 σ3 H3 X.xe I3 (stat fr3) st3 go) fun r s4 ⟨u, hr, h4⟩ => ?_)
    subst hr
    refine wpAny_passesOwn hp (thn h4 fun _ s5 ⟨x, H5, I5, r5, y5, st5, fr5⟩ => ?_)
    have I5' := I5.pinned (stat fr5) (T.obj _ _ st5)
    refine wpAny_passesOwn hp (thn (hg _ s5 σ3 H5 x u _ I5' r5 (step x H5 y5)) fun _ s6 ⟨σ6, H6, I6, q6⟩ => ?_)
    refine wpAny_passesOwn hp (thn (hb _ s6 σ6 H6 _ I6 q6) fun f s7 q7 => ?_)
    have again : ∀ {σ7 : St} {H7 : Hp}, Inv X (pins ++ pinsAt fp s5.heap) σ7 H7 s7 → N σ7 H7 → ∃ m, m < n ∧ ∃ i σ' H', Inv X pins σ' H' s7 ∧ tn i s7.heap ∧ (∀ b ∈ fp, H' b = none) ∧ W i m σ' H' := fun {σ7 H7} I7 n7 => by
      obtain ⟨m', hm, w7⟩ := hN σ7 H7 n7
      refine ⟨m', hm, i + 1, σ7, H7, I7.unpinned, T.keep _ _ _ st5 fun b hb o e => (I7.pin (b, o) (List.mem_append_right _ (List.mem_append_right _ (mem_pinsAt hb e)))).1, fun b hb => ?_, w7⟩
      obtain ⟨o, e, d⟩ := T.obj _ _ st5 b hb
      exact (I7.pin (b, o) (List.mem_append_right _ (List.mem_append_right _ (mem_pinsAt hb e)))).2.1
    cases f with
    | next => obtain ⟨σ7, H7, I7, n7⟩ := q7; exact again I7 n7
    | cont => obtain ⟨σ7, H7, I7, n7⟩ := q7; exact again I7 n7
    | brk => obtain ⟨σ7, H7, I7, q7⟩ := q7; exact ⟨σ7, H7, I7.unpinned, q7⟩
    | ret v => obtain ⟨x7, σ7, H7, I7, r7, q7⟩ := q7; exact ⟨x7, σ7, H7, I7.unpinned, r7, q7⟩
end
theorem for_range {lo : Int} {n : Nat} {g : TG} {tb : TS} {D : Ends} {σ : St} {H : Hp} (Pv : Nat → St → Hp → Prop) (h0 : Pv 0 σ H)
    (hs : ∀ i σ H, i < n → Pv i σ H → g (.int (lo + i)) σ H fun σ2 H2 => tb { D with nx := Pv (i + 1), ct := Pv (i + 1), bk := D.nx } σ2 H2) (hd : ∀ σ H, Pv n σ H → D.nx σ H) :
    ∃ W : Nat → Nat → St → Hp → Prop, (∃ m, W 0 m σ H) ∧ ∀ i m σ H, W i m σ H →
      ((Itr lo n).stop i H ∧ D.nx σ H) ∨ ((Itr lo n).go i H ∧ ∃ N : St → Hp → Prop, (∀ σ' H', N σ' H' → ∃ m', m' < m ∧ W (i + 1) m' σ' H') ∧ ∀ x H', (Itr lo n).yld i H x H' → g x σ H' fun σ2 H2 => tb { D with nx := N, ct := N, bk := D.nx } σ2 H2) := by
  refine ⟨fun i m σ H => m = n - i ∧ i ≤ n ∧ Pv i σ H, ⟨n, by simp, Nat.zero_le _, h0⟩, ?_⟩
  rintro i m σ H ⟨rfl, hi, p⟩
  by_cases hlt : i < n
  · refine .inr ⟨hlt, Pv (i + 1), fun σ' H' p' => ⟨n - (i + 1), by omega, rfl, hlt, p'⟩, fun x H' y => ?_⟩
    obtain ⟨e, y⟩ := y
    subst e y
    exact hs i σ _ hlt p
  · have e : i = n := by omega
    subst e
    exact .inl ⟨Nat.le_refl _, hd σ H p⟩
end L2
namespace L2
open PySem PySem.Spec PyProof.Rows
abbrev R2 := V → V → Hp → VK → Prop
def OpR (X : Cx) (f : Value → Value → Sem Value) (r : R2) : Prop :=
  ∀ (pins : List (Addr × Obj)) (s : Shared) (σ : St) (H : Hp) (x y : V) (v u : Value) (Q : VK), Inv X pins σ H s → RelV x v → RelV y u → r x y H Q →
    wpAny (model X.prog X.w) X.A (f v u) (EP X pins σ Q) X.xe s
def UnR (X : Cx) (f : Value → Sem Value) (r : V → Hp → VK → Prop) : Prop :=
  ∀ (pins : List (Addr × Obj)) (s : Shared) (σ : St) (H : Hp) (x : V) (v : Value) (Q : VK), Inv X pins σ H s → RelV x v → r x H Q →
    wpAny (model X.prog X.w) X.A (f v) (EP X pins σ Q) X.xe s
def CallR (X : Cx) (f : Value) (r : List V → Hp → VK → Prop) : Prop :=
  ∀ (pins : List (Addr × Obj)) (s : Shared) (σ : St) (H : Hp) (xs : List V) (us : List Value) (Q : VK), Inv X pins σ H s → Vals xs us → r xs H Q →
    wpAny (model X.prog X.w) X.A (call f us) (EP X pins σ Q) X.xe s
def tOp (r : R2) (ta tb : TE) : TE := fun σ H Q => ta σ H fun x H1 => tb σ H1 fun y H2 => r x y H2 Q
def tUn (r : V → Hp → VK → Prop) (ta : TE) : TE := fun σ H Q => ta σ H fun x H1 => r x H1 Q
def rI (C : Int → Int → Prop) (g : Int → Int → V) : R2 := fun x y H Q => ∃ i j, x = .int i ∧ y = .int j ∧ C i j ∧ Q (g i j) H
def rI0 (g : Int → Int → V) : R2 := fun x y H Q => ∃ i j, x = .int i ∧ y = .int j ∧ Q (g i j) H
def rU (g : Int → V) : V → Hp → VK → Prop := fun x H Q => ∃ i, x = .int i ∧ Q (g i) H
section
variable {X : Cx} {a b c : Expr} {ta tb tc : TE} {pos : Pos}
theorem binT (ha : PE X a ta) (hb : PE X b tb) {pins : List (Addr × Obj)} {s : Shared} {σ : St} {H : Hp} {R : V → V → Hp → Prop} (I : Inv X pins σ H s)
    (h : ta σ H fun x H1 => tb σ H1 fun y H2 => R x y H2) {Q : Value → Shared → Prop} {f : Value → Value → Sem Value}
    (hf : ∀ v u s2 x y H2, Inv X pins σ H2 s2 → RelV x v → RelV y u → R x y H2 → wpAny (model X.prog X.w) X.A (f v u) Q X.xe s2) :
    wpAny (model X.prog X.w) X.A (eval a X.env) (fun v s₁ => wpAny (model X.prog X.w) X.A (eval b X.env) (fun u s₂ => wpAny (model X.prog X.w) X.A (f v u) Q X.xe s₂) X.xe s₁) X.xe s := by
  refine thn (ha pins s σ H _ I h) fun v s1 ⟨x, H1, I1, r1, q1⟩ => ?_
  refine thn (hb pins s1 σ H1 _ I1 q1) fun u s2 ⟨y, H2, I2, r2, q2⟩ => ?_
  exact hf v u s2 x y H2 I2 r1 r2 q2
theorem pe_op {op : Operator} {r : R2} (ho : OpR X (binaryOp op) r) (ha : PE X a ta) (hb : PE X b tb) : PE X (.BinOp a op b pos) (tOp r ta tb) := by
  intro pins s σ H Q I h
  exact wpAny_BinOp (binT ha hb I h fun v u s2 x y H2 I2 rx ry q => ho pins s2 σ H2 x y v u Q I2 rx ry q)
theorem pe_un {op : UnaryOp} {r : V → Hp → VK → Prop} (ho : UnR X (unaryOp op) r) (ha : PE X a ta) : PE X (.UnaryOp op a pos) (tUn r ta) := by
  intro pins s σ H Q I h
  exact UnaryOp_ (thn (ha pins s σ H _ I h) fun v s1 ⟨x, H1, I1, r1, q1⟩ => ho pins s1 σ H1 x v Q I1 r1 q1)
theorem opI {f : Value → Value → Sem Value} {C : Int → Int → Prop} {g : Int → Int → Int}
    (rule : ∀ (i j : Int) (t u : Tok) (s : Shared) (Q : Value → Shared → Prop) (E : Value → Shared → Prop), C i j → Q (.int (g i j) s.toks) { s with toks := s.toks + 1 } → wpAny (model X.prog X.w) X.A (f (.int i t) (.int j u)) Q E s) :
    OpR X f (rI C fun i j => .int (g i j)) := by
  intro pins s σ H x y v u Q I rx ry h
  obtain ⟨i, j, rfl, rfl, hc, q⟩ := h
  obtain ⟨t, rfl⟩ := rx
  obtain ⟨t', rfl⟩ := ry
  exact rule i j t t' s _ _ hc ⟨.int (g i j), H, I.tok _, ⟨_, rfl⟩, q⟩
theorem opI0 {f : Value → Value → Sem Value} {g : Int → Int → Int}
    (rule : ∀ (i j : Int) (t u : Tok) (s : Shared) (Q : Value → Shared → Prop) (E : Value → Shared → Prop), Q (.int (g i j) s.toks) { s with toks := s.toks + 1 } → wpAny (model X.prog X.w) X.A (f (.int i t) (.int j u)) Q E s) :
    OpR X f (rI0 fun i j => .int (g i j)) := by
  intro pins s σ H x y v u Q I rx ry h
  obtain ⟨i, j, rfl, rfl, q⟩ := h
  obtain ⟨t, rfl⟩ := rx
  obtain ⟨t', rfl⟩ := ry
  exact rule i j t t' s _ _ ⟨.int (g i j), H, I.tok _, ⟨_, rfl⟩, q⟩
theorem opB0 {f : Value → Value → Sem Value} {g : Int → Int → Bool}
    (rule : ∀ (i j : Int) (t u : Tok) (s : Shared) (Q : Value → Shared → Prop) (E : Value → Shared → Prop), Q (.bool (g i j)) s → wpAny (model X.prog X.w) X.A (f (.int i t) (.int j u)) Q E s) :
    OpR X f (rI0 fun i j => .bl (g i j)) := by
  intro pins s σ H x y v u Q I rx ry h
  obtain ⟨i, j, rfl, rfl, q⟩ := h
  obtain ⟨t, rfl⟩ := rx
  obtain ⟨t', rfl⟩ := ry
  exact rule i j t t' s _ _ ⟨.bl (g i j), H, I, rfl, q⟩
def CPow (i j : Int) : Prop := 0 ≤ j ∧ j ≤ 1000000 ∧ i.natAbs < 2 ^ 64
def CMul (i j : Int) : Prop := (-(2 ^ 64) < i ∧ i < 2 ^ 64) ∨ (-(2 ^ 64) < j ∧ j < 2 ^ 64)
theorem CMul.ok {i j : Int} (h : CMul i j) : IntMulOk i j := by
  rcases h with ⟨h1, h2⟩ | ⟨h1, h2⟩
  · exact .of_left (intBits_le_64 h1 h2)
  · exact .of_right (intBits_le_64 h1 h2)
theorem op_add : OpR X (binaryOp .Add) (rI0 fun i j => .int (i + j)) := opI0 fun _ _ _ _ _ _ _ q => add_int q
theorem op_sub : OpR X (binaryOp .Sub) (rI0 fun i j => .int (i - j)) := opI0 fun _ _ _ _ _ _ _ q => sub_int q
theorem op_mul : OpR X (binaryOp .Mult) (rI CMul fun i j => .int (i * j)) := opI fun _ _ _ _ _ _ _ hc q => mul_int q hc.ok
theorem op_mod : OpR X (binaryOp .Mod) (rI (fun _ j => 0 < j) fun i j => .int (i % j)) := opI fun i j _ _ _ _ _ hc q => by
  have h1 : (0 : Int) < j := hc
  exact mod_int' (by omega) (by rw [Int.fmod_eq_emod_of_nonneg i (by omega)]; exact q)
theorem op_pow : OpR X (binaryOp .Pow) (rI CPow fun i j => .int (i ^ j.toNat)) := opI fun _ _ _ _ _ _ _ hc q => pow_int_small hc.1 hc.2.1 hc.2.2 q
theorem unI {f : Value → Sem Value} {g : Int → Int}
    (rule : ∀ (i : Int) (t : Tok) (s : Shared) (Q : Value → Shared → Prop) (E : Value → Shared → Prop), Q (.int (g i) s.toks) { s with toks := s.toks + 1 } → wpAny (model X.prog X.w) X.A (f (.int i t)) Q E s) :
    UnR X f (rU fun i => .int (g i)) := by
  intro pins s σ H x v Q I rx h
  obtain ⟨i, rfl, q⟩ := h
  obtain ⟨t, rfl⟩ := rx
  exact rule i t s _ _ ⟨.int (g i), H, I.tok _, ⟨_, rfl⟩, q⟩
theorem un_neg : UnR X (unaryOp .USub) (rU fun i => .int (-i)) := unI fun _ _ _ _ _ q => neg_int q
end
def scal : V → V → Bool
  | .non, .non => true | .non, .int _ => true | .int _, .non => true | .non, .bl _ => true | .bl _, .non => true | .non, .str _ => true | .str _, .non => true
  | .int _, .int _ => true | .bl _, .bl _ => true | .str _, .str _ => true | .byt _, .byt _ => true
  | .int _, .str _ => true | .str _, .int _ => true | .bl _, .str _ => true | .str _, .bl _ => true
  | _, _ => false
def rEq : R2 := fun x y H Q => scal x y = true ∧ Q (.bl (decide (x = y))) H
theorem dec_int {i j : Int} : decide (V.int i = V.int j) = (i == j) := by
  rw [Bool.eq_iff_iff]
  simp
theorem dec_bl {i j : Bool} : decide (V.bl i = V.bl j) = (i == j) := by
  rw [Bool.eq_iff_iff]
  simp
theorem dec_str {i j : Str} : decide (V.str i = V.str j) = (i == j) := by
  rw [Bool.eq_iff_iff]
  simp
theorem dec_byt {i j : Array UInt8} : decide (V.byt i = V.byt j) = (i.toList == j.toList) := by
  rw [Bool.eq_iff_iff]
  cases i
  cases j
  simp
section
variable {X : Cx} {a b c : Expr} {ta tb tc : TE} {pos : Pos}
theorem fin_bl {pins : List (Addr × Obj)} {σ : St} {H : Hp} {s : Shared} {Q : VK} {k k' : Bool} (I : Inv X pins σ H s) (q : Q (.bl k) H) (e : k = k') : EP X pins σ Q (.bool k') s := by
  subst e
  exact ⟨.bl k, H, I, rfl, q⟩
theorem op_eq : OpR X (compareOp .Eq) rEq := by
  intro pins s σ H x y v u Q I rx ry h
  obtain ⟨hs, q⟩ := h
  cases x with
  | non =>
    cases rx
    cases y with
    | non => cases ry; exact PySem.EqNone.eq_none_none (fin_bl I q (by simp))
    | bl j => cases ry; exact PySem.EqNone.eq_none_bool (fin_bl I q (by simp))
    | int j => obtain ⟨t', rfl⟩ := ry; exact PySem.EqNone.eq_none_int (fin_bl I q (by simp))
    | str j => obtain ⟨t', rfl⟩ := ry; exact PySem.EqNone.eq_none_str (fin_bl I q (by simp))
    | _ => exact absurd (show false = true from hs) Bool.false_ne_true
  | bl i =>
    cases rx
    cases y with
    | non => cases ry; exact PySem.EqNone.eq_bool_none (fin_bl I q (by simp))
    | bl j => cases ry; exact eq_bool (fin_bl I q dec_bl)
    | str j => obtain ⟨t', rfl⟩ := ry; exact PySem.EqMixed.eq_bool_str (fin_bl I q (by simp))
    | _ => exact absurd (show false = true from hs) Bool.false_ne_true
  | int i =>
    obtain ⟨t, rfl⟩ := rx
    cases y with
    | non => cases ry; exact PySem.EqNone.eq_int_none (fin_bl I q (by simp))
    | int j => obtain ⟨t', rfl⟩ := ry; exact eq_int (fin_bl I q dec_int)
    | str j => obtain ⟨t', rfl⟩ := ry; exact PySem.EqMixed.eq_int_str (fin_bl I q (by simp))
    | _ => exact absurd (show false = true from hs) Bool.false_ne_true
  | str i =>
    obtain ⟨t, rfl⟩ := rx
    cases y with
    | non => cases ry; exact PySem.EqNone.eq_str_none (fin_bl I q (by simp))
    | bl j => cases ry; exact PySem.EqMixed.eq_str_bool (fin_bl I q (by simp))
    | int j => obtain ⟨t', rfl⟩ := ry; exact PySem.EqMixed.eq_str_int (fin_bl I q (by simp))
    | str j => obtain ⟨t', rfl⟩ := ry; exact eq_str (fin_bl I q dec_str)
    | _ => exact absurd (show false = true from hs) Bool.false_ne_true
  | byt i =>
    obtain ⟨t, rfl⟩ := rx
    cases y with
    | byt j => obtain ⟨t', rfl⟩ := ry; exact PySem.W.eq_bytes (fin_bl I q dec_byt)
    | _ => exact absurd (show false = true from hs) Bool.false_ne_true
  | _ => cases y <;> exact absurd (show false = true from hs) Bool.false_ne_true
theorem op_lt : OpR X (compareOp .Lt) (rI0 fun i j => .bl (decide (i < j))) := opB0 fun _ _ _ _ _ _ _ q => lt_int q
theorem op_le : OpR X (compareOp .LtE) (rI0 fun i j => .bl (decide (i ≤ j))) := opB0 fun _ _ _ _ _ _ _ q => le_int q
theorem op_gt : OpR X (compareOp .Gt) (rI0 fun i j => .bl (decide (j < i))) := opB0 fun _ _ _ _ _ _ _ q => gt_int q
theorem op_ge : OpR X (compareOp .GtE) (rI0 fun i j => .bl (decide (j ≤ i))) := opB0 fun _ _ _ _ _ _ _ q => ge_int q
theorem op_isN : OpR X (compareOp .Is) (fun x y H Q => y = .non ∧ Q (.bl (decide (x = .non))) H) := by
  intro pins s σ H x y v u Q I rx ry h
  obtain ⟨rfl, q⟩ := h
  cases ry
  refine is_none_gen (fin_bl I q ?_)
  cases x <;> first
    | (cases rx; rfl)
    | (obtain ⟨t, rfl⟩ := rx; rfl)
theorem op_notN : OpR X (compareOp .IsNot) (fun x y H Q => y = .non ∧ Q (.bl (!decide (x = .non))) H) := by
  intro pins s σ H x y v u Q I rx ry h
  obtain ⟨rfl, q⟩ := h
  cases ry
  refine isnot_none_gen (fin_bl I q ?_)
  cases x <;> first
    | (cases rx; rfl)
    | (obtain ⟨t, rfl⟩ := rx; rfl)
theorem nomark (b : Expr) {op : CmpOp} (h : op ≠ .In := by decide) (h2 : op ≠ .NotIn := by decide) : behindInMarks op b = false := by
  have e1 : (op == CmpOp.In) = false := by cases op <;> first | rfl | exact absurd rfl h
  have e2 : (op == CmpOp.NotIn) = false := by cases op <;> first | rfl | exact absurd rfl h2
  cases b <;> simp [behindInMarks, e1, e2]
theorem pe_cmpR {op : CmpOp} {r : R2} (ho : OpR X (compareOp op) r) (ha : PE X a ta) (hb : PE X b tb) (hm : behindInMarks op b = false) : PE X (.Compare a [op] [b] pos) (tOp r ta tb) := by
  intro pins s σ H Q I h
  exact wpAny_Compare1 (binT ha hb I h fun v u s2 x y H2 I2 rx ry q => ho pins s2 σ H2 x y v u Q I2 rx ry q) hm
def tTest (t : TE) : TT := fun σ H Q => t σ H fun x H' => ∃ k, x = .bl k ∧ Q k H'
theorem pt_cmpR {op : CmpOp} {r : R2} (ho : OpR X (compareOp op) r) (ha : PE X a ta) (hb : PE X b tb) (hm : behindInMarks op b = false) : PT X (.Compare a [op] [b] pos) (tTest (tOp r ta tb)) := by
  intro pins s σ H Q I h
  refine wpAny_isTrue_Compare1 (thn (ha pins s σ H _ I h) fun v s1 ⟨x, H1, I1, r1, q1⟩ => thn (hb pins s1 σ H1 _ I1 q1) fun u s2 ⟨y, H2, I2, r2, q2⟩ =>
    thn (ho pins s2 σ H2 x y v u _ I2 r1 r2 q2) fun c s3 ⟨z, H3, I3, r3, k, e, q3⟩ => ?_) hm
  subst e
  cases r3
  exact wpAny_truthy_bool ⟨H3, I3, q3⟩
theorem line63 : (sizeLine : Nat) < 2 ^ 63 := by rw [sizeLine_eq]; decide
theorem op_add_str : OpR X (binaryOp .Add) (fun x y H Q => ∃ i j, x = .str i ∧ y = .str j ∧ i.length + j.length ≤ sizeLine ∧ Q (.str (i ++ j)) H) := by
  intro pins s σ H x y v u Q I rx ry h
  obtain ⟨i, j, rfl, rfl, hz, q⟩ := h
  obtain ⟨t, rfl⟩ := rx
  obtain ⟨t', rfl⟩ := ry
  exact add_str (fun t' tk => ⟨.str (i ++ j), H, I.tok _, ⟨_, rfl⟩, q⟩) hz
theorem vals1 {x : V} {us : List Value} (r : Vals [x] us) : ∃ u, us = [u] ∧ RelV x u := by
  cases r with
  | cons r1 r2 => cases r2; exact ⟨_, rfl, r1⟩
theorem vals2 {x y : V} {us : List Value} (r : Vals [x, y] us) : ∃ u w', us = [u, w'] ∧ RelV x u ∧ RelV y w' := by
  cases r with
  | cons r1 r2 =>
    cases r2 with
    | cons r3 r4 => cases r4; exact ⟨_, _, rfl, r1, r3⟩
theorem call_int1 : CallR X (.type "int") (fun xs H Q => (∃ i, xs = [.int i] ∧ Q (.int i) H) ∨ ∃ k, xs = [.bl k] ∧ Q (.int (if k then 1 else 0)) H) := by
  intro pins s σ H xs us Q I r h
  rcases h with ⟨i, rfl, q⟩ | ⟨k, rfl, q⟩
  · obtain ⟨u, rfl, t, rfl⟩ := vals1 r
    exact call_int_int ⟨.int i, H, I, ⟨_, rfl⟩, q⟩
  · obtain ⟨u, rfl, r1⟩ := vals1 r
    cases r1
    exact call_int_bool ⟨.int (if k then 1 else 0), H, I.tok _, ⟨_, rfl⟩, q⟩
end
end L2
namespace L2
open PySem PySem.Spec PyProof.Rows
structure ObjM (h : Heap) (x dx C : Addr) (mA : Str → Option Value) : Prop where
  obj : h.get? x = some (PySem.W.instObj C dx)
  ns : h.Ns1 dx mA
  ne : dx ≠ x
theorem lookIn_ns {h : Heap} {dx : Addr} {mA : Str → Option Value} (n : h.Ns1 dx mA) : ∃ od, h.get? dx = some od ∧ ∀ name, PySem.W.lookIn name od = some (mA name) := by
  obtain ⟨o, es, ep, ho, hd, hk, _, hm⟩ := n
  refine ⟨o, ho, fun name => ?_⟩
  have e := hm name
  unfold nsFind findBy at e
  rw [← Array.find?_toList] at e
  unfold PySem.W.lookIn
  rw [hd]
  dsimp only
  split
  · rename_i y q
    rw [q] at e
    exact congrArg some e
  · rename_i q
    rw [q] at e
    have a : es.toList.any (·.refKey) = false := by
      rw [List.any_eq_false]
      intro y hy
      obtain ⟨z, t, hkey⟩ := hk y (Array.mem_toList_iff.mp hy)
      simp [DictEntry.refKey, hkey]
    have a' : ¬ es.toList.any (·.refKey) = true := by rw [a]; exact Bool.false_ne_true
    rw [if_neg a']
    exact congrArg some e
theorem ObjM.look {h : Heap} {x dx C : Addr} {mA : Str → Option Value} (I : ObjM h x dx C mA) : ∃ od, PySem.W.InstAt h x (PySem.W.instObj C dx) C (some od) ∧ ∀ name, PySem.W.lookIn name od = some (mA name) :=
  let ⟨od, ho, hl⟩ := lookIn_ns I.ns
  ⟨od, ⟨I.obj, rfl, rfl, ho⟩, hl⟩
section
variable {prog : Program} {w : World} {A : Around} {E : Value → Shared → Prop} {s : Shared} {K : PySem.W.Frag} {x dx C f : Addr} {mA : Str → Option Value} {name : Str} {v : Value}
theorem get_map {expr : Bool} {Q : Value → Shared → Prop} (X : K.In s.heap) (I : ObjM s.heap x dx C mA) (hg : PySem.W.plainGet K C name = true) (hh : PySem.W.hasDictIn K C = true)
    (ha : PySem.W.findIn K (.ref C) name = some none) (hv : mA name = some v) (hv' : PySem.W.handedIn v = true) (h : Q v { s with toks := s.toks + 1 }) :
    wpAny (model prog w) A (getAttr (.ref x) name expr) Q E s := by
  obtain ⟨od, J, hl⟩ := I.look
  exact PySem.W.get_value X J (PySem.W.plainGet_of hg).1 (PySem.W.findObj_own hh ha rfl (by rw [hl, hv])) hv' h
theorem set_map {ns : List Str} {Q : Unit → Shared → Prop} (X : K.In s.heap) (I : ObjM s.heap x dx C mA)
    (hs : PySem.W.findIn K (.ref C) "__setattr__" = some (some (.builtin "object.__setattr__"))) (hp : PySem.W.plainOver K C = true) (ht : PySem.W.takerIn K C name = some none) (hh : PySem.W.hasDictIn K C = true)
    (hw : PySem.Within mA ns) (hsz : ns.length ≤ sizeLine)
    (h : ∀ h', ObjM h' x dx C (fun y => if y = name then some v else mA y) → Heap.SameBut dx s.heap h' → Q () { s with heap := h', toks := s.toks + 2 }) :
    wpAny (model prog w) A (setAttr (.ref x) name v) Q E s := by
  obtain ⟨od, J, hl⟩ := I.look
  refine PySem.W.set_plain X J hs (PySem.W.osa_open (s := { s with toks := s.toks + 1 }) (r := none) X J hp ht fun b => ?_)
  obtain ⟨cd, hc, hd'⟩ := PySem.W.any_some hh
  have hx : s.heap.get? x = some ⟨.ref C, some dx, .plain, #[]⟩ := I.obj
  refine wpAny_bind (wpAny_pure (wpAny_bind (wpAny_bind (wpAny_loadPart hx (wpAny_bind (PySem.W.Looks.here (s := { s with toks := s.toks + 1 }) (PySem.W.looks_clsIn X hc) ?_))))))
  rw [hd']
  refine wpAny_pure (a := some dx) (wpAny_bind (wpAny_pure (wpAny_bind ?_)))
  refine wpAny_nsSet1 (s := { s with toks := s.toks + 1 }) I.ns fun h' hn2 hs2 => ?_
  obtain ⟨oD, esD, epD, hoD, hdD, hcD⟩ := hn2.count (PySem.Within.cons name v hw)
  refine wpAny_bind (wpAny_lookBehind hoD (by rw [hdD]; exact pastItsLine_dict (Nat.le_trans hcD (by rw [List.length_cons]; omega))) ?_)
  exact wpAny_pure (h _ ⟨(hs2.2 _ (Ne.symm I.ne)).trans I.obj, hn2, I.ne⟩ hs2)
theorem make_map {R : Result → Shared → Prop} {vs : List Value} {kw : List (Str × Value)} (X : K.In s.heap) (hm : PySem.W.makesIn K C = true)
    (hi : PySem.W.findIn K (.ref C) "__init__" = some (some (.ref f))) (hf : PySem.W.typeIn K (.ref f) = some (.type "function"))
    (h : codeAny (model prog w) (A.under (.builtin "type.__call__" ⟨.ref C :: vs, kw⟩)) (.call (.ref f) ⟨.ref (s.heap.objs.size + 1) :: vs, kw⟩) (PySem.W.InitBack (s.heap.objs.size + 1) R)
      { s with heap := (s.heap.push PySem.W.emptyDict).push (PySem.W.instObj C s.heap.objs.size) }) :
    codeAny (model prog w) A (.call (.ref C) ⟨vs, kw⟩) R s := by
  obtain ⟨hh, g, d, t, os⟩ := s
  exact PySem.W.make_core (PySem.W.makes_of X hm) (PySem.W.looks_findIn X hi) (fun self => PySem.W.bind_fn X self hf) (.inl rfl) h
end
def putF (f : Str) (v : V) : List (Str × V) → List (Str × V)
  | [] => [(f, v)]
  | (g, x) :: r => if g = f then (g, v) :: r else (g, x) :: putF f v r
theorem lookup_putF (f g : Str) (v : V) : ∀ fs : List (Str × V), (putF f v fs).lookup g = if g = f then some v else fs.lookup g
  | [] => by
    show List.lookup g [(f, v)] = _
    by_cases h : g = f
    · have hb : (g == f) = true := beq_iff_eq.mpr h
      simp only [List.lookup, hb, if_pos h]
    · have hb : (g == f) = false := beq_eq_false_iff_ne.mpr h
      simp only [List.lookup, hb, if_neg h]
  | (k, x) :: r => by
    have ih := lookup_putF f g v r
    rw [show putF f v ((k, x) :: r) = (if k = f then (k, v) :: r else (k, x) :: putF f v r) from rfl]
    by_cases hk : k = f
    · rw [if_pos hk]
      by_cases h : g = k
      · have hb : (g == k) = true := beq_iff_eq.mpr h
        simp only [List.lookup, hb, if_pos (h.trans hk)]
      · have hb : (g == k) = false := beq_eq_false_iff_ne.mpr h
        simp only [List.lookup, hb, if_neg (fun e : g = f => h (e.trans hk.symm))]
    · rw [if_neg hk]
      by_cases h : g = k
      · have hb : (g == k) = true := beq_iff_eq.mpr h
        simp only [List.lookup, hb, if_neg (fun e : g = f => hk (h.symm.trans e))]
      · have hb : (g == k) = false := beq_eq_false_iff_ne.mpr h
        simp only [List.lookup, hb]
        exact ih
theorem keys_putF (f : Str) (v : V) : ∀ fs : List (Str × V), f ∈ (putF f v fs).map (·.1) ∧ ∀ g, g ∈ fs.map (·.1) → g ∈ (putF f v fs).map (·.1)
  | [] => ⟨by simp [putF], fun g h => by simp at h⟩
  | (k, x) :: r => by
    obtain ⟨i1, i2⟩ := keys_putF f v r
    rw [show putF f v ((k, x) :: r) = (if k = f then (k, v) :: r else (k, x) :: putF f v r) from rfl]
    by_cases hk : k = f
    · rw [if_pos hk]
      subst hk
      exact ⟨by simp, fun g h => by simpa using h⟩
    · rw [if_neg hk]
      refine ⟨?_, fun g h => ?_⟩
      · rw [List.map_cons]
        exact List.mem_cons_of_mem _ i1
      · rw [List.map_cons] at h ⊢
        rcases List.mem_cons.mp h with e | e
        · exact List.mem_cons.mpr (.inl e)
        · exact List.mem_cons_of_mem _ (i2 g e)
theorem length_putF (f : Str) (v : V) : ∀ fs : List (Str × V), (putF f v fs).length ≤ fs.length + 1
  | [] => by simp [putF]
  | (k, x) :: r => by
    have ih := length_putF f v r
    rw [show putF f v ((k, x) :: r) = (if k = f then (k, v) :: r else (k, x) :: putF f v r) from rfl]
    by_cases hk : k = f
    · rw [if_pos hk, List.length_cons, List.length_cons]; omega
    · rw [if_neg hk, List.length_cons, List.length_cons]; omega
theorem RelO.some_of {v : V} {o : Option Value} (r : RelO (some v) o) : ∃ u, o = some u ∧ RelV v u := by
  cases o with
  | none => exact (show False from r).elim
  | some u => exact ⟨u, rfl, r⟩
theorem handed_of {v : V} {u : Value} (r : RelV v u) : PySem.W.handedIn u = true := by
  cases v with
  | non => cases (show u = Value.none from r); rfl
  | bl b => cases (show u = Value.bool b from r); rfl
  | int i => obtain ⟨t, e⟩ := (show ∃ t, u = Value.int i t from r); cases e; rfl
  | str x => obtain ⟨t, e⟩ := (show ∃ t, u = Value.str x t from r); cases e; rfl
  | byt b => obtain ⟨t, e⟩ := (show ∃ t, u = Value.bytes b t from r); cases e; rfl
  | flt b => obtain ⟨t, e⟩ := (show ∃ t, u = Value.float b t from r); cases e; rfl
  | ref a => cases (show u = Value.ref a from r); rfl
  | ty n => cases (show u = Value.type n from r); rfl
section
variable {P : Program} {w : World} {H H' : Hp} {h h' : Heap} {a C dx : Addr} {fs fs' : List (Str × V)}
theorem ins_get (hok : HOk P w H h) (e : H a = some (.ins C dx fs)) : ∃ mA, ObjM h a dx C mA ∧ (∀ f, RelO (fs.lookup f) (mA f)) ∧ PySem.Within mA (fs.map (·.1)) ∧ fs.length ≤ 1000 ∧ H dx = some (.own a) := by
  obtain ⟨d, z, ne, ob, mA, n, r, q⟩ := (show ObjOk P w H h a (.ins C dx fs) from hok a _ e)
  exact ⟨mA, ⟨ob, n, ne⟩, r, q, z, d⟩
end
structure Cls (K : PySem.W.Frag) (C : Addr) : Prop where
  pg : PySem.W.plainGet K C Str.empty = true
  hd : PySem.W.hasDictIn K C = true
  po : PySem.W.plainOver K C = true
  sa : PySem.W.findIn K (.ref C) "__setattr__" = some (some (.builtin "object.__setattr__"))
theorem Cls.get {K : PySem.W.Frag} {C : Addr} (c : Cls K C) (f : Str) : PySem.W.plainGet K C f = true := c.pg
def NoAttr (K : PySem.W.Frag) (C : Addr) (f : Str) : Prop := PySem.W.findIn K (.ref C) f = some none
theorem NoAttr.taker {K : PySem.W.Frag} {C : Addr} {f : Str} (n : NoAttr K C f) : PySem.W.takerIn K C f = some none := by
  unfold PySem.W.takerIn
  rw [show PySem.W.findIn K (.ref C) f = some none from n]
  rfl
section
variable {X : Cx} {pins : List (Addr × Obj)} {σ : St} {H : Hp} {s : Shared} {a C dx : Addr} {fs : List (Str × V)} {f : Str} {v : V} {A : Around} {E : Value → Shared → Prop}
theorem getattr_ok {b : Bool} {Q : Value → Shared → Prop} (I : Inv X pins σ H s) (e : H a = some (.ins C dx fs)) (c : Cls X.K C) (n : NoAttr X.K C f) (l : fs.lookup f = some v)
    (h : ∀ u s', Inv X pins σ H s' → RelV v u → Q u s') : wpAny (model X.prog X.w) A (getAttr (.ref a) f b) Q E s := by
  obtain ⟨mA, O, r, _, _, _⟩ := ins_get I.hok e
  obtain ⟨u, hu, ru⟩ := RelO.some_of (v := v) (o := mA f) (by rw [← l]; exact r f)
  exact get_map I.kIn O (c.get f) c.hd n hu (handed_of ru) (h u _ (I.tok _) ru)
theorem setattr_ok {y : V} {u : Value} {Q : Unit → Shared → Prop} (I : Inv X pins σ H s) (e : H a = some (.ins C dx fs)) (c : Cls X.K C) (n : NoAttr X.K C f) (hl : fs.length < 1000) (ry : RelV y u)
    (h : ∀ s', Inv X pins σ (upd H a (.ins C dx (putF f y fs))) s' → Q () s') : wpAny (model X.prog X.w) A (setAttr (.ref a) f u) Q E s := by
  obtain ⟨mA, O, r, wi, _, ho⟩ := ins_get I.hok e
  have hz : (fs.map (·.1)).length ≤ sizeLine := by rw [List.length_map, sizeLine_eq]; omega
  refine set_map I.kIn O c.sa c.po n.taker c.hd wi hz fun h' O' sb => h _ ?_
  have hd : ∃ o, h'.get? dx = some o := let ⟨o, _, _, e', _⟩ := O'.ns; ⟨o, e'⟩
  refine I.write (x := a) (e := dx) (by rw [e]; exact True.intro) (.inr ho) (fun b q hb z => (sb.2 b hb).trans z) hd ?_
  refine ⟨by rw [upd_ne O.ne]; exact ho, ?_, O.ne, O'.obj, _, O'.ns, fun g => ?_, fun g hg => ?_⟩
  · have := length_putF f y fs; omega
  · show RelO ((putF f y fs).lookup g) (if g = f then some u else mA g)
    rw [lookup_putF]
    by_cases q : g = f
    · rw [if_pos q, if_pos q]; exact ry
    · rw [if_neg q, if_neg q]; exact r g
  · by_cases q : g = f
    · rw [q]; exact (keys_putF f y fs).1
    · refine (keys_putF f y fs).2 g (wi g fun z => hg ?_)
      show (if g = f then some u else mA g) = none
      rw [if_neg q]; exact z
theorem Inv.made (I : Inv X pins σ H s) : Inv X pins σ (upd (upd H s.heap.objs.size (.own (s.heap.objs.size + 1))) (s.heap.objs.size + 1) (.ins C s.heap.objs.size []))
    { s with heap := (s.heap.push PySem.W.emptyDict).push (PySem.W.instObj C s.heap.objs.size) } := by
  have e1 : (s.heap.push PySem.W.emptyDict).get? s.heap.objs.size = some PySem.W.emptyDict := Heap.get?_push_size s.heap rfl
  have e2 : ((s.heap.push PySem.W.emptyDict).push (PySem.W.instObj C s.heap.objs.size)).get? (s.heap.objs.size + 1) = some (PySem.W.instObj C s.heap.objs.size) := by
    have := Heap.get?_push_size (s.heap.push PySem.W.emptyDict) (o := PySem.W.instObj C s.heap.objs.size) rfl
    rwa [Heap.size_push] at this
  have e3 : (s.heap.push PySem.W.emptyDict).Ns s.heap.objs.size (fun _ => none) := ⟨PySem.W.emptyDict, #[], _, e1, rfl, (fun e he => absurd he (by simp)), fun _ => rfl⟩
  have I1 := I.laid (a := s.heap.objs.size) (o := .own (s.heap.objs.size + 1)) (h' := s.heap.push PySem.W.emptyDict) (t' := s.toks) (fun b u q => Heap.get?_push_of_some _ q) (Nat.le_refl _) ⟨_, e1⟩
  refine I1.laid (a := s.heap.objs.size + 1) (o := .ins C s.heap.objs.size []) (t' := s.toks) (fun b u q => Heap.get?_push_of_some _ q) (Nat.le_of_eq (Heap.size_push _ _)) ?_
  have ne : s.heap.objs.size ≠ s.heap.objs.size + 1 := Nat.ne_of_lt (Nat.lt_succ_self _)
  refine ⟨by rw [upd_ne ne, upd_same], Nat.zero_le _, ne, e2, fun _ => none, (Heap.Ns1.of_empty e3).at fun o q => Heap.get?_push_of_some _ q, fun _ => True.intro, fun y hy => absurd rfl hy⟩
theorem attr_of {prog : Program} {w : World} {env : Env} {e : Expr} {f : Str} {pos : Pos} {s : Shared} {Q : Value → Shared → Prop} (hb : attributeBase e f env (eval e env) = eval e env)
    (h : wpAny (model prog w) A (eval e env) (fun o s₁ => wpAny (model prog w) A (getAttr o f true) Q E s₁) E s) : wpAny (model prog w) A (eval (.Attribute e f pos) env) Q E s :=
  Attribute_any_ h (by rw [arm_eval_Attribute, hb])
end
def tFld (K : PySem.W.Frag) (ta : TE) (f : Str) : TE := fun σ H Q => ta σ H fun x H1 => ∃ a C dx fs v, x = .ref a ∧ H1 a = some (.ins C dx fs) ∧ Cls K C ∧ NoAttr K C f ∧ fs.lookup f = some v ∧ Q v H1
def sFld (K : PySem.W.Frag) (ta tv : TE) (f : Str) : TS := fun D σ H => tv σ H fun y H1 => ta σ H1 fun x H2 => ∃ a C dx fs, x = .ref a ∧ H2 a = some (.ins C dx fs) ∧ Cls K C ∧ NoAttr K C f ∧ fs.length < 1000 ∧
  D.nx σ (upd H2 a (.ins C dx (putF f y fs)))
def InOp (X : Cx) (op : Operator) (rd : V → V → Hp → VK → Prop) : Prop :=
  ∀ (pins : List (Addr × Obj)) (s : Shared) (σ : St) (H : Hp) (x y : V) (u v : Value) (Q : VK), Inv X pins σ H s → RelV x u → RelV y v → rd x y H Q → wpAny (model X.prog X.w) X.A (inplaceOp op u v) (EP X pins σ Q) X.xe s
def sFldAug (K : PySem.W.Frag) (ta tv : TE) (rd : V → V → Hp → VK → Prop) (f : Str) : TS := fun D σ H => ta σ H fun x H1 => ∃ a C dx fs v, x = .ref a ∧ H1 a = some (.ins C dx fs) ∧ Cls K C ∧ NoAttr K C f ∧ fs.lookup f = some v ∧
  tv σ H1 fun y H2 => rd v y H2 fun z H3 => ∃ dx' fs', H3 a = some (.ins C dx' fs') ∧ fs'.length < 1000 ∧ D.nx σ (upd H3 a (.ins C dx' (putF f z fs')))
section
variable {X : Cx} {o e value : Expr} {f : Str} {pos pos' tpos : Pos} {ta tv : TE}
theorem pe_fld (he : PE X e ta) (hb : attributeBase e f X.env (eval e X.env) = eval e X.env) : PE X (.Attribute e f pos) (tFld X.K ta f) := by
  intro pins s σ H Q I h
  refine attr_of hb (thn (he pins s σ H _ I h) fun u s1 ⟨x, H1, I1, rx, a, C, dx, fs, v, ex, ea, c, n, l, q⟩ => ?_)
  subst ex
  obtain rfl : u = Value.ref a := rx
  exact getattr_ok I1 ea c n l fun u' s2 I2 ru => ⟨v, H1, I2, ru, q⟩
theorem ps_fld (ha : PE X o ta) (hv : PE X value tv) (hs : swapsWith value (some (.Attribute o f pos')) pos.line X.env = pure false) : PS X (.Assign [.Attribute o f pos'] value pos) (sFld X.K ta tv f) := by
  intro pins s σ H D I h
  refine plainObj_wpAny_Assign_Attribute (thn (hv pins s σ H _ I h) fun u s1 ⟨y, H1, I1, ry, q⟩ => thn (ha pins s1 σ H1 _ I1 q) fun ov s2 ⟨x, H2, I2, rx, a, C, dx, fs, ex, ea, c, n, l, q2⟩ => ?_) hs
  subst ex
  obtain rfl : ov = Value.ref a := rx
  exact setattr_ok I2 ea c n l ry fun s3 I3 => ⟨σ, _, I3, q2⟩
theorem ps_fldaug {op : Operator} {rd : V → V → Hp → VK → Prop} (ha : PE X o ta) (hv : PE X value tv) (hop : InOp X op rd) : PS X (.AugAssign (.Attribute o f tpos) op value pos) (sFldAug X.K ta tv rd f) := by
  intro pins s σ H D I h
  refine wpAny_AugAssign_AttributeAny (thn (ha pins s σ H _ I h) fun ov s1 ⟨x, H1, I1, rx, a, C, dx, fs, v, ex, ea, c, n, l, q⟩ => ?_)
  subst ex
  obtain rfl : ov = Value.ref a := rx
  refine getattr_ok I1 ea c n l fun u s2 I2 ru => thn (hv pins s2 σ H1 _ I2 q) fun w3 s3 ⟨y, H2, I3, ry, q3⟩ => thn (hop pins s3 σ H2 v y u w3 _ I3 ru ry q3) fun w4 s4 ⟨z, H3, I4, rz, dx', fs', ea', l', q4⟩ => ?_
  exact setattr_ok I4 ea' c n l' rz fun s5 I5 => ⟨σ, _, I5, q4⟩
def rAdd : V → V → Hp → VK → Prop := fun x y H Q => ∃ i j, x = .int i ∧ y = .int j ∧ Q (.int (i + j)) H
theorem in_add : InOp X .Add rAdd := by
  rintro pins s σ H x y u v Q I rx ry ⟨i, j, rfl, rfl, q⟩
  obtain ⟨t, rfl⟩ := (show ∃ t, u = Value.int i t from rx)
  obtain ⟨t', rfl⟩ := (show ∃ t', v = Value.int j t' from ry)
  exact PyProof.Rows.iadd_int ⟨.int (i + j), H, I.tok _, ⟨_, rfl⟩, q⟩
end
section
variable {X : Cx} {pins : List (Addr × Obj)} {σ : St} {H : Hp} {s : Shared} {A : Around} {E : Value → Shared → Prop} {Q : Value → Shared → Prop} {c : Value} {b : Bool}
inductive TyOf (K : PySem.W.Frag) (H : Hp) : V → Value → Prop where
  | non : TyOf K H .non (.type "NoneType")
  | bl (x : Bool) : TyOf K H (.bl x) (.type "bool")
  | int (i : Int) : TyOf K H (.int i) (.type "int")
  | str (x : Str) : TyOf K H (.str x) (.type "str")
  | flt (x : UInt64) : TyOf K H (.flt x) (.type "float")
  | lst {a : Addr} {xs : List V} (e : H a = some (.lst xs)) : TyOf K H (.ref a) (.type "list")
  | frz {a : Addr} {o : Obj} {xs : List V} (e : H a = some (.frz o (.lst xs))) : TyOf K H (.ref a) (.type "list")
  | tup {a : Addr} {xs : List V} (e : H a = some (.tup xs)) : TyOf K H (.ref a) (.type "tuple")
  | dK {a : Addr} {kvs : List (Key × V)} (e : H a = some (.dK kvs)) : TyOf K H (.ref a) (.type "dict")
  | dT {a : Addr} {kvs : List (List Key × V)} (e : H a = some (.dT kvs)) : TyOf K H (.ref a) (.type "dict")
  | ins {a C dx : Addr} {fs : List (Str × V)} (e : H a = some (.ins C dx fs)) (cl : Cls K C) (ha : PySem.W.findIn K (.ref C) "__class__" = some (some (.builtin "object.__class__")))
      (hn : PySem.W.specialIn K (.builtin "object.__class__") "__get__" = some (some (.builtin "getset_descriptor.__get__"))) (htk : PySem.W.takesIn K (.builtin "object.__class__") = some true)
      (hm : PySem.W.mroIn K C (.type "object") = some true) : TyOf K H (.ref a) (.ref C)
theorem isinst_ok {x : V} {u t : Value} (I : Inv X pins σ H s) (rx : RelV x u) (ty : TyOf X.K H x t) (e : PySem.W.kitOne X.K t c = some b) (h : ∀ tk, Q (.bool b) { s with toks := tk }) :
    wpAny (model X.prog X.w) A (call (.builtin "isinstance") [u, c]) Q E s := by
  cases ty with
  | non => cases (show u = Value.none from rx); exact PySem.W.kia_one PySem.W.kitx_none I.kIn True.intro e (fun z => nomatch z) h
  | bl y => cases (show u = Value.bool y from rx); exact PySem.W.kia_one PySem.W.kitx_bool I.kIn True.intro e (fun z => nomatch z) h
  | int i => obtain ⟨t, q⟩ := (show ∃ t, u = Value.int i t from rx); cases q; exact PySem.W.kia_one PySem.W.kitx_int I.kIn True.intro e (fun z => nomatch z) h
  | str y => obtain ⟨t, q⟩ := (show ∃ t, u = Value.str y t from rx); cases q; exact PySem.W.kia_one PySem.W.kitx_str I.kIn True.intro e (fun z => nomatch z) h
  | flt y => obtain ⟨t, q⟩ := (show ∃ t, u = Value.float y t from rx); cases q; exact PySem.W.kia_one PySem.W.kitx_float I.kIn True.intro e (fun z => nomatch z) h
  | @lst a xs ea =>
    cases (show u = Value.ref a from rx)
    obtain ⟨_, _, n, _, h1⟩ := (show ObjOk X.prog X.w H s.heap a (.lst xs) from I.hok a _ ea)
    exact PySem.W.kia_one PySem.W.kitx_list I.kIn ⟨_, h1, rfl⟩ e (fun z => nomatch z) h
  | @frz a ob xs ea =>
    cases (show u = Value.ref a from rx)
    obtain ⟨_, _, _, n, _, h1⟩ := (show ObjOk X.prog X.w H s.heap a (.frz ob (.lst xs)) from I.hok a _ ea)
    exact PySem.W.kia_one PySem.W.kitx_list I.kIn ⟨_, h1, rfl⟩ e (fun z => nomatch z) h
  | @tup a xs ea =>
    cases (show u = Value.ref a from rx)
    obtain ⟨_, _, _, p⟩ := (show ObjOk X.prog X.w H s.heap a (.tup xs) from I.hok a _ ea)
    obtain ⟨o, h1, h2, _⟩ := p
    exact PySem.W.kia_one PySem.W.kitx_tuple I.kIn ⟨o, h1, h2⟩ e (fun z => nomatch z) h
  | @dK a kvs ea =>
    cases (show u = Value.ref a from rx)
    obtain ⟨_, _, vs, _, p⟩ := (show ObjOk X.prog X.w H s.heap a (.dK kvs) from I.hok a _ ea)
    obtain ⟨o, es, ep, h1, h2, _⟩ := p
    exact PySem.W.kia_one PySem.W.kitx_dict I.kIn ⟨o, h1, h2.1⟩ e (fun z => nomatch z) h
  | @dT a kvs ea =>
    cases (show u = Value.ref a from rx)
    obtain ⟨_, _, xs, _, o, es, ep, h1, h2, _⟩ := (show ObjOk X.prog X.w H s.heap a (.dT kvs) from I.hok a _ ea)
    exact PySem.W.kia_one PySem.W.kitx_dict I.kIn ⟨o, h1, h2.1⟩ e (fun z => nomatch z) h
  | @ins a C dx fs ea cl ha hn htk hm =>
    cases (show u = Value.ref a from rx)
    obtain ⟨mA, O, _⟩ := ins_get I.hok ea
    obtain ⟨od, J, _⟩ := O.look
    exact PySem.W.kia_one (PySem.W.kitx_own (cl.get _) cl.hd ha hn htk hm) I.kIn J e (fun z => nomatch z) h
end
end L2
namespace L2
open PySem PySem.Spec PyProof.Rows
structure Room (k : Nat) (A : Around) : Prop where
  hd : A.handled = none
  dp : A.depth + 3 * k + 5 < recursionLimit
  un : A.units + 16 * k + 200 < cLine
theorem Room.mono {j k : Nat} {A : Around} (r : Room k A) (h : j ≤ k) : Room j A := ⟨r.hd, by have := r.dp; omega, by have := r.un; omega⟩
theorem Room.deeper {k : Nat} {A : Around} (r : Room (k + 1) A) (env : Env) : Room k (A.deeper env) :=
  ⟨r.hd, by have := r.dp; show A.depth + 1 + 3 * k + 5 < _; omega, by have := r.un; show A.units + 3 + 16 * k + 200 < _; omega⟩
theorem Room.in1 {k : Nat} {A : Around} (r : Room (k + 1) A) : Room k A.in1 :=
  ⟨r.hd, by have := r.dp; show A.depth + 3 * k + 5 < _; omega, by have := r.un; show A.units + 1 + 16 * k + 200 < _; omega⟩
theorem make_depth {A : Around} {C : Addr} {us : List Value} {kw : List (Str × Value)} : (A.under (.builtin "type.__call__" ⟨.ref C :: us, kw⟩)).depth = A.depth + 1 := by
  first | rfl | simp [Around.under, Code.weight, Code.isCreation, Code.isGuard, Code.isCaller, Code.frames, Code.isFrame, guardIds]
theorem make_units {A : Around} {C : Addr} {us : List Value} {kw : List (Str × Value)} : (A.under (.builtin "type.__call__" ⟨.ref C :: us, kw⟩)).units = A.units + 1 := by
  first | rfl | simp [Around.under, Code.cUnits, Code.frames, Code.isFrame]
theorem Room.make {k : Nat} {A : Around} (r : Room (k + 1) A) (C : Addr) (us : List Value) (kw : List (Str × Value)) : Room k (A.under (.builtin "type.__call__" ⟨.ref C :: us, kw⟩)) :=
  ⟨r.hd, by have := r.dp; rw [make_depth]; omega, by have := r.un; rw [make_units]; omega⟩
theorem Room.depth {k : Nat} {A : Around} (r : Room k A) : A.depth < recursionLimit := by have := r.dp; omega
theorem Room.units {k : Nat} {A : Around} (r : Room k A) : A.units + 64 < cLine := by have := r.un; omega
def tNil : TA := fun _ H Q => Q [] H
def tCons (ta : TE) (tr : TA) : TA := fun σ H Q => ta σ H fun x H1 => tr σ H1 fun xs H2 => Q (x :: xs) H2
section
variable {X : Cx} {e : Expr} {es : List Expr} {te : TE} {t : TA} {pos : Pos}
theorem pa_nil : PA X [] tNil := fun _ _ _ _ H Q I h => Calls.spliced_nil ⟨[], H, I, .nil, h⟩
theorem pa_cons (ha : PE X e te) (hr : PA X es t) (hs : starEach (e :: es) X.env = (false, eval e X.env) :: starEach es X.env := by rfl) : PA X (e :: es) (tCons te t) := by
  intro pos pins s σ H Q I h
  rw [hs]
  show wpAny _ _ (spliced ((false, eval e X.env) :: backTo pos (starEach es X.env))) _ _ s
  refine Calls.spliced_cons (thn (ha pins s σ H _ I h) fun u s1 ⟨x, H1, I1, r1, q1⟩ => ?_)
  exact thn (hr pos pins s1 σ H1 _ I1 q1) fun us s2 ⟨xs, H2, I2, r2, q2⟩ => ⟨x :: xs, H2, I2, .cons r1 r2, q2⟩
def tTup (t : TA) : TE := fun σ H Q => t σ H fun xs H1 => xs.length ≤ sizeLine ∧ ∀ p, H1 p = none → Q (.ref p) (upd H1 p (.tup xs))
def tLst (t : TA) : TE := fun σ H Q => t σ H fun xs H1 => xs.length ≤ sizeLine ∧ ∀ p, H1 p = none → Q (.ref p) (upd H1 p (.lst xs))
theorem pe_tup {x1} (h : PA X es t) : PE X (.Tuple es x1 pos) (tTup t) := by
  intro pins s σ H Q I hq
  refine wpAny_Tuple_spliced (thn (h pos pins s σ H _ I hq) fun us s1 ⟨xs, H1, I1, r, z, q⟩ => ⟨by rw [← r.length]; exact z, ?_⟩)
  have hf : H1 s1.heap.objs.size = none := I1.hok.fresh (Nat.le_refl _)
  refine ⟨.ref s1.heap.objs.size, upd H1 s1.heap.objs.size (.tup xs), I1.laid (t' := s1.toks) (fun b u e => Heap.get?_push_of_some _ e) (Nat.le_refl _) ?_, rfl, q _ hf⟩
  exact ⟨z, us, r, ⟨_, Heap.get?_push_size _ rfl, rfl, _, rfl⟩⟩
theorem pe_lst (h : PA X es t) : PE X (.List es pos) (tLst t) := by
  intro pins s σ H Q I hq
  refine wpAny_List_spliced (thn (h pos pins s σ H _ I hq) fun us s1 ⟨xs, H1, I1, r, z, q⟩ => ⟨by rw [← r.length]; exact z, ?_⟩)
  have hf : H1 s1.heap.objs.size = none := I1.hok.fresh (Nat.le_refl _)
  refine ⟨.ref s1.heap.objs.size, upd H1 s1.heap.objs.size (.lst xs), I1.laid (t' := s1.toks) (fun b u e => Heap.get?_push_of_some _ e) (Nat.le_refl _) ?_, rfl, q _ hf⟩
  exact ⟨z, us, 0, r, Heap.get?_push_size _ rfl⟩
end
abbrev Sp := List V → Hp → VK → XK → Prop
abbrev CXT := List Env → Hp → Shared → XK → Value → Shared → Prop
structure Env0 (P : Program) (w : World) (K : PySem.W.Frag) (mg : Str → Option Value) (base : Heap) (A : Around) (outer : List Env) (s : Shared) (H : Hp) : Prop where
  frames : A.frames = some outer
  mod : Mod K mg base
  bs : ∀ b o, base.get? b = some o → s.heap.get? b = some o ∧ H b = none
  bsz : base.objs.size ≤ s.heap.objs.size
  funs : s.heap.FunFrames base outer
  frf : ∀ b ∈ frs outer, H b = none
  hok : HOk P w H s.heap
  bare : AllBare s.gens
def CE (outer : List Env) (P : Program) (w : World) (H : Hp) (s : Shared) (Q : VK) (u : Value) (s' : Shared) : Prop :=
  ∃ v H', s'.os = s.os ∧ AllBare s'.gens ∧ Un (frs outer) [] H H' s.heap s'.heap ∧ HOk P w H' s'.heap ∧ RelV v u ∧ Q v H'
def CR (CX : CXT) (outer : List Env) (P : Program) (w : World) (H : Hp) (s : Shared) (Q : VK) (E : XK) (r : Result) (s' : Shared) : Prop :=
  match r with
  | .ok (.ret u) => CE outer P w H s Q u s'
  | .ok _ => False
  | .error e => CX outer H s E e s'
structure FnOk (P : Program) (w : World) (K : PySem.W.Frag) (mg : Str → Option Value) (base : Heap) (CX : CXT) (k : Nat) (f : Addr) (fd : FuncData) (ps : List Str) (sp : Sp) : Prop where
  len : ∀ vs H Q E, sp vs H Q E → vs.length = ps.length
  run : ∀ (A : Around) (outer : List Env) (s : Shared) (H : Hp) (args : Args) (us : List Value) (vs : List V) (Q : VK) (E : XK), Room k A → Env0 P w K mg base A outer s H → BindsTo s fd args (ps.zip us) → Vals vs us → sp vs H Q E →
    codeAny (model P w) A (.call (.ref f) args) (CR CX outer P w H s Q E) s
theorem Env0.make {P : Program} {w : World} {K : PySem.W.Frag} {mg : Str → Option Value} {base : Heap} {A : Around} {outer : List Env} {s : Shared} {H : Hp} (e : Env0 P w K mg base A outer s H) (C : Addr) (us : List Value) (kw : List (Str × Value)) :
    Env0 P w K mg base (A.under (.builtin "type.__call__" ⟨.ref C :: us, kw⟩)) outer s H := ⟨by first | exact e.frames | (simpa [Around.under, Code.envs, Code.isFrame, pushEnvs] using e.frames), e.mod, e.bs, e.bsz, e.funs, e.frf, e.hok, e.bare⟩
theorem Env0.in1 {P : Program} {w : World} {K : PySem.W.Frag} {mg : Str → Option Value} {base : Heap} {A : Around} {outer : List Env} {s : Shared} {H : Hp} (e : Env0 P w K mg base A outer s H) :
    Env0 P w K mg base A.in1 outer s H := ⟨e.frames, e.mod, e.bs, e.bsz, e.funs, e.frf, e.hok, e.bare⟩
section
variable {X : Cx} {pins : List (Addr × Obj)} {σ : St} {H : Hp} {s s' : Shared}
theorem Inv.env0 (I : Inv X pins σ H s) : Env0 X.prog X.w X.K X.mg X.base X.A X.stack s H :=
  ⟨I.ok.frames, I.ok.mod, I.bs, Nat.le_trans I.ok.bsz I.sz, I.stack, I.stkFree, I.hok, I.bare⟩
theorem Inv.after {Q : VK} {u : Value} (I : Inv X pins σ H s) (h : CE X.stack X.prog X.w H s Q u s') : EP X pins σ Q u s' := by
  obtain ⟨v, H', os, bare, un, hok, r, q⟩ := h
  obtain ⟨hh, g, d, t, os'⟩ := s'
  obtain rfl : os' = s.os := os
  exact ⟨v, H', I.call (h' := hh) (g' := g) (d' := d) (t' := t) (ch := []) un hok bare (fun b z => absurd z (by simp)), r, q⟩
end
def tCall (sp : Sp) (dvs : List V) (E : XK) (t : TA) : TE := fun σ H Q => t σ H fun vs H1 => sp (vs ++ dvs) H1 Q E
def tMake (C : Addr) (sp : Sp) (dvs : List V) (E : XK) (t : TA) : TE := fun σ H Q => t σ H fun vs H1 => ∀ x dx, H1 x = none → H1 dx = none → dx ≠ x →
  sp (.ref x :: (vs ++ dvs)) (upd (upd H1 dx (.own x)) x (.ins C dx [])) (fun v H2 => v = .non ∧ Q (.ref x) H2) E
def Binds (K : PySem.W.Frag) (fd : FuncData) (ps : List Str) (ds : List Value) : Prop :=
  ∀ (s : Shared) (us : List Value), K.In s.heap → (us ++ ds).length = ps.length → BindsTo s fd ⟨us, []⟩ (ps.zip (us ++ ds))
theorem Binds.all {K : PySem.W.Frag} {fd : FuncData} {ps : List Str} (h : ∀ us : List Value, us.length = ps.length → bindArgs fd ⟨us, []⟩ = pure (ps.zip us)) : Binds K fd ps [] := fun s us _ hl => by
  rw [List.append_nil] at hl ⊢
  exact .of_eq (h us hl)
def Passes (CX : CXT) (X : Cx) (E : XK) : Prop := ∀ (pins : List (Addr × Obj)) (σ : St) (H : Hp) (s : Shared) (e : Value) (s' : Shared), Inv X pins σ H s → CX X.stack H s E e s' → X.xe e s'
section
variable {X : Cx} {CX : CXT} {k : Nat} {f C : Addr} {fd : FuncData} {ps : List Str} {sp : Sp} {dvs : List V} {ds : List Value} {E : XK} {x m : Str} {p pos apos : Pos} {e o : Expr} {es : List Expr} {ta : TE} {t : TA}
theorem run_fn {pins : List (Addr × Obj)} {σ : St} {H : Hp} {s : Shared} {Q : VK} {us : List Value} {vs : List V} (F : FnOk X.prog X.w X.K X.mg X.base CX k f fd ps sp) (hr : Room k X.A) (hb : Binds X.K fd ps ds) (hd : Vals dvs ds) (hx : Passes CX X E)
    (I : Inv X pins σ H s) (r : Vals vs us) (h : sp (vs ++ dvs) H Q E) : wpAny (model X.prog X.w) X.A (call (.ref f) us) (EP X pins σ Q) X.xe s := by
  have r2 : Vals (vs ++ dvs) (us ++ ds) := r.append hd
  have hl : (us ++ ds).length = ps.length := by rw [← r2.length]; exact F.len _ _ _ _ h
  refine wpAny_call (codeAny_mono (F.run X.A X.stack s H ⟨us, []⟩ (us ++ ds) (vs ++ dvs) Q E hr I.env0 (hb s us I.kIn hl) r2 h) fun r s' hq => ?_)
  cases r with
  | error e => exact hx pins σ H s e s' I hq
  | ok fl =>
    cases fl with
    | ret u => exact I.after hq
    | next => exact False.elim hq
    | brk => exact False.elim hq
    | cont => exact False.elim hq
theorem pe_call (F : FnOk X.prog X.w X.K X.mg X.base CX k f fd ps sp) (hr : Room k X.A) (hg : Gl X x) (hm : X.mg x = some (.ref f)) (hk : PySem.W.keepIn X.K (.ref f) = true) (hb : Binds X.K fd ps ds) (hd : Vals dvs ds) (hx : Passes CX X E)
    (ha : PA X (e :: es) t) (hdb : (x == ("__debug__" : Str)) = false := by decide) (he : starEach (e :: es) X.env = (false, eval e X.env) :: starEach es X.env := by rfl) (hpl : (backTo pos (starEach es X.env)).any (·.1) = false := by rfl) :
    PE X (.Call (.Name x p) (e :: es) [] pos) (tCall sp dvs E t) := by
  intro pins s σ H Q I h
  refine wpAny_Call_Name_kw (ld_glob I hg hm ?_ hdb)
  refine PySem.W.callWith_K (h₀ := X.base) I.ok.mod.kin hk (thn (ha pos pins s σ H _ I h) fun us s1 ⟨vs, H1, I1, r, q⟩ => ⟨I1.kIn, ?_⟩) he hpl
  exact run_fn F hr hb hd hx I1 r q
structure Mk (K : PySem.W.Frag) (C f : Addr) : Prop where
  makes : PySem.W.makesIn K C = true
  init : PySem.W.findIn K (.ref C) "__init__" = some (some (.ref f))
  fn : PySem.W.isFn K (.ref f) = true
  kp : PySem.W.keepIn K (.ref C) = true
theorem run_make {pins : List (Addr × Obj)} {σ : St} {H : Hp} {s : Shared} {Q : VK} {us : List Value} {vs : List V} (M : Mk X.K C f) (F : FnOk X.prog X.w X.K X.mg X.base CX k f fd ps sp) (hr : Room (k + 1) X.A) (hb : Binds X.K fd ps ds) (hd : Vals dvs ds)
    (hx : Passes CX X E) (I : Inv X pins σ H s) (r : Vals vs us)
    (h : ∀ x dx, H x = none → H dx = none → dx ≠ x → sp (.ref x :: (vs ++ dvs)) (upd (upd H dx (.own x)) x (.ins C dx [])) (fun v H2 => v = .non ∧ Q (.ref x) H2) E) :
    wpAny (model X.prog X.w) X.A (call (.ref C) us) (EP X pins σ Q) X.xe s := by
  have hq := h (s.heap.objs.size + 1) s.heap.objs.size (I.hok.fresh (Nat.le_succ _)) (I.hok.fresh (Nat.le_refl _)) (Nat.ne_of_lt (Nat.lt_succ_self _))
  have I2 := Inv.made (C := C) I
  have r2 : Vals (V.ref (s.heap.objs.size + 1) :: (vs ++ dvs)) (Value.ref (s.heap.objs.size + 1) :: (us ++ ds)) := .cons rfl (r.append hd)
  have hl : (Value.ref (s.heap.objs.size + 1) :: us ++ ds).length = ps.length := by
    have e := r2.length
    rw [F.len _ _ _ _ hq] at e
    exact e.symm
  refine wpAny_call (make_map (f := f) I.kIn M.makes M.init (beq_iff_eq.mp M.fn) (codeAny_mono (F.run _ X.stack _ _ ⟨Value.ref (s.heap.objs.size + 1) :: us, []⟩ (Value.ref (s.heap.objs.size + 1) :: (us ++ ds)) _ _ E (hr.make C us [])
    (I2.env0.make C us []) (hb _ (Value.ref (s.heap.objs.size + 1) :: us) I2.kIn hl) r2 hq) fun r s' hq' => ?_))
  cases r with
  | error e => exact hx pins σ _ _ e s' I2 hq'
  | ok fl =>
    cases fl with
    | ret u =>
      obtain ⟨v, H', I3, rv, ev, q3⟩ := I2.after hq'
      subst ev
      exact ⟨rv, ⟨V.ref (s.heap.objs.size + 1), H', I3, rfl, q3⟩⟩
    | next => exact False.elim hq'
    | brk => exact False.elim hq'
    | cont => exact False.elim hq'
theorem pe_make (M : Mk X.K C f) (F : FnOk X.prog X.w X.K X.mg X.base CX k f fd ps sp) (hr : Room (k + 1) X.A) (hg : Gl X x) (hm : X.mg x = some (.ref C)) (hb : Binds X.K fd ps ds) (hd : Vals dvs ds) (hx : Passes CX X E)
    (ha : PA X (e :: es) t) (hdb : (x == ("__debug__" : Str)) = false := by decide) (he : starEach (e :: es) X.env = (false, eval e X.env) :: starEach es X.env := by rfl) (hpl : (backTo pos (starEach es X.env)).any (·.1) = false := by rfl) :
    PE X (.Call (.Name x p) (e :: es) [] pos) (tMake C sp dvs E t) := by
  intro pins s σ H Q I h
  refine wpAny_Call_Name_kw (ld_glob I hg hm ?_ hdb)
  refine PySem.W.callWith_K (h₀ := X.base) I.ok.mod.kin M.kp (thn (ha pos pins s σ H _ I h) fun us s1 ⟨vs, H1, I1, r, q⟩ => ⟨I1.kIn, ?_⟩) he hpl
  exact run_make M F hr hb hd hx I1 r q
end
section
variable {X : Cx} {CX : CXT} {k : Nat} {f C : Addr} {fd : FuncData} {ps ks : List Str} {sp : Sp} {E : XK} {x m : Str} {p pos apos kpos : Pos} {e o : Expr} {es : List Expr} {kws : List Keyword} {te ta : TE} {t tk : TA} {nm : Option Str}
variable {g : List Value → List Value → List Value} {gV : List V → List V → List V}
end
structure FnScope (N P : List Str) (sc : Scope) : Prop where
  kind : sc.kind = .function
  co : sc.isCoroutine = false
  gen : sc.isGenerator = false
  nd : N.Nodup
  pre : N.take P.length = P
  par : ∀ x ∈ P, sc.names.lookup x = some .local ∨ sc.names.lookup x = some .cell
  nofree : ∀ y ∈ sc.names, y.2 ≠ .free
theorem bindL_out {kindOf : Str → Option NameKind} {x : Str} : ∀ {binds : List (Str × Value)} {m : Str → Option Value}, (∀ v, (x, v) ∉ binds) → bindL kindOf binds m x = m x
  | [], _, _ => rfl
  | (n, v) :: r, m, h => by
    unfold bindL
    rw [bindL_out fun w hw => h w (List.mem_cons_of_mem _ hw)]
    split
    · have : x ≠ n := by rintro rfl; exact h v List.mem_cons_self
      simp [this]
    · rfl
theorem bindC_out {kindOf : Str → Option NameKind} {x : Str} : ∀ {binds : List (Str × Value)} {m : Str → Option Value}, (∀ v, (x, v) ∉ binds) → bindC kindOf binds m x = m x
  | [], _, _ => rfl
  | (n, v) :: r, m, h => by
    unfold bindC
    rw [bindC_out fun w hw => h w (List.mem_cons_of_mem _ hw)]
    split
    · rfl
    · have : x ≠ n := by rintro rfl; exact h v List.mem_cons_self
      simp [this]
theorem bindL_get {kindOf : Str → Option NameKind} {x : Str} {v : Value} : ∀ {P : List Str} {vs : List Value} {i : Nat} {m : Str → Option Value}, P.Nodup → P[i]? = some x → vs[i]? = some v → kindOf x = some .local →
    bindL kindOf (P.zip vs) m x = some v
  | [], _, _, _, _, h, _, _ => by simp at h
  | _ :: _, [], _, _, _, _, h, _ => by simp at h
  | p :: P, w :: vs, 0, m, nd, h1, h2, hk => by
    simp at h1 h2; subst h1; subst h2
    show bindL kindOf ((p, w) :: P.zip vs) m p = _
    unfold bindL
    rw [bindL_out fun v hv => (List.nodup_cons.mp nd).1 (List.of_mem_zip hv).1, if_pos hk]
    simp
  | p :: P, w :: vs, i + 1, m, nd, h1, h2, hk => by
    show bindL kindOf ((p, w) :: P.zip vs) m x = _
    unfold bindL
    exact bindL_get (i := i) (List.nodup_cons.mp nd).2 (by simpa using h1) (by simpa using h2) hk
theorem bindC_get {kindOf : Str → Option NameKind} {x : Str} {v : Value} : ∀ {P : List Str} {vs : List Value} {i : Nat} {m : Str → Option Value}, P.Nodup → P[i]? = some x → vs[i]? = some v → kindOf x ≠ some .local →
    bindC kindOf (P.zip vs) m x = some v
  | [], _, _, _, _, h, _, _ => by simp at h
  | _ :: _, [], _, _, _, _, h, _ => by simp at h
  | p :: P, w :: vs, 0, m, nd, h1, h2, hk => by
    simp at h1 h2; subst h1; subst h2
    show bindC kindOf ((p, w) :: P.zip vs) m p = _
    unfold bindC
    rw [bindC_out fun v hv => (List.nodup_cons.mp nd).1 (List.of_mem_zip hv).1, if_neg hk]
    simp
  | p :: P, w :: vs, i + 1, m, nd, h1, h2, hk => by
    show bindC kindOf ((p, w) :: P.zip vs) m x = _
    unfold bindC
    exact bindC_get (i := i) (List.nodup_cons.mp nd).2 (by simpa using h1) (by simpa using h2) hk
def start (N : List Str) (vs : List V) : St := vs.map some ++ List.replicate (N.length - vs.length) none
def cxOf (CX : CXT) (P : Program) (w : World) (K : PySem.W.Frag) (mg : Str → Option Value) (base : Heap) (N : List Str) (qual : Str) (scope : Scope) (f : Addr) (cd : Value) (A : Around) (outer : List Env) (s : Shared) (H : Hp) (E : XK) : Cx where
  prog := P
  w := w
  K := K
  mg := mg
  base := base
  A := A.deeper (envOfC qual scope s.heap.objs.size f cd)
  N := N
  s₀ := s
  H₀ := H
  env := envOfC qual scope s.heap.objs.size f cd
  outer := outer
  stack := envOfC qual scope s.heap.objs.size f cd :: outer
  ex := []
  calm := true
  fn := fun _ => true
  pn := []
  xe := fun e s' => wpAny (model P w) (A.deeper (envOfC qual scope s.heap.objs.size f cd)) (leaving (envOfC qual scope s.heap.objs.size f cd) e) (fun _ s'' => CX outer H s E e s'') (fun e' s'' => CX outer H s E e' s'') s'
theorem cell_has {sc : Scope} {n : Nat} {x : Str} (h : sc.names.lookup x = some .cell) : ∃ c, (cellsFrom n sc.names []).lookup x = some c := by
  have q := PySem.W.cellsFrom_some sc.names n [] (.inl h)
  exact Option.isSome_iff_exists.mp q
theorem inv_start {CX : CXT} {P : Program} {w : World} {K : PySem.W.Frag} {mg : Str → Option Value} {base : Heap} {N ps : List Str} {qual : Str} {scope : Scope} {f : Addr} {cd : Value} {A : Around} {outer : List Env} {s s1 : Shared} {H : Hp} {E : XK} {us : List Value} {vs : List V}
    (S : FnScope N ps scope) (hd : A.handled = none) (e0 : Env0 P w K mg base A outer s H) (hl : vs.length = ps.length) (r : Vals vs us)
    (x : InCallC s s.heap.objs.size (bindL (envOfC qual scope s.heap.objs.size f cd).kindOf (ps.zip us) fun _ => none) (cellsFrom (s.heap.objs.size + 1) scope.names []) (bindC (envOfC qual scope s.heap.objs.size f cd).kindOf (ps.zip us) fun _ => none) s1) :
    Inv (cxOf CX P w K mg base N qual scope f cd A outer s H E) [] (start N vs) H s1 := by
  have hpl : ps.length ≤ N.length := by have := congrArg List.length S.pre; rw [List.length_take] at this; omega
  obtain ⟨h1, tk, rfl, hk⟩ := x.done
  have noA : ∀ b : Addr, b ∉ (cxOf CX P w K mg base N qual scope f cd A outer s H E).ex := fun b z => absurd (show b ∈ ([] : List Addr) from z) (by simp)
  refine ⟨⟨e0.mod, S.kind, rfl, rfl, Nat.le_refl _, fun y z c h1 h2 => ?_, fun y hy => ?_, fun y c _ h => ?_, fun _ => hd, Around.frames_deeper e0.frames, .inr ⟨rfl, rfl⟩, fun b z => absurd z (noA b), e0.bs, e0.bsz, fun b _ _ => noA b, fun b z => absurd z (noA b), e0.funs, e0.frf⟩,
    rfl, e0.bare, Un.kept hk, ⟨_, x.toInCall.ns, fun i y v h1 h2 h3 => ?_⟩, fun y c h => ⟨_, x.cell y c h⟩, e0.hok.fresh (Nat.le_refl _), fun y c h => ?_, fun p hp => absurd (show p ∈ ([] : List (Addr × Obj)) from hp) (by simp), e0.hok.kept hk, ?_⟩
  · exact name_of_addr x.apart (PySem.mem_of_lookup h1) (PySem.mem_of_lookup h2)
  · have hy : scope.names.lookup y = some .cell ∨ scope.names.lookup y = some .free := hy
    rcases hy with hy | hy
    · exact cell_has hy
    · exact absurd rfl (S.nofree _ (PySem.mem_of_lookup hy))
  · exact Nat.le_of_lt (x.above y c (PySem.mem_of_lookup h))
  · have hi : i < vs.length := by
      unfold start at h2
      by_cases hi : i < vs.length
      · exact hi
      · rw [List.getElem?_append_right (by simpa using hi)] at h2
        rw [List.getElem?_replicate] at h2
        split at h2 <;> cases h2
    have ha : vs[i]? = some v := by
      unfold start at h2
      rw [List.getElem?_append_left (by simpa using hi), List.getElem?_map] at h2
      cases e : vs[i]? with
      | none => rw [e] at h2; cases h2
      | some a => rw [e] at h2; cases h2; rfl
    obtain ⟨u, hu, rv⟩ := r.get ha
    have hp : ps[i]? = some y := by
      rw [← S.pre, List.getElem?_take_of_lt (by omega)]; exact h1
    have ndP : ps.Nodup := by rw [← S.pre]; exact S.nd.sublist (List.take_sublist _ _)
    refine ⟨u, rv, ?_⟩
    rcases S.par y (List.mem_of_getElem? hp) with k | k
    · exact .inl ⟨k, bindL_get ndP hp hu k⟩
    · obtain ⟨c, e⟩ := cell_has (n := s.heap.objs.size + 1) k
      refine .inr ⟨.inl k, c, e, ?_⟩
      have q := x.cell y c e
      rw [bindC_get ndP hp hu (by show scope.names.lookup y ≠ _; rw [k]; decide)] at q
      exact q
  · exact e0.hok.fresh (Nat.le_of_lt (x.above y c (PySem.mem_of_lookup h)))
  · unfold start
    show _ = N.length
    rw [List.length_append, List.length_map, List.length_replicate]
    omega
theorem fn_of {CX : CXT} {P : Program} {w : World} {K : PySem.W.Frag} {mg : Str → Option Value} {base : Heap} {k : Nat} {f : Addr} {name qual : Str} {params : Arguments} {body : List Stmt} {scope : Scope} {dV kV doc pm cdv ct oc : Value} {an od : Option Addr}
    {osl : Array (Option Value)} {N ps : List Str} {sp : Sp} (lk : K.lookup f = some ⟨oc, od, .func (PySem.W.fnOf name qual params body scope dV kV doc pm an cdv ct), osl⟩) (hcd : PySem.W.codeIn K cdv qual = true) (S : FnScope N ps scope)
    (len : ∀ vs H Q E, sp vs H Q E → vs.length = ps.length)
    (hbody : ∀ (A : Around) (outer : List Env) (s : Shared) (H : Hp) (vs : List V) (Q : VK) (E : XK), Room k (A.deeper (envOfC qual scope s.heap.objs.size f cdv)) → sp vs H Q E →
      ∃ t, PSs (cxOf CX P w K mg base N qual scope f cdv A outer s H E) body t ∧ t { nx := fun _ H' => Q .non H', rt := Q } (start N vs) H) :
    FnOk P w K mg base CX (k + 1) f (PySem.W.fnOf name qual params body scope dV kV doc pm an cdv ct) ps sp := by
  refine ⟨len, fun A outer s H args us vs Q E hr e0 hb r hsp => ?_⟩
  have hl := len _ _ _ _ hsp
  have KX : K.In s.heap := e0.mod.kin.keeps fun b o e => (e0.bs b o e).1
  have lim : s.heap.NoLimit := e0.mod.nolimit.keeps fun b o e => (e0.bs b o e).1
  have hkind : ∀ y ∈ ps.zip us, scope.names.lookup y.1 = some .local ∨ (scope.names.lookup y.1 = some .cell ∧ ((cellsFrom (s.heap.objs.size + 1) scope.names []).lookup y.1).isSome = true) := fun ⟨n, v⟩ hy => by
    rcases S.par n (List.of_mem_zip hy).1 with q | q
    · exact .inl q
    · exact .inr ⟨q, PySem.W.cellsFrom_some _ _ _ (.inl q)⟩
  refine codeAny_call_function hr.depth (KX _ _ lk) rfl S.co S.gen rfl (PySem.W.codeRec_of KX hcd) (hb _ _ _ _ ?_)
  refine wpAny_newFunctionEnv_cells S.kind hkind fun env he s1 x => ?_
  subst he
  refine ⟨lim.keeps x.toInCall.keep, codeAny_func ?_⟩
  obtain ⟨t, ht, hq⟩ := hbody A outer s H vs Q E (hr.deeper _) hsp
  have I : Inv (cxOf CX P w K mg base N qual scope f cdv A outer s H E) [] (start N vs) H s1 := inv_start S hr.hd e0 hl r x
  refine wpAny_mono (ht [] s1 (start N vs) H _ I hq) (fun fl s' hs => ?_) fun e s' hs => hs
  have fin : ∀ {σ' : St} {H' : Hp} {v : V} {u : Value}, Inv (cxOf CX P w K mg base N qual scope f cdv A outer s H E) [] σ' H' s' → RelV v u → Q v H' → CE outer P w H s Q u s' :=
    fun {σ' H' v u} J rv q => ⟨v, H', J.os, J.bare, J.base, J.hok, rv, q⟩
  cases fl with
  | ret u =>
    obtain ⟨v, σ', H', J, rv, q⟩ := hs
    exact fin J rv q
  | next =>
    obtain ⟨σ', H', J, q⟩ := hs
    exact fin (v := V.non) (u := Value.none) J rfl q
  | brk =>
    obtain ⟨_, _, _, q⟩ := hs
    exact False.elim q
  | cont =>
    obtain ⟨_, _, _, q⟩ := hs
    exact False.elim q
end L2
namespace L2
open PySem PySem.Spec PyProof.Rows
section
variable {X : Cx} {x : Str} {p pos : Pos} {e : Expr} {es : List Expr} {t : TA} {id T : String} {r : List V → Hp → VK → Prop}
def tCB (r : List V → Hp → VK → Prop) (t : TA) : TE := fun σ H Q => t σ H fun vs H1 => r vs H1 Q
theorem pe_callB (hc : CallR X (.builtin id) r) (hg : Gl X x) (hm : X.mg x = none) (hv : bootBuiltins x = some (.builtin id)) (ha : PA X (e :: es) t) (hn : x ≠ "__name__" := by decide) (hdb : (x == ("__debug__" : Str)) = false := by decide)
    (he : starEach (e :: es) X.env = (false, eval e X.env) :: starEach es X.env := by rfl) (hpl : (backTo pos (starEach es X.env)).any (·.1) = false := by rfl) : PE X (.Call (.Name x p) (e :: es) [] pos) (tCB r t) := by
  intro pins s σ H Q I h
  refine wpAny_Call_Name_kw (ld_blt I hg hm hv ?_ hn hdb)
  exact PyProof.Rows.callWith_builtin1 (thn (ha pos pins s σ H _ I h) fun us s1 ⟨vs, H1, I1, r1, q1⟩ => hc pins s1 σ H1 vs us Q I1 r1 q1) he hpl
theorem pe_callTy (hc : CallR X (.type T) r) (hg : Gl X x) (hm : X.mg x = none) (hv : bootBuiltins x = some (.type T)) (ha : PA X (e :: es) t) (hn : x ≠ "__name__" := by decide) (hdb : (x == ("__debug__" : Str)) = false := by decide)
    (he : starEach (e :: es) X.env = (false, eval e X.env) :: starEach es X.env := by rfl) (hpl : (backTo pos (starEach es X.env)).any (·.1) = false := by rfl) : PE X (.Call (.Name x p) (e :: es) [] pos) (tCB r t) := by
  intro pins s σ H Q I h
  refine wpAny_Call_Name_kw (ld_blt I hg hm hv ?_ hn hdb)
  exact PyProof.Rows.callWith_type1 (thn (ha pos pins s σ H _ I h) fun us s1 ⟨vs, H1, I1, r1, q1⟩ => hc pins s1 σ H1 vs us Q I1 r1 q1) he hpl
end
end L2
namespace HT
open PySem PyProof.Rows
section
open PySem.SeqAt
open PySem.AutoSeq1 (wpAny_loadPart')
open PySem.MeetsSeq PySem.MeetsSeq2 PySem.MeetsSeq3
end
section
variable {prog : Program} {w : World} {A : Around} {E : Value → Shared → Prop} {s : Shared}
theorem cat_tup {t b : Addr} {vs ws : List Value} {Q : Value → Shared → Prop} (ht : IsTup s.heap t vs.toArray) (hb : IsTup s.heap b ws.toArray) (hv : vs ≠ [])
    (h1 : ws = [] → Q (.ref t) s) (h2 : ws ≠ [] → Q (.ref s.heap.objs.size) { s with heap := s.heap.push { cls := .type "tuple", data := .seq (vs ++ ws).toArray } })
    (hsz : vs.length + ws.length ≤ sizeLine) : wpAny (model prog w) A (binaryOp .Add (.ref t) (.ref b)) Q E s := by
  obtain ⟨⟨cls, dd, data, sl⟩, ho, hc, n, hd⟩ := id ht
  obtain ⟨⟨cls2, dd2, data2, sl2⟩, ho2, hc2, n2, hd2⟩ := id hb
  simp only at hc hd hc2 hd2
  subst hc hd hc2 hd2
  have e : vs.toArray ++ ws.toArray = (vs ++ ws).toArray := by simp
  by_cases hw : ws = []
  · exact concat_meets ⟨_, ho, rfl⟩ ⟨_, ho2, rfl⟩ noFill_tuple_add seq_tuple_add PySem.F.slot_tuple_add PySem.F.entry_tuple_add (PySem.F.args_tuple_add_2 _ _)
      (tuple_addW1 t b vs.toArray ws.toArray n n2 dd dd2 sl sl2 (by simpa using hv) (by simp [hw])) ⟨ho, ho2, h1 hw⟩
  · refine concat_meets ⟨_, ho, rfl⟩ ⟨_, ho2, rfl⟩ noFill_tuple_add seq_tuple_add PySem.F.slot_tuple_add PySem.F.entry_tuple_add (PySem.F.args_tuple_add_2 _ _)
      (tuple_addW2 t b vs.toArray ws.toArray n n2 dd dd2 sl sl2 (by simpa using hv) (by simpa using hw) (by rw [List.size_toArray, List.size_toArray]; exact hsz)) ⟨ho, ho2, ?_⟩
    rw [e]
    exact h2 hw
def sIx (n d : Nat) : Option Int → Nat
  | none => d
  | some v => if v < 0 then (v + (n : Int)).toNat else min v.toNat n
theorem sIx_le (n d : Nat) (hd : d ≤ n) (o : Option Int) : sIx n d o ≤ n := by
  cases o with
  | none => exact hd
  | some v =>
    show (if v < 0 then (v + (n : Int)).toNat else min v.toNat n) ≤ n
    by_cases hv : v < 0
    · rw [if_pos hv]; omega
    · rw [if_neg hv]; exact Nat.min_le_right _ _
theorem clip_eq (v : Int) (n d : Nat) : (if v < 0 then max (v + (n : Int)) 0 else min v (n : Int)) = ((sIx n d (some v) : Nat) : Int) := by
  show (if v < 0 then max (v + (n : Int)) 0 else min v (n : Int)) = (((if v < 0 then (v + (n : Int)).toNat else min v.toNat n) : Nat) : Int)
  by_cases hv : v < 0
  · simp only [if_pos hv]; omega
  · simp only [if_neg hv]; omega
theorem adjust_gen (lo hi : Option Int) (n : Nat) : Builtin.Slice.sliceAdjust lo hi 1 (n : Int) = (((sIx n 0 lo : Nat) : Int), ((sIx n n hi : Nat) : Int)) := by
  have h1 : ¬ ((1 : Int) < 0) := by omega
  unfold Builtin.Slice.sliceAdjust
  simp only [h1, if_false]
  refine Prod.ext ?_ ?_
  · cases lo with
    | none => rfl
    | some v => exact clip_eq v n 0
  · cases hi with
    | none => rfl
    | some v => exact clip_eq v n n
theorem places_gen (i j : Nat) : Builtin.Slice.slicePlaces (i : Int) (j : Int) 1 = j - i := by
  unfold Builtin.Slice.slicePlaces
  have h1 : (1 : Int) > 0 := by omega
  simp only [h1, if_true, Int.ediv_one]
  split <;> omega
theorem slicePart_ {v : Value} {o : Option Int} {Q : Option Int → Shared → Prop} (p : IsPart v o) (h : Q o s) : wpAny (model prog w) A (Builtin.Slice.slicePartIndex v) Q E s := by
  cases p with
  | none => exact slicePart_none h
  | int i t => exact slicePart_int h
theorem sliceApplied_gen {sl : Addr} {vl vu : Value} {lo hi : Option Int} {n : Nat} {Q : Int × Int × Nat → Shared → Prop} (hs : s.heap.IsSliceOf sl vl vu .none) (pl : IsPart vl lo) (pu : IsPart vu hi)
    (h : Q (((sIx n 0 lo : Nat) : Int), 1, sIx n n hi - sIx n 0 lo) s) : wpAny (model prog w) A (Builtin.Slice.sliceApplied (.ref sl) (pure (n : Int))) Q E s := by
  obtain ⟨os, hos, hcs, hds⟩ := id hs
  unfold Builtin.Slice.sliceApplied Builtin.Slice.sliceFields
  refine wpAny_bind (wpAny_bind (wpAny_field hos hds (x := vl) rfl (wpAny_bind (wpAny_field hos hds (x := vu) rfl (wpAny_bind (wpAny_field hos hds (x := .none) rfl (wpAny_pure ?_)))))))
  refine wpAny_bind (slicePart_none ?_)
  show wpAny _ _ (if ((1 : Int) == 0) = true then _ else _) _ _ s
  rw [if_neg (by decide)]
  refine wpAny_bind (slicePart_ pl (wpAny_bind (slicePart_ pu (wpAny_bind (wpAny_pure ?_)))))
  show wpAny _ _ (match Builtin.Slice.sliceAdjust lo hi 1 (n : Int) with | (lo, hi) => pure (lo, (1 : Int), Builtin.Slice.slicePlaces lo hi 1)) _ _ s
  rw [adjust_gen lo hi n]
  show wpAny _ _ (pure (((sIx n 0 lo : Nat) : Int), (1 : Int), Builtin.Slice.slicePlaces ((sIx n 0 lo : Nat) : Int) ((sIx n n hi : Nat) : Int) 1)) _ _ s
  rw [places_gen]
  exact wpAny_pure h
theorem pick_gen (xs : Array Value) (i k : Nat) : ((List.range k).filterMap fun (m : Nat) => xs[((i : Int) + (m : Int) * 1).toNat]?).toArray = ((xs.toList.drop i).take k).toArray := by
  have e : (fun (m : Nat) => xs[((i : Int) + (m : Int) * 1).toNat]?) = fun m => xs[i + m]? := by
    funext m
    have : ((i : Int) + (m : Int) * 1).toNat = i + m := by omega
    rw [this]
  rw [e]
  have := pick_run xs i k
  rw [List.filterMap_map] at this
  have e2 : ((fun x => xs[x]?) ∘ fun x => i + x) = fun m => xs[i + m]? := rfl
  rw [e2] at this
  rw [this]
theorem getItem_tuple_cut {t sl : Addr} {items : Array Value} {vl vu : Value} {lo hi : Option Int} {Q : Value → Shared → Prop} (ht : IsTup s.heap t items) (hs : s.heap.IsSliceOf sl vl vu .none) (pl : IsPart vl lo) (pu : IsPart vu hi)
    (hw : ¬ (sIx items.size 0 lo = 0 ∧ sIx items.size items.size hi = items.size))
    (h : Q (.ref s.heap.objs.size) { s with heap := s.heap.push { cls := .type "tuple", data := .seq ((items.toList.drop (sIx items.size 0 lo)).take (sIx items.size items.size hi - sIx items.size 0 lo)).toArray } })
    (hsz : items.size ≤ sizeLine) : wpAny (model prog w) A (getItem (.ref t) (.ref sl)) Q E s := by
  have htake : sizeOk (.seq ((items.toList.drop (sIx items.size 0 lo)).take (sIx items.size items.size hi - sIx items.size 0 lo)).toArray) := by
    show ((items.toList.drop (sIx items.size 0 lo)).take (sIx items.size items.size hi - sIx items.size 0 lo)).toArray.size ≤ sizeLine
    rw [List.size_toArray, List.length_take, List.length_drop, Array.length_toList]
    omega
  have hj : sIx items.size items.size hi ≤ items.size := sIx_le _ _ (Nat.le_refl _) hi
  obtain ⟨os, hos, hcs, hds⟩ := id hs
  have hTs : s.TypeIs (.ref sl) "slice" := ⟨os, hos, hcs⟩
  unfold getItem
  try with_reducible refine wpAny_holding ?_
  first | refine wpAny_bind (wpAny_pure ?_) | skip
  refine wpAny_bind (wpAny_sequenceKey ht.typeIs (by decide) ?_)
  refine wpAny_bind (wpAny_callSpecial?_slot (name := Str.ofString "__getitem__") ht.typeIs PyProof.Rows.slot_tuple_getitem
    (wpAny_call_entry PyProof.Rows.slot_tuple_getitem ht.typeIs entry_tuple_getitem ?_ (args_tuple_getitem _ _)))
  show wpAny _ _ (Builtin.Tuple.tupleItemsOf (.ref t) >>= _) _ _ s
  refine wpAny_bind (tupleItemsOf_ ht ?_)
  refine wpAny_bind (wpAny_typeOf hTs ?_)
  rw [if_pos (by decide)]
  refine wpAny_bind (sliceApplied_gen hs pl pu ?_)
  have hno : ¬ ((((sIx items.size 0 lo : Nat) : Int) == 0 && (1 : Int) == 1 && (sIx items.size items.size hi - sIx items.size 0 lo) == items.size) = true) := by
    intro q
    rw [Bool.and_eq_true, Bool.and_eq_true] at q
    have q1 : ((sIx items.size 0 lo : Nat) : Int) = 0 := eq_of_beq q.1.1
    have q2 : sIx items.size items.size hi - sIx items.size 0 lo = items.size := eq_of_beq q.2
    exact hw ⟨by omega, by omega⟩
  show wpAny _ _ (if (((sIx items.size 0 lo : Nat) : Int) == 0 && (1 : Int) == 1 && (sIx items.size items.size hi - sIx items.size 0 lo) == items.size) = true then _ else _) _ _ s
  rw [if_neg hno, pick_gen]
  first
    | exact wpAny_bind (m := Builtin.Tuple.tupleExact _) (wpAny_newObj_type (wpAny_pure ⟨_, rfl, wpAny_pure h⟩) htake)
    | exact wpAny_bind (m := Builtin.Tuple.tupleExact _) (wpAny_newObj_type (wpAny_bind (wpAny_pure (wpAny_pure ⟨_, rfl, wpAny_pure h⟩))) htake)
    | exact wpAny_bind (wpAny_bind (m := Builtin.Tuple.tupleExact _) (wpAny_newObj_type (wpAny_pure (wpAny_pure ⟨_, rfl, wpAny_pure h⟩)) htake))
    | exact wpAny_bind (wpAny_bind (m := Builtin.Tuple.tupleExact _) (wpAny_newObj_type (wpAny_pure ⟨_, rfl, wpAny_pure h⟩) htake))
end
end HT
namespace L2
open PySem PySem.Spec PyProof.Rows
abbrev TO := St → Hp → (Option Int → Hp → Prop) → Prop
def PO (X : Cx) (e : Option Expr) (t : TO) : Prop :=
  ∀ (pins : List (Addr × Obj)) (s : Shared) (σ : St) (H : Hp) (Q : Option Int → Hp → Prop), Inv X pins σ H s → t σ H Q →
    wpAny (model X.prog X.w) X.A (evalPart e X.env) (fun u s' => ∃ o H', Inv X pins σ H' s' ∧ IsPart u o ∧ Q o H') X.xe s
def tNoPart : TO := fun _ H Q => Q none H
def tPart (t : TE) : TO := fun σ H Q => t σ H fun x H1 => ∃ i, x = .int i ∧ Q (some i) H1
section
variable {X : Cx} {e : Expr} {te : TE} {lo hi : Option Expr} {tl th : TO} {pos p2 : Pos}
theorem po_none : PO X none tNoPart := by
  intro pins s σ H Q I h
  rw [evalPart_none]
  exact wpAny_pure ⟨none, H, I, .none, h⟩
theorem po_some (h : PE X e te) : PO X (some e) (tPart te) := by
  intro pins s σ H Q I hw
  rw [evalPart_some]
  refine thn (h pins s σ H _ I hw) fun u s1 ⟨x, H1, I1, r1, q1⟩ => ?_
  obtain ⟨i, rfl, q⟩ := q1
  obtain ⟨t, rfl⟩ := r1
  exact ⟨some i, H1, I1, .int i t, q⟩
def SlR (X : Cx) (r : V → Option Int → Option Int → Hp → VK → Prop) : Prop :=
  ∀ (pins : List (Addr × Obj)) (s : Shared) (σ : St) (H : Hp) (x : V) (v vl vu : Value) (lo hi : Option Int) (sl : Addr) (Q : VK), Inv X pins σ H s → RelV x v → s.heap.IsSliceOf sl vl vu .none → IsPart vl lo → IsPart vu hi → r x lo hi H Q →
    ∃ T id, typeLookup (.type T) "__getitem__" = pure (some (.builtin id)) ∧ s.TypeIs v T ∧ wpAny (model X.prog X.w) X.A (getItem v (.ref sl)) (EP X pins σ Q) X.xe s
def tSl (r : V → Option Int → Option Int → Hp → VK → Prop) (te : TE) (tl th : TO) : TE := fun σ H Q => te σ H fun x H1 => tl σ H1 fun l H2 => th σ H2 fun u H3 => r x l u H3 Q
theorem pe_slice {r : V → Option Int → Option Int → Hp → VK → Prop} (hr : SlR X r) (he : PE X e te) (hl : PO X lo tl) (hu : PO X hi th) : PE X (.Subscript e (.Slice lo hi none p2) pos) (tSl r te tl th) := by
  intro pins s σ H Q I h
  refine Subscript_ (thn (he pins s σ H _ I h) fun v s1 ⟨x, H1, I1, r1, q1⟩ => ?_)
  refine wpAny_Slice (thn (hl pins s1 σ H1 _ I1 q1) fun vl s2 ⟨l, H2, I2, pl, q2⟩ => thn (hu pins s2 σ H2 _ I2 q2) fun vu s3 ⟨u, H3, I3, pu, q3⟩ => ?_)
  rw [evalPart_none]
  refine wpAny_pure ?_
  have I4 : Inv X pins σ H3 { s3 with heap := s3.heap.push { cls := .type "slice", data := .fields #[vl, vu, .none] } } := I3.kept (t' := s3.toks) fun b ob q => Heap.get?_push_of_some _ q
  obtain ⟨T, id, hT, ht, hg⟩ := hr pins { s3 with heap := s3.heap.push { cls := .type "slice", data := .fields #[vl, vu, .none] } } σ H3 x v vl vu l u s3.heap.objs.size Q I4 r1 (Heap.IsSliceOf.new ..) pl pu q3
  show wpAny (model X.prog X.w) X.A (subscriptTail e (.Slice lo hi none p2) v (.ref s3.heap.objs.size)) (EP X pins σ Q) X.xe { s3 with heap := s3.heap.push { cls := .type "slice", data := .fields #[vl, vu, .none] } }
  exact tail_any (ops := [.ref s3.heap.objs.size, v]) ht hT hg (by with_unfolding_all rfl)
def cutV (xs : List V) (lo hi : Option Int) : List V := (xs.drop (HT.sIx xs.length 0 lo)).take (HT.sIx xs.length xs.length hi - HT.sIx xs.length 0 lo)
theorem cutV_length (xs : List V) (lo hi : Option Int) : (cutV xs lo hi).length ≤ xs.length := by
  unfold cutV
  rw [List.length_take, List.length_drop]
  omega
def rSlT (K : PySem.W.Frag) : V → Option Int → Option Int → Hp → VK → Prop := fun x lo hi H Q => ∃ a xs, x = .ref a ∧ SqT K H a xs ∧
  ¬ (HT.sIx xs.length 0 lo = 0 ∧ HT.sIx xs.length xs.length hi = xs.length) ∧ ∀ p, H p = none → Q (.ref p) (upd H p (.tup (cutV xs lo hi)))
theorem sl_tup : SlR X (rSlT X.K) := by
  intro pins s σ H x v vl vu lo hi sl Q I rx hs pl pu h
  obtain ⟨a, xs, rfl, hx, hw, q⟩ := h
  cases rx
  obtain ⟨its, r, ht, hz⟩ := I.tuple hx
  have hlen : its.toArray.size = xs.length := by rw [List.size_toArray]; exact r.length.symm
  refine ⟨"tuple", _, PyProof.Rows.slot_tuple_getitem.lookup, ht.typeIs, ?_⟩
  refine HT.getItem_tuple_cut ht hs pl pu (by rw [hlen]; exact hw) ?_ (by rw [hlen]; exact hz)
  rw [hlen]
  refine ⟨.ref s.heap.objs.size, _, I.laid (t' := s.toks) (o := .tup (cutV xs lo hi)) (fun b ob q => Heap.get?_push_of_some _ q) (Nat.le_refl _) ?_, rfl, q _ (I.hok.fresh (Nat.le_refl _))⟩
  exact ⟨Nat.le_trans (cutV_length xs lo hi) hz, _, (r.drop (HT.sIx xs.length 0 lo)).take (HT.sIx xs.length xs.length hi - HT.sIx xs.length 0 lo), IsTup.new _ _⟩
def rCatT (K : PySem.W.Frag) : R2 := fun x y H Q => ∃ a b xs ys, x = .ref a ∧ y = .ref b ∧ SqT K H a xs ∧ SqT K H b ys ∧ xs ≠ [] ∧ xs.length + ys.length ≤ sizeLine ∧
  (ys = [] → Q (.ref a) H) ∧ (ys ≠ [] → ∀ p, H p = none → Q (.ref p) (upd H p (.tup (xs ++ ys))))
theorem Vals.nil_iff {xs : List V} {us : List Value} (r : Vals xs us) : us = [] ↔ xs = [] := by
  cases r with
  | nil => simp
  | cons _ _ => simp
theorem op_catT : OpR X (binaryOp .Add) (rCatT X.K) := by
  intro pins s σ H x y v u Q I rx ry h
  obtain ⟨a, b, xs, ys, rfl, rfl, ha, hb, hx, hz, q1, q2⟩ := h
  cases rx
  cases ry
  obtain ⟨its, r1, p1, _⟩ := I.tuple ha
  obtain ⟨its2, r2, p2, _⟩ := I.tuple hb
  refine HT.cat_tup p1 p2 (fun z => hx (r1.nil_iff.mp z)) (fun z => ⟨.ref a, H, I, rfl, q1 (r2.nil_iff.mp z)⟩) (fun z => ?_) (by rw [← r1.length, ← r2.length]; exact hz)
  refine ⟨.ref s.heap.objs.size, _, I.laid (t' := s.toks) (o := .tup (xs ++ ys)) (fun b ob q => Heap.get?_push_of_some _ q) (Nat.le_refl _) ?_, rfl, q2 (fun w => z (r2.nil_iff.mpr w)) _ (I.hok.fresh (Nat.le_refl _))⟩
  exact ⟨by rw [List.length_append]; exact hz, _, r1.append r2, IsTup.new _ _⟩
end
end L2
namespace L2
open PySem PySem.Spec PyProof.Rows
def ixN (n : Nat) (i : Int) : Option Nat := if 0 ≤ i then (if i < n then some i.toNat else none) else if -(n : Int) ≤ i then some (i + n).toNat else none
def atI {α : Type} (xs : List α) (i : Int) : Option α := (ixN xs.length i).bind fun j => xs[j]?
theorem ixN_seq {n : Nat} {i : Int} {j : Nat} (h : ixN n i = some j) : seqIndex? i n = some j ∧ j < n ∧ -(n : Int) ≤ i ∧ i < n := by
  unfold ixN at h
  by_cases h0 : 0 ≤ i
  · rw [if_pos h0] at h
    by_cases h1 : i < n
    · rw [if_pos h1] at h
      have e : i.toNat = j := Option.some.inj h
      exact ⟨by rw [seqIndex_of h0 h1, e], by omega, by omega, h1⟩
    · rw [if_neg h1] at h; cases h
  · rw [if_neg h0] at h
    by_cases h1 : -(n : Int) ≤ i
    · rw [if_pos h1] at h
      have e : (i + n).toNat = j := Option.some.inj h
      exact ⟨by rw [seqIndex_neg (by omega) h1, e], by omega, h1, by omega⟩
    · rw [if_neg h1] at h; cases h
theorem atI_get {α : Type} {xs : List α} {i : Int} {v : α} (h : atI xs i = some v) : ∃ j, seqIndex? i xs.length = some j ∧ xs[j]? = some v ∧ j < xs.length ∧ -(xs.length : Int) ≤ i ∧ i < xs.length := by
  unfold atI at h
  cases e : ixN xs.length i with
  | none => rw [e] at h; cases h
  | some j =>
    rw [e] at h
    obtain ⟨h1, h2, h3, h4⟩ := ixN_seq e
    exact ⟨j, h1, h, h2, h3, h4⟩
theorem atI_nat {α : Type} {xs : List α} {j : Nat} {v : α} (h : xs[j]? = some v) : atI xs (j : Int) = some v := by
  have hj : j < xs.length := (List.getElem?_eq_some_iff.mp h).1
  have e : ixN xs.length (j : Int) = some j := by
    unfold ixN
    rw [if_pos (by omega), if_pos (by omega)]; simp
  unfold atI; rw [e]; exact h
def PlainIx (b : Expr) : Prop := ∀ o i, subscripted b false o i = operate [o, i] (getItem o i)
def IxR (X : Cx) (r : R2) : Prop :=
  ∀ (value slice : Expr) (pins : List (Addr × Obj)) (s : Shared) (σ : St) (H : Hp) (x y : V) (v u : Value) (Q : VK), Inv X pins σ H s → RelV x v → RelV y u → r x y H Q →
    subscripted slice false v u = operate [v, u] (getItem v u) → wpAny (model X.prog X.w) X.A (subscriptTail value slice v u) (EP X pins σ Q) X.xe s
def MtR (X : Cx) (id : String) (r : V → List V → Hp → VK → Prop) : Prop :=
  ∀ (pins : List (Addr × Obj)) (s : Shared) (σ : St) (H : Hp) (x : V) (xs : List V) (v : Value) (us : List Value) (Q : VK), Inv X pins σ H s → RelV x v → Vals xs us → r x xs H Q →
    wpAny (model X.prog X.w) X.A (call (.builtin id) (v :: us)) (EP X pins σ Q) X.xe s
section
variable {X : Cx} {a b : Expr} {ta tb : TE} {pos : Pos}
theorem pe_ix {r : R2} (hr : IxR X r) (ha : PE X a ta) (hb : PE X b tb) (hs : PlainIx b) : PE X (.Subscript a b pos) (tOp r ta tb) := by
  intro pins s σ H Q I h
  exact Subscript_ (binT ha hb I h fun v u s2 x y H2 I2 rx ry q => hr a b pins s2 σ H2 x y v u Q I2 rx ry q (hs _ _))
def rIxL (K : PySem.W.Frag) : R2 := fun x y H Q => ∃ p xs i v, x = .ref p ∧ y = .int i ∧ SqL K H p xs ∧ atI xs i = some v ∧ Q v H
def rIxT (K : PySem.W.Frag) : R2 := fun x y H Q => ∃ p xs i v, x = .ref p ∧ y = .int i ∧ SqT K H p xs ∧ atI xs i = some v ∧ Q v H
def rIxS : R2 := fun x y H Q => ∃ z i c, x = .str z ∧ y = .int i ∧ z.length ≤ sizeLine ∧ atI z.cps.toList i = some c ∧ Q (.str ⟨#[c]⟩) H
theorem ix_list : IxR X (rIxL X.K) := by
  intro value slice pins s σ H x y v u Q I rx ry h hs
  obtain ⟨p, xs, i, z, rfl, rfl, hq, he, q⟩ := h
  cases rx
  obtain ⟨t, rfl⟩ := ry
  obtain ⟨its, r, pl, hz⟩ := I.list hq
  obtain ⟨j, h1, h2, h3, h4, h5⟩ := atI_get he
  obtain ⟨w, ew, rw'⟩ := r.get h2
  have hl := r.length
  have hn := line63
  have fin : EP X pins σ Q w s := ⟨z, H, I, rw', q⟩
  by_cases h0 : 0 ≤ i
  · have hj : i.toNat = j := by
      rw [seqIndex_of h0 h5] at h1
      exact Option.some.inj h1
    exact item_listR pl.isList h0 (by omega) (by rw [hj]; simpa using ew) fin hs
  · have hj : (i + (its.toArray.size : Int)).toNat = j := by
      rw [seqIndex_neg (by omega) h4] at h1
      rw [List.size_toArray, ← hl]
      exact Option.some.inj h1
    exact subscriptTail_builtinR (x := w) pl.isList.typeIs slot_list_getitem.lookup
      (wpAny_getItem_list_neg (Q := fun r s' => r = w ∧ EP X pins σ Q r s') pl.isList (by omega) (by rw [List.size_toArray] <;> omega) (by omega) (by rw [hj]; simpa using ew) ⟨rfl, fin⟩) hs
theorem ix_tup : IxR X (rIxT X.K) := by
  intro value slice pins s σ H x y v u Q I rx ry h hs
  obtain ⟨p, xs, i, z, rfl, rfl, hq, he, q⟩ := h
  cases rx
  obtain ⟨t, rfl⟩ := ry
  obtain ⟨its, r, pl, hz⟩ := I.tuple hq
  obtain ⟨j, h1, h2, h3, h4, h5⟩ := atI_get he
  obtain ⟨w, ew, rw'⟩ := r.get h2
  have hl := r.length
  have hn := line63
  have fin : EP X pins σ Q w s := ⟨z, H, I, rw', q⟩
  exact subscriptTail_builtinR (x := w) pl.typeIs slot_tuple_getitem.lookup
    (getItem_tuple (j := j) (Q := fun r s' => r = w ∧ EP X pins σ Q r s') pl (by omega) (by omega) (by rw [List.size_toArray, ← hl]; exact h1) (by simpa using ew) ⟨rfl, fin⟩) hs
theorem ix_str : IxR X rIxS := by
  intro value slice pins s σ H x y v u Q I rx ry h hs
  obtain ⟨z, i, c, rfl, rfl, hz, he, q⟩ := h
  obtain ⟨t, rfl⟩ := rx
  obtain ⟨t', rfl⟩ := ry
  obtain ⟨j, h1, h2, h3, h4, h5⟩ := atI_get he
  have hl : z.cps.toList.length = z.length := by simp [Str.length]
  rw [hl] at h1 h4 h5
  have hn := line63
  exact tail_any (typeIs_str s z t) slot_str_getitem.lookup (getItem_str (c := c) (by
    have e1 : decide (i < -(2 ^ 63 : Int)) = false := decide_eq_false (by omega)
    have e2 : decide (i ≥ 2 ^ 63) = false := decide_eq_false (by omega)
    rw [e1, e2, Bool.or_false]) (by rw [h1]; simpa using h2) ⟨.str ⟨#[c]⟩, H, I.tok _, ⟨_, rfl⟩, q⟩) hs
theorem mapSeq_set (its : List Value) (n j : Nat) (u : Value) : Obj.mapSeq (·.setIfInBounds j u) { cls := .type "list", data := .seq its.toArray n } = { cls := .type "list", data := .seq (its.set j u).toArray n } := by
  simp [Obj.mapSeq]
theorem Inv.lst {pins : List (Addr × Obj)} {σ : St} {H : Hp} {s : Shared} {p : Addr} {xs : List V} (I : Inv X pins σ H s) (h : H p = some (.lst xs)) :
    ∃ (its : List Value) (n : Nat), Vals xs its ∧ s.heap.get? p = some { cls := .type "list", data := .seq its.toArray n } ∧ xs.length ≤ sizeLine := by
  obtain ⟨z, its, n, r, e⟩ := I.hok p _ h
  exact ⟨its, n, r, e, z⟩
theorem Inv.lstUpd {pins : List (Addr × Obj)} {σ : St} {H : Hp} {s : Shared} {p : Addr} {xs ys : List V} {its its' : List Value} {n n' : Nat} {f : Obj → Obj} (I : Inv X pins σ H s) (h : H p = some (.lst xs))
    (ho : s.heap.get? p = some { cls := .type "list", data := .seq its.toArray n }) (hf : f { cls := .type "list", data := .seq its.toArray n } = { cls := .type "list", data := .seq its'.toArray n' }) (r : Vals ys its') (hz : ys.length ≤ sizeLine) (t : Nat) :
    Inv X pins σ (upd H p (.lst ys)) { s with heap := s.heap.update p f, toks := t } := by
  have e : (s.heap.update p f).get? p = some { cls := .type "list", data := .seq its'.toArray n' } := by
    rw [Heap.get?_update_self f ho (by rw [hf] <;> rfl), hf]
  refine I.write (x := p) (e := p) (by rw [h]; trivial) (.inl rfl) (fun b u hb q => (Heap.get?_update_other _ _ (Ne.symm hb)).trans q) ⟨_, e⟩ ?_
  exact ⟨hz, its', n', r, e⟩
def rSetL : V → V → V → Hp → (Hp → Prop) → Prop := fun o i v H Q => ∃ p xs k j, o = .ref p ∧ i = .int k ∧ H p = some (.lst xs) ∧ ixN xs.length k = some j ∧ Q (upd H p (.lst (xs.set j v)))
theorem set_list : PSet X rSetL := by
  intro pins s σ H o i v ov iv u Q I ro ri rv h
  obtain ⟨p, xs, k, j, rfl, rfl, hp, hj, q⟩ := h
  cases ro
  obtain ⟨t, rfl⟩ := ri
  obtain ⟨its, n, r, ho, hz⟩ := I.lst hp
  obtain ⟨h1, h2, h3, h4⟩ := ixN_seq hj
  have hl := r.length
  have hn := line63
  have I' : Inv X pins σ (upd H p (.lst (xs.set j v))) { s with heap := s.heap.update p (Obj.mapSeq (·.setIfInBounds j u)) } :=
    I.lstUpd hp ho (mapSeq_set its n j u) (r.set rv j) (by rw [List.length_set]; exact hz) s.toks
  by_cases h0 : 0 ≤ k
  · have hk : k.toNat = j := by
      rw [seqIndex_of h0 h4] at h1
      exact Option.some.inj h1
    exact PySem.W.ki_setAt ho h0 (by omega) (by rw [List.size_toArray, ← hl]; exact h4) (by rw [hk]; exact ⟨_, I', q⟩)
  · have hk : (k + (its.toArray.size : Int)).toNat = j := by
      rw [seqIndex_neg (by omega) h3] at h1
      rw [List.size_toArray, ← hl]
      exact Option.some.inj h1
    exact PySem.W.ki_setBack ho (by omega) (by rw [List.size_toArray, ← hl]; exact h3) (by omega) (by rw [hk]; exact ⟨_, I', q⟩)
theorem call_len_seq : CallR X (.builtin "len") (fun xs H Q => ∃ p ys, xs = [.ref p] ∧ (SqL X.K H p ys ∨ SqT X.K H p ys) ∧ Q (.int ys.length) H) := by
  intro pins s σ H xs us Q I r h
  obtain ⟨p, ys, rfl, hq, q⟩ := h
  obtain ⟨u, rfl, rx⟩ := vals1 r
  cases rx
  have hn := line63
  rcases hq with hq | hq
  · obtain ⟨its, r', pl, hz⟩ := I.list hq
    have hlen := r'.length
    exact Calls.call_len_list pl.isList (by simp only [List.size_toArray] <;> omega) ⟨.int ys.length, H, I.tok _, ⟨s.toks + 1, by rw [List.size_toArray, hlen]⟩, q⟩
  · obtain ⟨its, r', pl, hz⟩ := I.tuple hq
    have hlen := r'.length
    exact len_tuple pl (by simp only [List.size_toArray] <;> omega) ⟨.int ys.length, H, I.tok _, ⟨s.toks + 1, by rw [List.size_toArray, hlen]⟩, q⟩
def tyV (K : PySem.W.Frag) (T : String) (x : V) (H : Hp) : Prop := match x with
  | .str _ => T = "str"
  | .int _ => T = "int"
  | .ref p => (T = "list" ∧ ∃ xs, SqL K H p xs) ∨ (T = "tuple" ∧ ∃ o, K.lookup p = some o ∧ o.cls = .type "tuple" ∧ o.dict = none) ∨
      (T = "dict" ∧ ((∃ kvs, H p = some (.dK kvs)) ∨ ∃ kvs, H p = some (.dT kvs))) ∨ (T = "set" ∧ ∃ S n, H p = some (.set S n))
  | _ => False
theorem tyV_is {pins : List (Addr × Obj)} {σ : St} {H : Hp} {s : Shared} {T : String} {x : V} {v : Value} (I : Inv X pins σ H s) (r : RelV x v) (ty : tyV X.K T x H) :
    s.TypeIs v T ∧ ∀ a, v = .ref a → ∃ ob, s.heap.get? a = some ob ∧ ob.dict = none := by
  cases x with
  | str z =>
    obtain ⟨t, rfl⟩ := r
    cases (show T = "str" from ty)
    exact ⟨typeIs_str s z t, fun _ e => nomatch e⟩
  | int i =>
    obtain ⟨t, rfl⟩ := r
    cases (show T = "int" from ty)
    exact ⟨typeIs_int s i t, fun _ e => nomatch e⟩
  | ref p =>
    cases r
    rcases ty with ⟨rfl, xs, hq⟩ | ⟨rfl, o, hk, hc, hd⟩ | ⟨rfl, hk⟩ | ⟨rfl, S, n, hk⟩
    · obtain ⟨its, _, pl, _⟩ := I.list hq
      refine ⟨pl.isList.typeIs, fun a e => ?_⟩
      cases e
      obtain ⟨o, n, e, c, hd, _⟩ := pl
      exact ⟨o, e, hd⟩
    · refine ⟨⟨o, I.kIn p o hk, hc⟩, fun a e => ?_⟩
      cases e
      exact ⟨o, I.kIn _ o hk, hd⟩
    · have z : ∃ o, s.heap.get? p = some o ∧ o.ExactDict := by
        rcases hk with ⟨kvs, hk⟩ | ⟨kvs, hk⟩
        · obtain ⟨_, _, _, _, o, _, _, e, ex, _⟩ := I.hok p _ hk
          exact ⟨o, e, ex⟩
        · obtain ⟨_, _, _, _, o, _, _, e, ex, _⟩ := I.hok p _ hk
          exact ⟨o, e, ex⟩
      obtain ⟨o, e, ex⟩ := z
      refine ⟨⟨o, e, ex.1⟩, fun a e2 => ?_⟩
      cases e2
      exact ⟨o, e, ex.2.1⟩
    · obtain ⟨o, _, _, _, e, ex, _⟩ := I.hok p _ hk
      refine ⟨⟨o, e, ex.1⟩, fun a e2 => ?_⟩
      cases e2
      exact ⟨o, e, ex.2.1⟩
  | _ => exact False.elim ty
def tBM (K : PySem.W.Frag) (T : String) (r : V → List V → Hp → VK → Prop) (to : TE) (t : TA) : TE := fun σ H Q => to σ H fun x H1 => tyV K T x H1 ∧ t σ H1 fun xs H2 => r x xs H2 Q
variable {o e : Expr} {es : List Expr} {to : TE} {t : TA} {name : Str} {apos cpos : Pos} {T id : String} {r : V → List V → Hp → VK → Prop}
theorem pe_bm (pa : PlainAttrs T) (slot : Slot T name id) (hty : typeOf (.builtin id) = pure (.type "method_descriptor")) (hm : MtR X id r) (ho : PE X o to) (ha : PA X (e :: es) t)
    (hbase : attributeBase o name X.env (eval o X.env) = eval o X.env := by rfl)
    (hfew : ((backTo cpos (starEach (e :: es) X.env)).all (fun x => !x.1) && (backToKw cpos (keywordEach [] X.env)).all (fun x => x.1.isSome)
      && decide ((e :: es).length + ([] : List Keyword).length + (if ([] : List Keyword).isEmpty then 0 else 1) < 30)) = true := by rfl)
    (hline : (apos.endLine == cpos.line) = true := by rfl) (hs : starEach (e :: es) X.env = (false, eval e X.env) :: starEach es X.env := by rfl) (hplain : (backTo cpos (starEach es X.env)).any (·.1) = false := by rfl) :
    PE X (.Call (.Attribute o name apos) (e :: es) [] cpos) (tBM X.K T r to t) := by
  intro pins s σ H Q I h
  refine wpAny_Call_method_late hbase hfew hline rfl (thn (ho pins s σ H _ I h) fun v s1 ⟨x, H1, I1, r1, ty, q1⟩ => ?_)
  obtain ⟨h1, h2⟩ := tyV_is I1 r1 ty
  refine ⟨T, id, pa, slot, hty, h1, h2, ?_⟩
  have hA := ha cpos pins s1 σ H1 _ I1 q1
  rw [hs] at hA ⊢
  refine Calls.callWith_builtin (by show (false || (backTo cpos (starEach es X.env)).any (·.1)) = false; rw [hplain] <;> rfl) (Calls.evalArgs_plain ?_)
  exact thn hA fun us s2 ⟨vs, H2, I2, r2, q2⟩ => hm pins s2 σ H2 x vs v us Q I2 r1 r2 q2
end
end L2
namespace L2
open PySem PySem.Spec PyProof.Rows
def MtM (X : Cx) (id : String) (r : V → List V → Hp → VK → Prop) : Prop :=
  ∀ (pins : List (Addr × Obj)) (s : Shared) (σ : St) (H : Hp) (x : V) (xs : List V) (v : Value) (us : List Value) (Q : VK), Inv X pins σ H s → RelV x v → Vals xs us → r x xs H Q →
    wpAny (model X.prog X.w) X.A (call (.builtin id) (v :: us)) (EP X pins σ Q) X.xe s
theorem Vals.one : ∀ {x : V} {us : List Value}, Vals [x] us → ∃ u, us = [u] ∧ RelV x u
  | _, _, .cons r .nil => ⟨_, rfl, r⟩
theorem Vals.zero : ∀ {us : List Value}, Vals [] us → us = []
  | _, .nil => rfl
theorem Vals.reverse {xs : List V} {us : List Value} (h : Vals xs us) : Vals xs.reverse us.reverse := by
  induction h with
  | nil => exact .nil
  | cons r t ih => rw [List.reverse_cons, List.reverse_cons]; exact Vals.append ih (.cons r .nil)
section
variable {X : Cx} {pins : List (Addr × Obj)} {σ : St} {H : Hp} {s : Shared} {l b : Addr} {xs ys zs : List V}
theorem Inv.lset {its its' : List Value} {n : Nat} {f : Array Value → Array Value} {t' : Nat} (I : Inv X pins σ H s) (hH : H l = some (.lst xs))
    (e : s.heap.get? l = some { cls := .type "list", data := .seq its.toArray n }) (hf : f its.toArray = its'.toArray) (hv : Vals ys its') (hz : ys.length ≤ sizeLine) :
    Inv X pins σ (upd H l (.lst ys)) { s with heap := s.heap.update l (Obj.mapSeq f), toks := t' } := by
  have q := PySem.IsL.update e f
  rw [hf] at q
  refine I.write (x := l) (e := l) (by rw [hH]; exact trivial) (.inl rfl) (fun b' u hb hu => (Heap.get?_update_other s.heap (Obj.mapSeq f) (Ne.symm hb)).trans hu) ⟨_, q⟩ ?_
  exact ⟨hz, its', _, hv, q⟩
theorem Inv.lnew {its : List Value} {t' : Nat} (I : Inv X pins σ H s) (hv : Vals ys its) (hz : ys.length ≤ sizeLine) :
    Inv X pins σ (upd H s.heap.objs.size (.lst ys)) { s with heap := s.heap.push { cls := .type "list", data := .seq its.toArray }, toks := t' } :=
  I.laid (fun _ _ q => Heap.get?_push_of_some _ q) (Nat.le_refl _) ⟨hz, its, 0, hv, Heap.get?_push_size _ rfl⟩
theorem Inv.fresh (I : Inv X pins σ H s) : H s.heap.objs.size = none := I.hok.fresh (Nat.le_refl _)
theorem Inv.lstM (I : Inv X pins σ H s) (hH : H l = some (.lst xs)) : xs.length ≤ sizeLine ∧ ∃ (its : List Value) (n : Nat), Vals xs its ∧ xs.length = its.length ∧ s.heap.get? l = some { cls := .type "list", data := .seq its.toArray n } := by
  obtain ⟨z, its, n, r, e⟩ := I.hok l _ hH
  exact ⟨z, its, n, r, r.length, e⟩
end
section
variable {X : Cx}
def rAppend : V → List V → Hp → VK → Prop := fun x vs H Q => ∃ l xs y, x = .ref l ∧ vs = [y] ∧ H l = some (.lst xs) ∧ xs.length < sizeLine ∧ Q .non (upd H l (.lst (xs ++ [y])))
theorem mt_append : MtM X "list.append" rAppend := by
  intro pins s σ H x vs v us Q I rx rv h
  obtain ⟨l, xs, y, rfl, rfl, hH, hz, q⟩ := h
  cases rx
  obtain ⟨u, rfl, ru⟩ := rv.one
  obtain ⟨z, its, n, r, hl, e⟩ := I.lstM hH
  refine call_meets F.slot_list_append ⟨_, e, rfl⟩ F.entry_list_append (F.args_list_append_2 _ _) (PySem.list_append l its.toArray n u (by rw [List.size_toArray]; omega)) ⟨e, ?_⟩
  refine ⟨.non, _, I.lset (its' := its ++ [u]) hH e (by simp) (r.append (.cons ru .nil)) ?_, rfl, q⟩
  rw [List.length_append, List.length_singleton]
  omega
end
section
variable {prog : Program} {w : World} {A : Around} {E : Value → Shared → Prop} {s : Shared}
end
section
variable {X : Cx}
end
end L2
namespace L2
open PySem PySem.Spec PyProof.Rows
section
variable {κ : Type} [DecidableEq κ]
def valV (kvs : List (κ × V)) (k : κ) : Option V := (kvs.find? fun kv => decide (kv.1 = k)).map (·.2)
def putK (kvs : List (κ × V)) (k : κ) (v : V) : List (κ × V) :=
  if (kvs.any fun kv => decide (kv.1 = k)) = true then kvs.map (fun kv => if kv.1 = k then (kv.1, v) else kv) else kvs ++ [(k, v)]
theorem valV_pos {p : κ × V} {r : List (κ × V)} {k : κ} (e : p.1 = k) : valV (p :: r) k = some p.2 := by simp [valV, List.find?_cons, e]
theorem valV_neg {p : κ × V} {r : List (κ × V)} {k : κ} (e : ¬ p.1 = k) : valV (p :: r) k = valV r k := by simp [valV, List.find?_cons, e]
theorem valV_any (k : κ) : ∀ kvs : List (κ × V), (kvs.any fun kv => decide (kv.1 = k)) = (valV kvs k).isSome
  | [] => rfl
  | p :: r => by
    rw [List.any_cons]
    by_cases e : p.1 = k
    · simp only [valV_pos e, decide_eq_true e, Bool.true_or, Option.isSome_some]
    · rw [valV_neg e, decide_eq_false e, Bool.false_or]; exact valV_any k r
theorem length_putK (kvs : List (κ × V)) (k : κ) (v : V) : (putK kvs k v).length ≤ kvs.length + 1 := by
  unfold putK
  split
  · rw [List.length_map]; omega
  · rw [List.length_append, List.length_cons, List.length_nil]; omega
theorem RelO.isSome_eq {o : Option V} {u : Option Value} (r : RelO o u) : o.isSome = u.isSome := by
  cases o with
  | none => cases u with
    | none => rfl
    | some _ => exact (show False from r).elim
  | some _ => cases u with
    | none => exact (show False from r).elim
    | some _ => rfl
theorem RelO.getD {o : Option V} {u : Option Value} {d : V} {d' : Value} (r : RelO o u) (rd : RelV d d') : RelV (o.getD d) (u.getD d') := by
  cases o with
  | none => cases u with
    | none => exact rd
    | some _ => exact (show False from r).elim
  | some _ => cases u with
    | none => exact (show False from r).elim
    | some _ => exact r
theorem KV.val {kvs : List (κ × V)} {vs : List (κ × Value)} (r : KV kvs vs) (k : κ) : RelO (valV kvs k) (valueAt vs k) := by
  unfold KV at r
  induction r with
  | nil => exact True.intro
  | @cons p q ps qs h t ih =>
    obtain ⟨h1, h2⟩ := h
    by_cases e : p.1 = k
    · have e' : q.1 = k := h1.symm.trans e
      have b : valueAt (q :: qs) k = some q.2 := by simp [valueAt, List.find?_cons, e']
      rw [valV_pos e, b]; exact h2
    · have e' : ¬ q.1 = k := fun z => e (h1.trans z)
      have b : valueAt (q :: qs) k = valueAt qs k := by simp [valueAt, List.find?_cons, e']
      rw [valV_neg e, b]; exact ih
theorem KV.any {kvs : List (κ × V)} {vs : List (κ × Value)} (r : KV kvs vs) (k : κ) : (kvs.any fun kv => decide (kv.1 = k)) = vs.any fun kv => decide (kv.1 = k) := by
  unfold KV at r
  induction r with
  | nil => rfl
  | cons h t ih => rw [List.any_cons, List.any_cons, ih, h.1]
theorem KV.repl {kvs : List (κ × V)} {vs : List (κ × Value)} (r : KV kvs vs) (k : κ) {y : V} {u : Value} (ry : RelV y u) :
    KV (kvs.map fun kv => if kv.1 = k then (kv.1, y) else kv) (vs.map fun kv => if kv.1 = k then (kv.1, u) else kv) := by
  unfold KV at r ⊢
  induction r with
  | nil => exact .nil
  | @cons p q ps qs h t ih =>
    rw [List.map_cons, List.map_cons]
    refine .cons ?_ ih
    obtain ⟨h1, h2⟩ := h
    by_cases e : p.1 = k
    · rw [if_pos e, if_pos (h1.symm.trans e)]; exact ⟨h1, ry⟩
    · rw [if_neg e, if_neg (fun z => e (h1.trans z))]; exact ⟨h1, h2⟩
theorem KV.put {kvs : List (κ × V)} {vs : List (κ × Value)} (r : KV kvs vs) (k : κ) {y : V} {u : Value} (ry : RelV y u) : KV (putK kvs k y) (stored vs k u) := by
  unfold putK stored
  rw [r.any k]
  by_cases e : (vs.any fun kv => decide (kv.1 = k)) = true
  · rw [if_pos e, if_pos e]; exact r.repl k ry
  · rw [if_neg e, if_neg e]; exact Paired.snoc r ⟨rfl, ry⟩
theorem KV.keys {kvs : List (κ × V)} {vs : List (κ × Value)} (r : KV kvs vs) : kvs.map (·.1) = vs.map (·.1) := by
  unfold KV at r
  induction r with
  | nil => rfl
  | cons h t ih => rw [List.map_cons, List.map_cons, ih, h.1]
theorem KV.length {kvs : List (κ × V)} {vs : List (κ × Value)} (r : KV kvs vs) : kvs.length = vs.length := Paired.length r
end
theorem kV_is {P : Program} {w : World} {k : Key} {u : Value} (r : RelV (kV k) u) : (mixKind P w).is k u = true := by
  cases k with
  | inl i => obtain ⟨t, e⟩ := (show ∃ t, u = Value.int i t from r); subst e; exact mixKind_int P w i t
  | inr x => obtain ⟨t, e⟩ := (show ∃ t, u = Value.str x t from r); subst e; exact mixKind_str P w x t
theorem items_are {P : Program} {w : World} : ∀ {ks : List Key} {us : List Value}, Vals (ks.map kV) us → ItemsAre (mixKind P w) ks us
  | [], _, r => by rw [List.map_nil] at r; cases r; exact .nil
  | k :: ks, _, r => by
    rw [List.map_cons] at r
    cases r with
    | cons h t => exact .cons (kV_is h) (items_are t)
abbrev KT (H : Hp) : List (List Key × V) → List (List Key × Addr × Value) → Prop := Paired fun p q => p.1 = q.1 ∧ H q.2.1 = some (.tup (p.1.map kV)) ∧ RelV p.2 q.2.2
theorem KT.val {H : Hp} {kvs : List (List Key × V)} {xs : List (List Key × Addr × Value)} (r : KT H kvs xs) (k : List Key) : RelO (valV kvs k) ((atKey xs k).map (·.2)) := by
  induction r with
  | nil => exact True.intro
  | @cons p q ps qs h t ih =>
    obtain ⟨h1, _, h2⟩ := h
    by_cases e : p.1 = k
    · have e' : q.1 = k := h1.symm.trans e
      have b : atKey (q :: qs) k = some q.2 := by simp [atKey, List.find?_cons, e']
      rw [valV_pos e, b]; exact h2
    · have e' : ¬ q.1 = k := fun z => e (h1.trans z)
      have b : atKey (q :: qs) k = atKey qs k := by simp [atKey, List.find?_cons, e']
      rw [valV_neg e, b]; exact ih
theorem KT.repl {H : Hp} {kvs : List (List Key × V)} {xs : List (List Key × Addr × Value)} (r : KT H kvs xs) (k : List Key) {y : V} {u : Value} (ry : RelV y u) :
    KT H (kvs.map fun kv => if kv.1 = k then (kv.1, y) else kv) (xs.map (putAt k u)) := by
  induction r with
  | nil => exact .nil
  | @cons p q ps qs h t ih =>
    rw [List.map_cons, List.map_cons]
    refine .cons ?_ ih
    obtain ⟨h1, h2, h3⟩ := h
    unfold putAt
    by_cases e : p.1 = k
    · rw [if_pos e, if_pos (h1.symm.trans e)]; exact ⟨h1, h2, ry⟩
    · rw [if_neg e, if_neg (fun z => e (h1.trans z))]; exact ⟨h1, h2, h3⟩
theorem KT.put {H : Hp} {kvs : List (List Key × V)} {xs : List (List Key × Addr × Value)} (r : KT H kvs xs) (k : List Key) {b : Addr} {y : V} {u : Value} (hb : H b = some (.tup (k.map kV))) (ry : RelV y u) :
    KT H (putK kvs k y) (storedH xs k b u) := by
  have e : (kvs.any fun kv => decide (kv.1 = k)) = (atKey xs k).isSome := by
    rw [valV_any, (r.val k).isSome_eq, Option.isSome_map]
  unfold putK storedH
  rw [e]
  by_cases q : (atKey xs k).isSome = true
  · rw [if_pos q, if_pos q]; exact r.repl k ry
  · rw [if_neg q, if_neg q]; exact Paired.snoc r ⟨rfl, hb, ry⟩
theorem KT.keeps {H H' : Hp} {kvs : List (List Key × V)} {xs : List (List Key × Addr × Value)} (r : KT H kvs xs) (ht : ∀ b ys, H b = some (.tup ys) → H' b = some (.tup ys)) : KT H' kvs xs :=
  Paired.mapP r fun _ _ z => ⟨z.1, ht _ _ z.2.1, z.2.2⟩
section
variable {P : Program} {w : World} {H : Hp} {h : Heap} {a : Addr}
theorem rd_of {u : HO} (ok : HOk P w H h) (e : Rd H a u) : ObjOk P w H h a u := e.ok ok
theorem dk_rd {kvs : List (Key × V)} (ok : HOk P w H h) (e : Rd H a (.dK kvs)) : kvs.length ≤ sizeLine ∧ (a == sysModules) = false ∧ ∃ vs, KV kvs vs ∧ h.DictOf (mixKind P w) a vs :=
  show ObjOk P w H h a (.dK kvs) from rd_of ok e
theorem dk_of {kvs : List (Key × V)} (ok : HOk P w H h) (e : H a = some (.dK kvs)) : kvs.length ≤ sizeLine ∧ (a == sysModules) = false ∧ ∃ vs, KV kvs vs ∧ h.DictOf (mixKind P w) a vs := dk_rd ok (.inl e)
theorem key_of {ks : List Key} (ok : HOk P w H h) (e : H a = some (.tup (ks.map kV))) : (tupleKind (mixKind P w)).is h ks a := by
  obtain ⟨_, its, r, o, h1, h2, n, h3⟩ := (show ObjOk P w H h a (.tup (ks.map kV)) from ok a _ e)
  exact ⟨o, its.toArray, n, h1, h2, h3, by simpa using items_are r⟩
theorem dt_rd {kvs : List (List Key × V)} (ok : HOk P w H h) (e : Rd H a (.dT kvs)) : kvs.length ≤ sizeLine ∧ (a == sysModules) = false ∧
    ∃ xs, KT H kvs xs ∧ h.DictOfH (tupleKind (mixKind P w)) a xs := by
  obtain ⟨z, y, xs, r, o, es, ep, h1, h2, h3, h4, h5⟩ := (show ObjOk P w H h a (.dT kvs) from rd_of ok e)
  refine ⟨z, y, xs, r, o, es, ep, h1, h2, h3, h4, fun x hx => ?_, h5⟩
  have all : ∀ {l : List (List Key × V)} {m : List (List Key × Addr × Value)}, KT H l m → ∀ x ∈ m, (tupleKind (mixKind P w)).is h x.1 x.2.1 := by
    intro l m q
    induction q with
    | nil => intro x hx; exact nomatch hx
    | @cons p q ps qs hq t ih =>
      intro x hx
      rcases List.mem_cons.mp hx with e | hx
      · subst e
        exact key_of ok (by rw [← hq.1]; exact hq.2.1)
      · exact ih x hx
  exact all r x hx
theorem dt_of {kvs : List (List Key × V)} (ok : HOk P w H h) (e : H a = some (.dT kvs)) : kvs.length ≤ sizeLine ∧ (a == sysModules) = false ∧
    ∃ xs, KT H kvs xs ∧ h.DictOfH (tupleKind (mixKind P w)) a xs := dt_rd ok (.inl e)
end
def DGet (H : Hp) (a : Addr) (y : V) (r : Option V) : Prop :=
  (∃ kvs k, Rd H a (.dK kvs) ∧ y = kV k ∧ r = valV kvs k) ∨ ∃ kvs k b, Rd H a (.dT kvs) ∧ y = .ref b ∧ H b = some (.tup (k.map kV)) ∧ r = valV kvs k
def DPut (H : Hp) (a : Addr) (y v : V) (H' : Hp) : Prop :=
  (∃ kvs k, H a = some (.dK kvs) ∧ y = kV k ∧ kvs.length < sizeLine ∧ H' = upd H a (.dK (putK kvs k v))) ∨
  ∃ kvs k b, H a = some (.dT kvs) ∧ y = .ref b ∧ H b = some (.tup (k.map kV)) ∧ kvs.length < sizeLine ∧ H' = upd H a (.dT (putK kvs k v))
theorem DGet.k {H : Hp} {a : Addr} {kvs : List (Key × V)} {k : Key} (e : H a = some (.dK kvs)) : DGet H a (kV k) (valV kvs k) := .inl ⟨kvs, k, .inl e, rfl, rfl⟩
theorem DGet.t {H : Hp} {a b : Addr} {kvs : List (List Key × V)} {k : List Key} (e : H a = some (.dT kvs)) (eb : H b = some (.tup (k.map kV))) : DGet H a (.ref b) (valV kvs k) := .inr ⟨kvs, k, b, .inl e, rfl, eb, rfl⟩
theorem DPut.k {H : Hp} {a : Addr} {kvs : List (Key × V)} {k : Key} {v : V} (e : H a = some (.dK kvs)) (hl : kvs.length < sizeLine) : DPut H a (kV k) v (upd H a (.dK (putK kvs k v))) := .inl ⟨kvs, k, e, rfl, hl, rfl⟩
theorem DPut.t {H : Hp} {a b : Addr} {kvs : List (List Key × V)} {k : List Key} {v : V} (e : H a = some (.dT kvs)) (eb : H b = some (.tup (k.map kV))) (hl : kvs.length < sizeLine) :
    DPut H a (.ref b) v (upd H a (.dT (putK kvs k v))) := .inr ⟨kvs, k, b, e, rfl, eb, hl, rfl⟩
section
variable {X : Cx} {pins : List (Addr × Obj)} {σ : St} {H : Hp} {s : Shared} {a : Addr} {y v : V} {u r : Value} {o : Option V} {A : Around} {E : Value → Shared → Prop}
theorem Inv.big (I : Inv X pins σ H s) : sysModules < s.heap.objs.size := by
  have h : mainGlobals < s.heap.objs.size := (I.mod.glob.keeps I.bk).lt
  exact Nat.lt_trans (by decide) h
theorem d_getItem {Q : Value → Shared → Prop} (hu : A.units + 1 < cLine) (I : Inv X pins σ H s) (g : DGet H a y (some v)) (ry : RelV y u) (h : ∀ w' s', Inv X pins σ H s' → RelV v w' → Q w' s') :
    wpAny (model X.prog X.w) A (getItem (.ref a) u) Q E s := by
  rcases g with ⟨kvs, k, e, ey, l⟩ | ⟨kvs, k, b, e, ey, eb, l⟩
  · subst ey
    obtain ⟨z, hd, vs, rel, dd⟩ := dk_rd I.hok e
    obtain ⟨w', hw, rw'⟩ := RelO.some_of (v := v) (o := valueAt vs k) (by rw [l]; exact rel.val k)
    exact wpAny_getItem_of (kV_is ry) dd.mapOf hw (h w' _ (I.tok _) rw')
  · subst ey
    cases (show u = Value.ref b from ry)
    obtain ⟨z, hd, xs, rel, dd⟩ := dt_rd I.hok e
    obtain ⟨w', hw, rw'⟩ := RelO.some_of (v := v) (o := (atKey xs k).map (·.2)) (by rw [l]; exact rel.val k)
    obtain ⟨p, hp, hp2⟩ := Option.map_eq_some_iff.mp hw
    refine wpAny_getItem_heap (tupleKind_room_in1 hu) (key_of I.hok eb) dd hp ?_
    rw [hp2]
    exact h w' _ (I.tok _) rw'
theorem d_write {h' : Heap} {t' : Nat} {ob : HO} (I : Inv X pins σ H s) (mu : Mut (H a)) (hs : Heap.SameBut a s.heap h') (he : ∃ q, h'.get? a = some q) (new : ObjOk X.prog X.w (upd H a ob) h' a ob) :
    Inv X pins σ (upd H a ob) { s with heap := h', toks := t' } :=
  I.write (x := a) (e := a) mu (.inl rfl) (fun b q hb z => (hs.2 b hb).trans z) he new
theorem dk_new {P : Program} {w : World} {H' : Hp} {h' : Heap} {kvs : List (Key × V)} {vs : List (Key × Value)} (z : kvs.length ≤ sizeLine) (hd : (a == sysModules) = false) (rel : KV kvs vs) (dd : h'.DictOf (mixKind P w) a vs) :
    ObjOk P w H' h' a (.dK kvs) := ⟨z, hd, vs, rel, dd⟩
theorem d_setItem {H' : Hp} {Q : Unit → Shared → Prop} (hu : A.units + 1 < cLine) (I : Inv X pins σ H s) (g : DPut H a y v H') (ry : RelV y u) (rv : RelV v r) (h : ∀ s', Inv X pins σ H' s' → Q () s') :
    wpAny (model X.prog X.w) A (setItem (.ref a) u r) Q E s := by
  rcases g with ⟨kvs, k, e, ey, l, eH⟩ | ⟨kvs, k, b, e, ey, eb, l, eH⟩
  · subst ey eH
    obtain ⟨z, hd, vs, rel, dd⟩ := dk_of I.hok e
    have hz : vs.length ≤ sizeLine := by rw [← rel.length]; exact z
    have hl : (putK kvs k v).length ≤ sizeLine := by have := length_putK kvs k v; omega
    refine wpAny_setItem_pairs (hsz := hz) (kV_is ry) dd fun h' dd' hs => h _ ?_
    have he : ∃ q, h'.get? a = some q := let ⟨q, _, _, hq, _⟩ := dd'; ⟨q, hq⟩
    exact d_write I (by rw [e]; exact True.intro) hs he (dk_new hl hd (rel.put k rv) dd')
  · subst ey eH
    cases (show u = Value.ref b from ry)
    obtain ⟨z, hd, xs, rel, dd⟩ := dt_of I.hok e
    have hz : xs.length ≤ sizeLine := by rw [← Paired.length rel]; exact z
    have hl : (putK kvs k v).length ≤ sizeLine := by have := length_putK kvs k v; omega
    refine wpAny_setItem_heap (hsz := hz) (tupleKind_room_in1 hu) (key_of I.hok eb) dd fun h' dd' hs => h _ ?_
    obtain ⟨q, es, ep, hq, h2, h3, h4, _, h5⟩ := dd'
    refine d_write I (by rw [e]; exact True.intro) hs ⟨q, hq⟩ ⟨hl, hd, _, (rel.put k eb rv).keeps fun c ys ec => ?_, q, es, ep, hq, h2, h3, h4, h5⟩
    rw [upd_ne (ne_of ec e (fun z => nomatch z))]
    exact ec
end
section
variable {X : Cx} {pins : List (Addr × Obj)} {σ : St} {H : Hp} {s : Shared} {a : Addr} {kvs : List (Key × V)} {k : Key} {u : Value} {A : Around} {E : Value → Shared → Prop}
end
def NoSl (i : Expr) : Prop := ∀ ov iv, subscripted i false ov iv = operate [ov, iv] (getItem ov iv)
theorem subD_of {prog : Program} {w : World} {A : Around} {E : Value → Shared → Prop} {s : Shared} {env : Env} {value slice : Expr} {pos : Pos} {T id : String} {Q : Value → Shared → Prop}
    (hl : typeLookup (.type T) "__getitem__" = pure (some (.builtin id))) (hs : NoSl slice)
    (h : wpAny (model prog w) A (eval value env) (fun o s₁ => wpAny (model prog w) A (eval slice env) (fun i s₂ => s₂.TypeIs o T ∧ wpAny (model prog w) A (getItem o i) Q E s₂) E s₁) E s) :
    wpAny (model prog w) A (eval (.Subscript value slice pos) env) Q E s := by
  refine Subscript_ (wpAny_mono h (fun o s₁ h₁ => wpAny_mono h₁ (fun i s₂ h₂ => ?_) fun _ _ x => x) fun _ _ x => x)
  obtain ⟨hT, h₂⟩ := h₂
  unfold subscriptTail
  refine wpAny_bind ?_
  rw [getitemInPython_of_ne hT.not_modules]
  refine wpAny_bind (wpAny_specialOf hT hl ?_)
  have fin : wpAny (model prog w) A (subscripted slice false o i) (fun r s₃ => wpAny (model prog w) A (letTemporaryGo value o r >>= fun _ => pure r) Q E s₃) E s₂ := by
    rw [hs o i]
    exact wpAny_operating (wpAny_mono h₂ (fun r s₃ h₃ => wpAny_bind (wpAny_letTemporaryGo (wpAny_pure h₃))) fun _ _ x => x)
  first
    | exact wpAny_pure (wpAny_bind fin)
    | exact wpAny_bind (wpAny_pure (wpAny_bind fin))
    | exact wpAny_bind fin
theorem dict_typeIs {X : Cx} {pins : List (Addr × Obj)} {σ : St} {H : Hp} {s : Shared} {a : Addr} {y : V} {o : Option V} (I : Inv X pins σ H s) (g : DGet H a y o) : s.TypeIs (.ref a) "dict" := by
  rcases g with ⟨kvs, k, e, _, _⟩ | ⟨kvs, k, b, e, _, _, _⟩
  · obtain ⟨_, _, vs, _, dd⟩ := dk_rd I.hok e
    exact dd.typeIs
  · obtain ⟨_, _, xs, _, dd⟩ := dt_rd I.hok e
    exact dd.typeIs
def tDGet (td ty : TE) : TE := fun σ H Q => td σ H fun x H1 => ty σ H1 fun y H2 => ∃ a v, x = .ref a ∧ DGet H2 a y (some v) ∧ Q v H2
def sDPut (td ty tv : TE) : TS := fun D σ H => tv σ H fun v H1 => td σ H1 fun x H2 => ty σ H2 fun y H3 => ∃ a H4, x = .ref a ∧ DPut H3 a y v H4 ∧ D.nx σ H4
section
variable {X : Cx} {o i e value : Expr} {pos pos' tpos : Pos} {td ty tv : TE}
theorem pe_dget (hu : X.A.units + 1 < cLine) (ho : PE X o td) (hi : PE X i ty) (hs : NoSl i) : PE X (.Subscript o i pos) (tDGet td ty) := by
  intro pins s σ H Q I h
  refine subD_of PySem.F.slot_dict_getitem.lookup hs (thn (ho pins s σ H _ I h) fun u s1 ⟨x, H1, I1, rx, q1⟩ => thn (hi pins s1 σ H1 _ I1 q1) fun iv s2 ⟨y, H2, I2, ry, a, v, ex, g, q2⟩ => ?_)
  subst ex
  obtain rfl : u = Value.ref a := rx
  exact ⟨dict_typeIs I2 g, d_getItem hu I2 g ry fun w' s3 I3 rw' => ⟨v, H2, I3, rw', q2⟩⟩
theorem ps_dput (hu : X.A.units + 1 < cLine) (ho : PE X o td) (hi : PE X i ty) (hv : PE X value tv) (hs : swapsWith value (some (.Subscript o i pos')) pos.line X.env = pure false) :
    PS X (.Assign [.Subscript o i pos'] value pos) (sDPut td ty tv) := by
  intro pins s σ H D I h
  refine wpAny_Assign_Subscript (thn (hv pins s σ H _ I h) fun r s1 ⟨v, H1, I1, rv, q1⟩ => thn (ho pins s1 σ H1 _ I1 q1) fun u s2 ⟨x, H2, I2, rx, q2⟩ => thn (hi pins s2 σ H2 _ I2 q2) fun iv s3 ⟨y, H3, I3, ry, a, H4, ex, g, q3⟩ => ?_) hs
  subst ex
  obtain rfl : u = Value.ref a := rx
  exact d_setItem hu I3 g ry rv fun s4 I4 => ⟨σ, H4, I4, q3⟩
end
theorem dk_empty {P : Program} {w : World} {H : Hp} (h : Heap) (hb : sysModules < h.objs.size) : ObjOk P w H (h.push { cls := .type "dict", data := .dict #[] }) h.objs.size (.dK []) :=
  ⟨Nat.zero_le _, beq_eq_false_iff_ne.mpr (Ne.symm (Nat.ne_of_lt hb)), [], .nil, Heap.DictOf.new h⟩
section
variable {X : Cx} {pos : Pos}
end
structure M2 (X : Cx) (o : Expr) (m : Str) (apos : Pos) (e f : Expr) (cpos : Pos) : Prop where
  base : attributeBase o m X.env (eval o X.env) = eval o X.env
  few : ((backTo cpos (starEach [e, f] X.env)).all (fun x => !x.1) && (backToKw cpos (keywordEach [] X.env)).all (fun x => x.1.isSome)
    && decide (([e, f] : List Expr).length + ([] : List Keyword).length + (if ([] : List Keyword).isEmpty then 0 else 1) < 30)) = true
  line : (apos.endLine == cpos.line) = true
  trees : backTo cpos (starEach [e, f] X.env) = [(false, eval e X.env), (false, eval f X.env)]
def IsD (H : Hp) (a : Addr) : Prop := (∃ kvs, Rd H a (.dK kvs)) ∨ ∃ kvs, Rd H a (.dT kvs)
theorem isD_at {X : Cx} {pins : List (Addr × Obj)} {σ : St} {H : Hp} {s : Shared} {a : Addr} (I : Inv X pins σ H s) (d : IsD H a) :
    s.TypeIs (.ref a) "dict" ∧ (∀ b, Value.ref a = .ref b → ∃ ob, s.heap.get? b = some ob ∧ ob.dict = none) ∧ (a == sysModules) = false := by
  rcases d with ⟨kvs, e⟩ | ⟨kvs, e⟩
  · obtain ⟨_, hd, vs, _, dd⟩ := dk_rd I.hok e
    refine ⟨dd.typeIs, fun b q => ?_, hd⟩
    cases q
    obtain ⟨ob, _, _, h1, h2, _⟩ := dd
    exact ⟨ob, h1, h2.2.1⟩
  · obtain ⟨_, hd, xs, _, dd⟩ := dt_rd I.hok e
    refine ⟨dd.typeIs, fun b q => ?_, hd⟩
    cases q
    obtain ⟨ob, _, _, h1, h2, _⟩ := dd
    exact ⟨ob, h1, h2.2.1⟩
section
variable {X : Cx} {pins : List (Addr × Obj)} {σ : St} {H : Hp} {s : Shared} {a : Addr} {y d : V} {u r : Value} {o : Option V} {A : Around} {E : Value → Shared → Prop}
theorem d_get2 {Q : Value → Shared → Prop} (hu : A.units + 1 < cLine) (I : Inv X pins σ H s) (g : DGet H a y o) (ry : RelV y u) (rd : RelV d r) (h : ∀ w' s', Inv X pins σ H s' → RelV (o.getD d) w' → Q w' s') :
    wpAny (model X.prog X.w) A (call (.builtin "dict.get") [.ref a, u, r]) Q E s := by
  rcases g with ⟨kvs, k, e, ey, l⟩ | ⟨kvs, k, b, e, ey, eb, l⟩
  · subst ey
    obtain ⟨z, hd, vs, rel, dd⟩ := dk_rd I.hok e
    refine call_meetsIn PySem.F.slot_dict_get dd.typeIs PySem.F.entry_dict_get (PySem.F.args_dict_get_3 _ _ _) (meets_dict_get_default (mixKind X.prog X.w) a (kV_is ry) hd r) ⟨_, dd.mapOf, h _ _ (I.tok _) ?_⟩
    rw [l]
    exact (rel.val k).getD rd
  · subst ey
    cases (show u = Value.ref b from ry)
    obtain ⟨z, hd, xs, rel, dd⟩ := dt_rd I.hok e
    refine call_meetsIn PySem.F.slot_dict_get dd.typeIs PySem.F.entry_dict_get (PySem.F.args_dict_get_3 _ _ _) (meetsH_dict_get_default (tupleKind (mixKind X.prog X.w)) a b hd r) ⟨tupleKind_room_in1 hu, k, xs, key_of I.hok eb, dd, h _ _ (I.tok _) ?_⟩
    rw [l]
    exact (rel.val k).getD rd
end
def tDGet2 (td ty tx : TE) : TE := fun σ H Q => td σ H fun x H1 => ∃ a, x = .ref a ∧ IsD H1 a ∧ ty σ H1 fun y H2 => tx σ H2 fun z H3 => ∃ o, DGet H3 a y o ∧ Q (o.getD z) H3
section
variable {X : Cx} {o e f : Expr} {apos cpos : Pos} {td ty tx : TE}
theorem pe_dget2 (hu : X.A.units + 1 < cLine) (ho : PE X o td) (he : PE X e ty) (hf : PE X f tx) (m : M2 X o "get" apos e f cpos) : PE X (.Call (.Attribute o "get" apos) [e, f] [] cpos) (tDGet2 td ty tx) := by
  intro pins s σ H Q I h
  refine wpAny_Call_method m.base m.few m.line PySem.F.plainAttrs_dict PySem.F.slot_dict_get PySem.F.type_dict_get (thn (ho pins s σ H _ I h) fun u s1 ⟨x, H1, I1, rx, a, ex, d, q1⟩ => ?_)
  subst ex
  obtain rfl : u = Value.ref a := rx
  obtain ⟨t1, t2, _⟩ := isD_at I1 d
  refine ⟨t1, t2, ?_⟩
  rw [m.trees]
  refine Calls.callWith_builtin rfl (Calls.evalArgs_plain (Calls.spliced_cons (thn (he pins s1 σ H1 _ I1 q1) fun iv s2 ⟨y, H2, I2, ry, q2⟩ =>
    Calls.spliced_cons (thn (hf pins s2 σ H2 _ I2 q2) fun fv s3 ⟨z, H3, I3, rz, ov, g, q3⟩ => Calls.spliced_nil ?_))))
  exact d_get2 hu I3 g ry rz fun w' s4 I4 rw' => ⟨_, H3, I4, rw', q3⟩
end
section
variable {X : Cx} {pins : List (Addr × Obj)} {σ : St} {H : Hp} {s : Shared} {a : Addr} {kvs : List (Key × V)} {A : Around} {E : Value → Shared → Prop}
end
section
variable {X : Cx} {pins : List (Addr × Obj)} {σ : St} {H : Hp} {s : Shared} {a : Addr} {y : V} {u : Value} {A : Around} {E : Value → Shared → Prop}
end
end L2
namespace Att
open PySem PySem.W PySem.Calls PyProof.Rows
theorem ints_of_wellAll {P : Params} {h : Heap} : ∀ (ns : List Int) (vs : List Value), WellAll P h vs (ns.map WData.int) → IntsAre vs ns := by
  intro ns
  induction ns with
  | nil =>
    intro vs w
    rw [List.map_nil] at w
    cases w
    exact .nil
  | cons n ns ih =>
    intro vs w
    rw [List.map_cons] at w
    cases w with
    | cons a b =>
      cases a
      exact .cons _ _ (ih _ b)
theorem script_of {l : OpenLaw} {n : Nat} (hn : l.most = some n) {P : Params} {h : Heap} {args : List WData} {vals : List Value}
    (hpre : l.row.toRowW.claim.pre args = true) (hwl : WellAll P h vals args) :
    ∃ a vs ns, vals = [Value.ref a] ∧ args = [WData.list (ns.map WData.int)] ∧ h.get? a = some { cls := .type "list", data := .seq vs.toArray } ∧ IntsAre vs ns ∧ ns.length ≤ n := by
  have hsh : WShape.hasAll [] args [.list .int] = true := (pre_splitW hpre).1
  have hc : l.pre.holds [] { args := args } = true := (pre_splitW hpre).2
  obtain ⟨d, r, rfl, h1, h2⟩ := hasAllW_cons hsh
  obtain rfl := hasAllW_nil h2
  obtain ⟨xs, rfl, h3⟩ := hasW_list h1
  obtain ⟨ns, rfl⟩ := items_int h3
  have hlen : ns.length ≤ n := by
    unfold OpenLaw.pre at hc
    have h4 : (WTm.not (.lt (.lit (.int (n : Int))) (.len (.arg 0)))).holds [] { args := [.list (ns.map .int)] } = true := by
      have h4 := (holds_andW hc).1
      rw [hn] at h4
      exact h4
    have h5 := condW_of h4 (w_not (w_lt w_lit (w_len_list (w_arg rfl))))
    rw [List.length_map] at h5
    refine Nat.le_of_not_lt fun q => ?_
    have q' : (n : Int) < ((ns.length : Nat) : Int) := by omega
    first
      | (rw [decide_eq_true q'] at h5; exact absurd h5 (by decide))
      | (simp at h5; omega)
  cases hwl with
  | cons w1 w2 =>
    cases w2
    cases w1 with
    | list ho hall => exact ⟨_, _, ns, rfl, rfl, ho, ints_of_wellAll ns _ hall, hlen⟩
theorem post_true (l : OpenLaw) (args : List WData) : l.row.toRowW.claim.post args (.bool true) args = true :=
  postW_of (r := l.row.toRowW) (X := (true == true))
    (show WShape.has [] (.bool true) .bool = true by first | rfl | decide | simp [WShape.has, WShape.arms, WShape.armsAll])
    (show (WTm.eq .res (.lit (.bool true))).value [] { args := args, res := some (.bool true), after := args } = some (.bool (true == true)) from w_eq_bool (w_res rfl) w_lit) rfl
theorem attach_call {l : OpenLaw} {n : Nat} {q : Program} {loose : List Str} {XP : (Str → Option Value) → Heap → Prop} {YP : World → Heap → Prop} {d : DefRec}
    (hn : l.most = some n) (hdf : d.params.defaults = [])
    (call : ∀ (w : World) (s₀ s₁ : Shared) (mg mb : Str → Option Value) (fa : Addr) (o : Obj) (pm cd doc : Value) (a : Addr) (vs : List Value) (ns : List Int),
      Ground q loose [] XP w s₀ mg mb s₁.heap → YP w s₁.heap →
      s₁.heap.get? fa = some o → o.data = .func (docDef d.name d.params d.body d.scope pm cd doc) → s₁.heap.CodeRec cd d.name → mg d.name = some (.ref fa) →
      s₁.heap.get? a = some { cls := .type "list", data := .seq vs.toArray } → IntsAre vs ns → ns.length ≤ n → s₁.gens = #[] →
      codeAny (model l.prog w) callerA (.call (.ref fa) ⟨[.ref a], []⟩) (fun r s' => r = .ok (.ret (.bool true)) ∧ OldK s₁.heap s'.heap ∧ s'.os = s₁.os ∧ AllBare s'.gens) s₁) :
    WalkO q loose XP YP l.row.toRowW d [] (fun f vs => PySem.call f vs) := by
  intro w s₀ s₁ mg mb G Y fa o pm cd doc dV kV ho hd hcd hD hmg hg args vals as hpre hlay hrd hwl hlo
  obtain rfl : dV = .none := Dflts.none hD hdf
  obtain rfl : kV = .none := Dflts.noKw hD
  obtain ⟨a, vs, ns, rfl, rfl, hobj, hints, hlen⟩ := script_of hn hpre hwl
  refine enter_call (codeAny_mono (call w s₀ s₁ mg mb fa o pm cd doc a vs ns G Y ho (fd_plain hd) hcd hmg hobj hints hlen hg) fun r s' hq => ?_)
  obtain ⟨rfl, h2, h3, h4⟩ := hq
  exact ⟨.inl ⟨.bool true, .bool true, [], rfl, fun _ => rfl, .bool true, post_true l _, fun _ => ⟨List.Pairwise.nil, fun _ hm => (nomatch hm)⟩⟩, h2, h3, h4⟩
section
variable {prog : Program} {w : World} {A : Around} {E : Value → Shared → Prop} {s : Shared} {K : Frag}
end
end Att
namespace L2
open PySem PySem.Spec PyProof.Rows
theorem vals_ints : ∀ {vs : List Value} {ns : List Int}, IntsAre vs ns → Vals (ns.map V.int) vs
  | _, _, .nil => .nil
  | _, _, .cons n t h => .cons ⟨t, rfl⟩ (vals_ints h)
def Only (H : Hp) : Prop := ∀ b, H b = none ∨ ∃ o xs, H b = some (.frz o (.lst xs))
theorem law_call {P : Program} {w : World} {K : PySem.W.Frag} {mg mb : Str → Option Value} {CX : CXT} {k : Nat} {fa a : Addr} {fd : FuncData} {x : Str} {sp : Sp} {s₁ : Shared} {vs : List Value} {ns : List Int}
    (KX : K.In s₁.heap) (hns : s₁.heap.Ns mainGlobals mg) (hb : s₁.heap.Ns builtinsNs mb) (hbb : ∀ x : Str, x ≠ "__name__" → mb x = bootBuiltins x) (hlim : s₁.heap.NoLimit) (hg : s₁.gens = #[])
    (ha : s₁.heap.get? a = some { cls := .type "list", data := .seq vs.toArray }) (hi : IntsAre vs ns) (hl : ns.length ≤ sizeLine) (hr : Room k callerA)
    (F : ∀ base : Heap, K.In base → base.Ns mainGlobals mg → FnOk P w K mg base CX k fa fd [x] sp) (hbind : ∀ (s : Shared) (u : Value), BindsTo s fd ⟨[u], []⟩ [(x, u)])
    (hsp : ∀ H : Hp, Only H → SqL K H a (ns.map V.int) → sp [.ref a] H (fun v _ => v = .bl true) fun _ _ _ => False)
    (hCX : ∀ H e s', CX [] H s₁ (fun _ _ _ => False) e s' → False) :
    codeAny (model P w) callerA (.call (.ref fa) ⟨[.ref a], []⟩) (fun r s' => r = .ok (.ret (.bool true)) ∧ OldK s₁.heap s'.heap ∧ s'.os = s₁.os ∧ AllBare s'.gens) s₁ := by
  have rv := vals_ints hi
  have lenV := hi.length
  have core : ∀ H : Hp, Only H → SqL K H a (ns.map V.int) → HOk P w H s₁.heap → (∀ b, H b ≠ none → b = a) → (H a ≠ none → K.lookup a = none) →
      codeAny (model P w) callerA (.call (.ref fa) ⟨[.ref a], []⟩) (fun r s' => r = .ok (.ret (.bool true)) ∧ OldK s₁.heap s'.heap ∧ s'.os = s₁.os ∧ AllBare s'.gens) s₁ := by
    intro H hO hS hok hA hK
    have base_of : ∀ {b : Addr} {o : Obj}, s₁.heap.get? b = some o → H b = none → (hidT s₁.heap H).get? b = some o := fun e n => hidT_get e n
    have noA : ∀ {b : Addr} {o : Obj} {es : Array DictEntry} {ep : Nat}, s₁.heap.get? b = some o → o.data = .dict es ep → H b = none := fun {b o es ep} e d => by
      cases q : H b with
      | none => rfl
      | some u =>
        have e' : b = a := hA b (by rw [q]; simp)
        subst e'
        rw [ha] at e; cases e
        have d' : Data.seq vs.toArray _ = Data.dict es ep := d
        cases d'
    have nsK : ∀ {b : Addr} {m : Str → Option Value}, s₁.heap.Ns b m → (hidT s₁.heap H).Ns b m := fun {b m} ⟨o, es, ep, e, d, r⟩ => ⟨o, es, ep, base_of e (noA e d), d, r⟩
    have hKb : K.In (hidT s₁.heap H) := fun b o e => base_of (KX b o e) (by
      cases q : H b with
      | none => rfl
      | some u =>
        have e' : b = a := hA b (by rw [q]; simp)
        subst e'
        rw [hK (by rw [q]; simp)] at e; cases e)
    have hM : Mod K mg (hidT s₁.heap H) := ⟨hKb, nsK hns, ⟨mb, nsK hb, hbb⟩, let ⟨mc, h1, h2⟩ := hlim; ⟨mc, nsK h1, h2⟩⟩
    have e0 : Env0 P w K mg (hidT s₁.heap H) callerA [] s₁ H := ⟨rfl, hM, fun b o e => of_hidT e, Nat.le_of_eq (hidT_size _ _), trivial, fun b hb => absurd (show b ∈ ([] : List Addr) from hb) (by simp), hok, .of_eq hg⟩
    refine codeAny_mono ((F _ hKb (nsK hns)).run callerA [] s₁ H ⟨[.ref a], []⟩ [.ref a] [.ref a] _ _ hr e0 (hbind s₁ (.ref a)) (.cons rfl .nil) (hsp H hO hS)) fun r s' h => ?_
    cases r with
    | error e => exact (hCX H e s' h).elim
    | ok fl =>
      cases fl with
      | next => exact False.elim h
      | brk => exact False.elim h
      | cont => exact False.elim h
      | ret u =>
        obtain ⟨v, H', os, bare, un, hok', r', q⟩ := h
        have q' : v = .bl true := q
        subst q'
        obtain rfl : u = Value.bool true := r'
        refine ⟨rfl, OldK.of_keep fun b o e => ?_, os, bare⟩
        cases q : H b with
        | none => exact un.keep b o e q (by intro z; exact absurd (show b ∈ ([] : List Addr) from z) (by simp)) (by simp)
        | some u =>
          rcases hO b with z | ⟨ob, xs, z⟩
          · rw [q] at z; cases z
          · have z2 := un.frzs b ob _ z
            obtain ⟨e1, _⟩ := hok b _ z
            obtain ⟨e2, _⟩ := hok' b _ z2
            rw [e] at e1; cases e1
            exact e2
  cases hk : K.lookup a with
  | some o =>
    have e := KX a o hk
    rw [ha] at e
    cases e
    refine core (fun _ => none) (fun _ => .inl rfl) (.inr ⟨_, vs.toArray, _, hk, rfl, rfl, rfl, by rw [List.size_toArray, lenV]; exact hl, by simpa using rv⟩) (fun b u z => by have z' : (none : Option HO) = some u := z; cases z') (fun b z => absurd rfl z) fun z => absurd rfl z
  | none =>
    refine core (fun b => if b = a then some (.frz { cls := .type "list", data := .seq vs.toArray } (.lst (ns.map V.int))) else none) (fun b => ?_) (.inl (.inr ⟨{ cls := .type "list", data := .seq vs.toArray }, if_pos rfl⟩)) (fun b u z => ?_) (fun b z => ?_) fun _ => hk
    · by_cases hb : b = a
      · exact .inr ⟨_, _, if_pos hb⟩
      · exact .inl (if_neg hb)
    · by_cases hb : b = a
      · have z' := (if_pos hb).symm.trans z
        cases z'
        subst hb
        exact ⟨ha, by rw [List.length_map]; exact hl, vs, _, rv, ha⟩
      · have z' := (if_neg hb).symm.trans z
        cases z'
    · by_cases hb : b = a
      · exact hb
      · exact absurd (if_neg hb) z
end L2
namespace L2
open PySem PySem.Spec PyProof.Rows
theorem walk_of {l : PySem.W.OpenLaw} {n k : Nat} {q : Program} {loose : List Str} {XP : (Str → Option Value) → Heap → Prop} {YP : World → Heap → Prop} {d : DefRec} {K : Params → PySem.W.Frag} {CX : World → CXT} {sp : World → Sp} {x : Str}
    (hn : l.most = some n) (hn2 : n ≤ sizeLine) (hdf : d.params.defaults = []) (hr : Room k callerA)
    (hY : ∀ (w : World) (h : Heap), YP w h → (K w.params).In h)
    (F : ∀ (w : World) (mg : Str → Option Value) (fa : Addr) (h : Heap), (K w.params).In h → h.Ns mainGlobals mg → mg d.name = some (.ref fa) →
      ∃ fd : FuncData, (∀ (s : Shared) (u : Value), BindsTo s fd ⟨[u], []⟩ [(x, u)]) ∧
        ∀ base : Heap, (K w.params).In base → base.Ns mainGlobals mg → FnOk l.prog w (K w.params) mg base (CX w) k fa fd [x] (sp w))
    (hsp : ∀ (w : World) (H : Hp) (a : Addr) (ns : List Int), ns.length ≤ n → Only H → SqL (K w.params) H a (ns.map V.int) → sp w [.ref a] H (fun v _ => v = .bl true) fun _ _ _ => False)
    (hCX : ∀ (w : World) (H : Hp) (s : Shared) (e : Value) (s' : Shared), CX w [] H s (fun _ _ _ => False) e s' → False) :
    PySem.W.WalkO q loose XP YP l.row.toRowW d [] (fun f vs => PySem.call f vs) := by
  refine Att.attach_call hn hdf fun w s₀ s₁ mg mb fa o pm cd doc a vs ns G Y ho hd hcd hmg hobj hints hlen hg => ?_
  have KX := hY w _ Y
  obtain ⟨fd, hb, hF⟩ := F w mg fa _ KX G.T.g hmg
  exact law_call KX G.T.g G.T.b G.T.builtins G.T.nolimit hg hobj hints (Nat.le_trans hlen hn2) hr hF hb (fun H hO hS => hsp w H a ns hlen hO hS) fun H e s' => hCX w H s₁ e s'
end L2
namespace L2
open PySem PySem.Spec PyProof.Rows
def inClass (s : Stmt) (j : Nat) : Stmt := match s with
  | .ClassDef _ _ _ body _ _ _ _ _ _ _ => body.getD j (.Pass ⟨0, 0, 0, 0⟩)
  | _ => .Pass ⟨0, 0, 0, 0⟩
def defArgs (s : Stmt) : Arguments := match s with
  | .FunctionDef _ a _ _ _ _ _ _ _ _ => a
  | _ => { posonlyargs := [], args := [], vararg := none, kwonlyargs := [], kw_defaults := [], kwarg := none, defaults := [] }
def defBody (s : Stmt) : List Stmt := match s with
  | .FunctionDef _ _ b _ _ _ _ _ _ _ => b
  | _ => []
def defScope (s : Stmt) : Scope := match s with
  | .FunctionDef _ _ _ _ _ _ sc _ _ _ => sc
  | _ => { kind := .function, names := [], isGenerator := false, isCoroutine := false }
abbrev CX0 : CXT := fun _ _ _ _ _ _ => False
abbrev E0 : XK := fun _ _ _ => False
theorem pass0 {X : Cx} : Passes CX0 X E0 := fun _ _ _ _ _ _ _ h => h.elim
structure Fun (K : PySem.W.Frag) (x qual : Str) (st : Stmt) (f : Addr) (fd : FuncData) : Prop where
  ex : ∃ (oc : Value) (od : Option Addr) (kV doc pm : Value) (an : Option Addr) (cdv ct : Value) (osl : Array (Option Value)),
    fd = PySem.W.fnOf x qual (defArgs st) (defBody st) (defScope st) .none kV doc pm an cdv ct ∧ K.lookup f = some ⟨oc, od, .func fd, osl⟩ ∧ PySem.W.codeIn K cdv qual = true
  kp : PySem.W.keepIn K (.ref f) = true
section
variable {P : Program} {w : World} {K : PySem.W.Frag} {mg : Str → Option Value} {base : Heap}
theorem Fun.ok {x qual : Str} {st : Stmt} {f : Addr} {fd : FuncData} {N ps : List Str} {k : Nat} {sp : Sp} (F : Fun K x qual st f fd) (S : FnScope N ps (defScope st)) (len : ∀ vs H Q E, sp vs H Q E → vs.length = ps.length)
    (hbody : ∀ (cdv : Value) (A : Around) (outer : List Env) (s : Shared) (H : Hp) (vs : List V) (Q : VK) (E : XK), Room k (A.deeper (envOfC qual (defScope st) s.heap.objs.size f cdv)) → sp vs H Q E →
      ∃ t, PSs (cxOf CX0 P w K mg base N qual (defScope st) f cdv A outer s H E).nox (defBody st) t ∧ t { nx := fun _ H' => Q .non H', rt := Q } (start N vs) H) : FnOk P w K mg base CX0 (k + 1) f fd ps sp := by
  obtain ⟨oc, od, kV, doc, pm, an, cdv, ct, osl, rfl, lk, hcd⟩ := F.ex
  refine fn_of lk hcd S len fun A outer s H vs Q E hr hsp => ?_
  obtain ⟨t, h, q⟩ := hbody cdv A outer s H vs Q E hr hsp
  exact ⟨t, h.nox, q⟩
theorem Fun.binds {x qual : Str} {st : Stmt} {f : Addr} {fd : FuncData} {ps : List Str} (F : Fun K x qual st f fd)
    (h : ∀ (kV doc pm : Value) (an : Option Addr) (cdv ct : Value) (us : List Value), us.length = ps.length → bindArgs (PySem.W.fnOf x qual (defArgs st) (defBody st) (defScope st) .none kV doc pm an cdv ct) ⟨us, []⟩ = pure (ps.zip us)) : Binds K fd ps [] := by
  obtain ⟨oc, od, kV, doc, pm, an, cdv, ct, osl, rfl, lk, hcd⟩ := F.ex
  exact .all (h kV doc pm an cdv ct)
theorem fun_mk {x qual : Str} {st : Stmt} {f : Addr} {oc : Value} {od an : Option Addr} {osl : Array (Option Value)} {kV doc pm cdv ct : Value} (l : K.lookup f = some ⟨oc, od, .func (PySem.W.fnOf x qual (defArgs st) (defBody st) (defScope st) .none kV doc pm an cdv ct), osl⟩)
    (c : PySem.W.codeIn K cdv qual = true) (k : PySem.W.keepIn K (.ref f) = true) : Fun K x qual st f (PySem.W.fnOf x qual (defArgs st) (defBody st) (defScope st) .none kV doc pm an cdv ct) := ⟨⟨oc, od, kV, doc, pm, an, cdv, ct, osl, rfl, l, c⟩, k⟩
end
theorem hu_of {A : Around} {k : Nat} (hr : Room k A) : A.units + 1 < cLine := Nat.lt_of_le_of_lt (Nat.add_le_add_left (by decide : 1 ≤ 64) _) hr.units
theorem small1000 {n : Nat} (h : n ≤ 1000) : n < sizeLine := Nat.lt_of_le_of_lt h (by decide)
section
variable {X : Cx}
theorem pv (i : Nat) {x : Str} {pos : Pos} (hN : X.N[i]? = some x := by rfl) (hv : Vis X.env.scope x := by first | exact Or.inl rfl | exact Or.inr (Or.inl rfl) | exact Or.inr (Or.inr rfl)) (hd : (x == ("__debug__" : Str)) = false := by decide)
    (hcd : (x == ("__classdict__" : Str)) = false := by decide) : PE X (.Name x pos) (tVar i) := pe_var hN hv hd hcd
end
theorem iteF {A B : Prop} (h : B) : if false = true then A else B := by
  rw [if_neg Bool.false_ne_true]
  exact h
theorem iteT {A B : Prop} (h : A) : if true = true then A else B := by
  rw [if_pos rfl]
  exact h
theorem ite2 {c A B : Prop} [Decidable c] (h1 : c → A) (h2 : ¬ c → B) : if c then A else B := by
  by_cases h : c
  · rw [if_pos h]
    exact h1 h
  · rw [if_neg h]
    exact h2 h
def Same (H H' : Hp) : Prop := ∀ b o, H b = some o → H' b = some o
theorem Same.refl (H : Hp) : Same H H := fun _ _ h => h
theorem Same.trans {H H1 H2 : Hp} (a : Same H H1) (b : Same H1 H2) : Same H H2 := fun c o h => b c o (a c o h)
theorem Same.free {H H' : Hp} (e : Same H H') {l : Addr} (h : H' l = Option.none) : H l = Option.none := by
  cases q : H l with
  | none => rfl
  | some o =>
    rw [e l o q] at h
    cases h
theorem Same.seq {K : PySem.W.Frag} {H H' : Hp} {a : Addr} {xs : List V} (e : Same H H') (h : SqL K H a xs) : SqL K H' a xs := by
  rcases h with (h | ⟨o, h⟩) | h
  · exact .inl (.inl (e _ _ h))
  · exact .inl (.inr ⟨o, e _ _ h⟩)
  · exact .inr h
section
variable {κ : Type} [DecidableEq κ]
end
end L2
set_option Elab.async false
set_option linter.all false
set_option maxRecDepth 100000
namespace L2
open PySem PySem.Spec PyProof.Rows
theorem compLoop_gen {prog : Program} {w : World} {A : Around} {s : Shared} {elt target iter : Expr} {ifs : List Expr} {scope : Scope} {pos : Pos} {it acc : Value} {env : Env} {R : Result → Shared → Prop} (I : Nat → Shared → Prop)
    (turn : ∀ n s, I n s → wpAny (model prog w) A (pyNext it) (fun r s1 => match r with
      | none => R (.ok .next) s1
      | some v => wpAny (model prog w) A (letOwnedTupleGo target it v) (fun _ s1' => wpAny (model prog w) A (assign target env v) (fun _ s2 =>
          wpAny (model prog w) A (forIn ifs true fun c r => if r = true then do let ok ← isTrue c env (eval c env); pure (ForInStep.yield ok) else pure (ForInStep.yield r)) (fun ok s3 =>
            if ok = true then wpAny (model prog w) A (eval elt env) (fun x s4 =>
              wpAny (model prog w) A (call (.builtin "list.append") [acc, x]) (fun _ s5 => ∃ m, m < n ∧ I m s5) (fun _ _ => False) s4) (fun _ _ => False) s3
            else ∃ m, m < n ∧ I m s3) (fun _ _ => False) s2) (fun _ _ => False) s1') (fun _ _ => False) s1) (fun _ _ => False) s)
    (n : Nat) (h : I n s) : codeAny (model prog w) A (.compLoop (.ListComp elt [⟨target, iter, ifs, 0⟩] scope pos) 0 it acc env) R s := by
  have no : ∀ (x : Value) (s' : Shared), False → notedBy (model prog w) A env (fun e s' => R (.error e) s') x s' := fun _ _ z => z.elim
  refine codeAny_loop rfl I (fun n s hI => ?_) n h
  show wpAny _ A ((compTurn (.ListComp elt [⟨target, iter, ifs, 0⟩] scope pos) 0 it acc env).onRaise (fun x => do noteFrame x env; theTreesLotGoes x)) _ _ s
  refine wpAny_noted ?_
  rw [compTurn_list]
  refine wpAny_bind (wpAny_standAt (wpAny_bind (wpAny_mono (turn n s hI) (fun r s1 h1 => ?_) no)))
  cases r with
  | none => exact wpAny_pure h1
  | some v =>
    refine wpAny_bind (wpAny_mono h1 (fun _ s1' h1' => ?_) no)
    refine wpAny_bind (wpAny_mono h1' (fun _ s2 h2 => wpAny_bind (wpAny_mono h2 (fun ok s3 h3 => ?_) no)) no)
    cases ok with
    | false => exact wpAny_pure ⟨rfl, h3⟩
    | true =>
      exact wpAny_bind (wpAny_bind (wpAny_mono h3 (fun x s4 h4 => wpAny_bind (wpAny_mono h4 (fun _ s5 h5 => wpAny_pure (wpAny_pure ⟨rfl, h5⟩)) no)) no))
theorem ff_eq : (NameKind.free == NameKind.free) = true := rfl
def clOf (cells : List (Str × Addr)) : List (Str × NameKind) → List (Str × Addr) → List (Str × Addr)
  | [], acc => acc
  | (n, k) :: r, acc => if k == .free then clOf cells r ((n, (cells.lookup n).getD 0) :: acc) else clOf cells r acc
theorem forIn_cl {env : Env} : ∀ (names : List (Str × NameKind)) (acc : List (Str × Addr)), (∀ x ∈ names, x.2 = .free → (env.cells.lookup x.1).isSome = true) →
    (forIn names acc fun x (cs : List (Str × Addr)) => (match x with | (name, kind) => if (kind == NameKind.free) = true then do let c ← cellOf env name; pure (ForInStep.yield ((name, c) :: cs)) else pure (ForInStep.yield cs) : Sem (ForInStep (List (Str × Addr))))) = (pure (clOf env.cells names acc) : Sem (List (Str × Addr)))
  | [], acc, _ => by simp only [List.forIn_nil]; rfl
  | (n, k) :: r, acc, h => by
    have ih := fun a => forIn_cl (env := env) r a fun x hx => h x (List.mem_cons_of_mem _ hx)
    rw [List.forIn_cons]
    by_cases hk : k = .free
    · subst hk
      have q := h (n, .free) List.mem_cons_self rfl
      obtain ⟨c, hc⟩ := Option.isSome_iff_exists.mp q
      have e : cellOf env n = pure c := by unfold cellOf; rw [show env.cells.lookup n = some c from hc]
      simp only [beq_self_eq_true, if_true, e, pure_bind]
      rw [ih]
      show _ = pure (if (NameKind.free == NameKind.free) = true then clOf env.cells r ((n, (env.cells.lookup n).getD 0) :: acc) else _)
      rw [if_pos ff_eq, show env.cells.lookup n = some c from hc]
      rfl
    · have hb : (k == NameKind.free) = false := by simpa using hk
      simp only [hb, Bool.false_eq_true, if_false, pure_bind]
      rw [ih]
      show _ = pure (if (k == NameKind.free) = true then _ else clOf env.cells r acc)
      rw [hb]
      rfl
theorem closure_cl {scope : Scope} {env : Env} (h : ∀ x ∈ scope.names, x.2 = .free → (env.cells.lookup x.1).isSome = true) : closureFor scope env = pure (clOf env.cells scope.names []) := by
  unfold closureFor
  have e := forIn_cl (env := env) scope.names [] h
  simp only [bind_pure] at *
  exact e
theorem cl_sub {cells : List (Str × Addr)} : ∀ (names : List (Str × NameKind)) (acc : List (Str × Addr)), (∀ x ∈ names, x.2 = .free → (cells.lookup x.1).isSome = true) → (∀ x c, acc.lookup x = some c → cells.lookup x = some c) →
    ∀ x c, (clOf cells names acc).lookup x = some c → cells.lookup x = some c
  | [], acc, _, ha => ha
  | (n, k) :: r, acc, h, ha => by
    unfold clOf
    by_cases hk : k = .free
    · subst hk
      rw [if_pos ff_eq]
      refine cl_sub r _ (fun x hx => h x (List.mem_cons_of_mem _ hx)) fun x c e => ?_
      by_cases hx : x = n
      · subst hx
        rw [List.lookup_cons_self] at e
        obtain ⟨d, hd⟩ := Option.isSome_iff_exists.mp (h (x, .free) List.mem_cons_self rfl)
        have hd' : cells.lookup x = some d := hd
        rw [hd'] at e ⊢
        exact e
      · rw [List.lookup_cons, beq_eq_false_iff_ne.mpr hx] at e
        exact ha x c e
    · rw [if_neg (by simpa using hk)]
      exact cl_sub r _ (fun x hx => h x (List.mem_cons_of_mem _ hx)) ha
theorem cl_mono {cells : List (Str × Addr)} : ∀ (names : List (Str × NameKind)) (acc : List (Str × Addr)) (x : Str), (acc.lookup x).isSome = true → ((clOf cells names acc).lookup x).isSome = true
  | [], acc, _, ha => ha
  | (n, k) :: r, acc, x, ha => by
    unfold clOf
    split
    · refine cl_mono r _ x ?_
      rw [List.lookup_cons]
      split
      · rfl
      · exact ha
    · exact cl_mono r _ x ha
theorem cl_has {cells : List (Str × Addr)} : ∀ (names : List (Str × NameKind)) (acc : List (Str × Addr)) (x : Str), (x, NameKind.free) ∈ names → ((clOf cells names acc).lookup x).isSome = true
  | [], _, _, h => by simp at h
  | (n, k) :: r, acc, x, h => by
    unfold clOf
    rcases List.mem_cons.mp h with e | h
    · obtain ⟨e1, e2⟩ := Prod.mk.inj e
      subst e1 e2
      rw [if_pos ff_eq]
      refine cl_mono r _ _ ?_
      rw [List.lookup_cons_self]
      rfl
    · split
      · exact cl_has r _ x h
      · exact cl_has r _ x h
theorem lookup_relabel {env : Env} : ∀ {names : List (Str × NameKind)} {x : Str} {k : NameKind},
    (names.map fun (n, k) => if (k == NameKind.free && env.scope.kind == .function && env.kindOf n == some .cell) then (n, NameKind.cell) else (n, k)).lookup x = some k →
      names.lookup x = some k ∨ (k = .cell ∧ names.lookup x = some .free)
  | [], _, _, h => by simp at h
  | (n, k') :: r, x, k, h => by
    rw [List.map_cons] at h
    by_cases hx : x = n
    · subst hx
      rw [List.lookup_cons_self]
      by_cases hc : (k' == NameKind.free && env.scope.kind == .function && env.kindOf x == some .cell) = true
      · simp only [hc, if_true] at h
        rw [List.lookup_cons_self] at h
        have hk : k' = .free := by
          simp only [Bool.and_eq_true, beq_iff_eq] at hc
          exact hc.1.1
        exact .inr ⟨(Option.some.inj h).symm, by rw [hk]⟩
      · simp only [hc] at h
        rw [if_neg (by simp), List.lookup_cons_self] at h
        exact .inl h
    · have e : (x == n) = false := beq_eq_false_iff_ne.mpr hx
      have h' : (r.map fun (n, k) => if (k == NameKind.free && env.scope.kind == .function && env.kindOf n == some .cell) then (n, NameKind.cell) else (n, k)).lookup x = some k := by
        by_cases hc : (k' == NameKind.free && env.scope.kind == .function && env.kindOf n == some .cell) = true
        · simp only [hc, if_true] at h
          rw [List.lookup_cons, e] at h
          exact h
        · simp only [hc] at h
          rw [if_neg (by simp), List.lookup_cons, e] at h
          exact h
      have ih := @lookup_relabel env r x k h'
      rw [List.lookup_cons, e]
      exact ih
theorem relabel_free {env : Env} : ∀ {names : List (Str × NameKind)} {x : Str}, names.lookup x = some .free →
    (names.map fun (n, k) => if (k == NameKind.free && env.scope.kind == .function && env.kindOf n == some .cell) then (n, NameKind.cell) else (n, k)).lookup x = some .cell ∨
    (names.map fun (n, k) => if (k == NameKind.free && env.scope.kind == .function && env.kindOf n == some .cell) then (n, NameKind.cell) else (n, k)).lookup x = some .free
  | [], _, h => by simp at h
  | (n, k') :: r, x, h => by
    rw [List.map_cons]
    by_cases hx : x = n
    · subst hx
      rw [List.lookup_cons_self] at h
      cases h
      by_cases hc : (NameKind.free == NameKind.free && env.scope.kind == .function && env.kindOf x == some .cell) = true
      · simp only [hc, if_true]
        exact .inl List.lookup_cons_self
      · simp only [hc]
        rw [if_neg (by simp)]
        exact .inr List.lookup_cons_self
    · have e : (x == n) = false := beq_eq_false_iff_ne.mpr hx
      rw [List.lookup_cons, e] at h
      have ih := @relabel_free env r x h
      by_cases hc : (k' == NameKind.free && env.scope.kind == .function && env.kindOf n == some .cell) = true
      · simp only [hc, if_true]
        rw [List.lookup_cons, e]
        exact ih
      · simp only [hc]
        rw [if_neg (by simp), List.lookup_cons, e]
        exact ih
def blk (X : Cx) (scope : Scope) (own : List Str) (fr : List Nat) (s : Shared) (H : Hp) (ex : List Addr) : Cx where
  prog := X.prog
  w := X.w
  K := X.K
  mg := X.mg
  base := X.base
  A := X.A
  N := own ++ fr.map fun j => X.N.getD j (Str.ofString "")
  s₀ := s
  H₀ := H
  env := compEnvC scope (clOf X.env.cells scope.names []) s.heap.objs.size X.env
  outer := X.stack
  stack := X.stack
  ex := ex
  fn := fun _ => false
  calm := X.calm
  pn := []
  xe := fun _ _ => False
def blkS (own : List Str) (fr : List Nat) (σ : St) : St := own.map (fun _ => none) ++ fr.map fun j => (σ[j]?).join
structure CompOk (X : Cx) (scope : Scope) (fr : List Nat) : Prop where
  kind : scope.kind = .function
  nocell : ∀ y ∈ scope.names, y.2 ≠ .cell
  loc : ∀ y ∈ scope.names, y.2 = .local → scope.names.lookup y.1 = some .local
  frees : ∀ y ∈ scope.names, y.2 = .free → X.env.scope.names.lookup y.1 = some .cell ∨ X.env.scope.names.lookup y.1 = some .free
  fr : ∀ j ∈ fr, scope.names.lookup (X.N.getD j (Str.ofString "")) = some .free
theorem inv_blk {X : Cx} {scope : Scope} {own : List Str} {fr : List Nat} {pins : List (Addr × Obj)} {σ : St} {H : Hp} {s : Shared} {ex : List Addr} {h1 : Heap} {t1 : Nat} (I : Inv X pins σ H s) (O : CompOk X scope fr)
    (hex : ∀ b ∈ ex, FpOk X pins H b ∧ b < s.heap.objs.size) (hns : h1.Ns s.heap.objs.size fun _ => none) (hk : ∀ b o, s.heap.get? b = some o → h1.get? b = some o) :
    Inv (blk X scope own fr s H ex) [] (blkS own fr σ) H { s with heap := h1, toks := t1 } := by
  have hsome : ∀ x ∈ scope.names, x.2 = .free → (X.env.cells.lookup x.1).isSome = true := fun x hx e => by
    obtain ⟨c, hc⟩ := I.ok.has x.1 (O.frees x hx e)
    rw [hc]; rfl
  have sub : ∀ x c, (clOf X.env.cells scope.names []).lookup x = some c → X.env.cells.lookup x = some c := cl_sub scope.names [] hsome fun x c e => by simp at e
  have hasc : ∀ x, scope.names.lookup x = some .free → ∃ c, (clOf X.env.cells scope.names []).lookup x = some c := fun x e => Option.isSome_iff_exists.mp (cl_has scope.names [] x (PySem.mem_of_lookup e))
  have hcne : ∀ x c, X.env.cells.lookup x = some c → c < s.heap.objs.size := fun x c e => by
    obtain ⟨v, q⟩ := I.cell x c e
    exact q.lt
  have hN : σ.length = X.N.length := I.len
  refine ⟨⟨I.ok.mod, O.kind, I.ok.glob, I.ok.blt, Nat.le_refl _, fun x y c e1 e2 => I.ok.inj x y c (sub x c e1) (sub y c e2), fun x hx => ?_, fun x c z => absurd z (by simp [blk]), I.ok.hd, I.ok.frames, .inl rfl, fun b hb => ⟨Nat.ne_of_lt (hex b hb).2, fun x c e => (hex b hb).1.2.2.2.2.1 x c (sub x c e)⟩,
    fun b o e => I.bs b o e, Nat.le_trans I.ok.bsz I.sz, fun b o e hb => ?_, fun b hb z => ?_, I.stack, I.stkFree⟩,
    rfl, I.bare, Un.kept hk, ⟨_, hns, fun i x v e1 e2 e3 => ?_⟩, fun x c e => ?_, I.fresh, fun x c e => I.freeC x c (sub x c e), fun p hp => absurd hp (by simp [blk]), I.hok.kept hk, ?_⟩
  · have hx' : (relabel scope X.env).names.lookup x = some .cell ∨ (relabel scope X.env).names.lookup x = some .free := hx
    rcases hx' with hx | hx
    · rcases lookup_relabel hx with q | ⟨_, q⟩
      · exact absurd rfl (O.nocell _ (PySem.mem_of_lookup q))
      · exact hasc x q
    · rcases lookup_relabel hx with q | ⟨q, _⟩
      · exact hasc x q
      · cases q
  · rcases (hex b hb).1.2.2.2.1 with z | z
    · exact I.ok.noex b o e z
    · exact absurd (Nat.lt_of_lt_of_le (Heap.lt_size e) (Nat.le_trans I.ok.bsz z)) (Nat.lt_irrefl _)
  · obtain ⟨_, f1, f2, _⟩ := (hex b hb).1
    rcases List.mem_cons.mp (I.stkSub b z) with q | q
    · exact f1 q
    · exact f2 q
  · have e1' : (own ++ fr.map fun j => X.N.getD j (Str.ofString ""))[i]? = some x := e1
    unfold blkS at e2
    have hi : own.length ≤ i := by
      by_cases h : own.length ≤ i
      · exact h
      · rw [List.getElem?_append_left (by simpa using Nat.lt_of_not_le h), List.getElem?_map] at e2
        cases q : own[i]? with
        | none => rw [q] at e2; cases e2
        | some z => rw [q] at e2; cases e2
    rw [List.getElem?_append_right hi, List.getElem?_map] at e1'
    rw [List.getElem?_append_right (by simpa using hi), List.getElem?_map, List.length_map] at e2
    cases q : fr[i - own.length]? with
    | none => rw [q] at e2; cases e2
    | some j =>
      rw [q] at e1' e2
      have e1'' : X.N.getD j (Str.ofString "") = x := Option.some.inj e1'
      have e2' : (σ[j]?).join = some v := Option.some.inj e2
      have e2'' : σ[j]? = some (some v) := by
        cases z : σ[j]? with
        | none => rw [z] at e2'; cases e2'
        | some y => rw [z] at e2'; rw [← e2']; rfl
      have hj : j < X.N.length := by rw [← hN]; exact (List.getElem?_eq_some_iff.mp e2'').1
      have e3' : X.N[j]? = some x := by
        rw [List.getElem?_eq_getElem hj, ← e1'', List.getD_eq_getElem?_getD, List.getElem?_eq_getElem hj]
        rfl
      have hf := O.fr j (List.mem_of_getElem? q)
      rw [e1''] at hf
      have hv := O.frees _ (PySem.mem_of_lookup hf) rfl
      obtain ⟨m, _, hl⟩ := I.loc
      obtain ⟨u, ru, lk⟩ := hl j x v e3' e2'' (.inr hv)
      refine ⟨u, ru, .inr ⟨?_, ?_⟩⟩
      · exact relabel_free hf
      · obtain ⟨c, hc⟩ := hasc x hf
        refine ⟨c, hc, ?_⟩
        rcases lk with ⟨k, _⟩ | ⟨_, c', hc', z⟩
        · have k' : X.env.scope.names.lookup x = some .local := k
          rcases hv with hv | hv <;> · rw [k'] at hv; cases hv
        · have := sub x c hc
          rw [hc'] at this
          cases this
          obtain ⟨o, ho, hd⟩ := z
          exact ⟨o, hk _ _ ho, hd⟩
  · obtain ⟨v, o, ho, hd⟩ := I.cell x c (sub x c e)
    exact ⟨v, o, hk _ _ ho, hd⟩
  · show (blkS own fr σ).length = (own ++ fr.map fun j => X.N.getD j (Str.ofString "")).length
    unfold blkS
    rw [List.length_append, List.length_append, List.length_map, List.length_map, List.length_map]
theorem blk_back {X : Cx} {scope : Scope} {own : List Str} {fr : List Nat} {pins : List (Addr × Obj)} {σ σ' : St} {H H' : Hp} {s s' : Shared} {ex : List Addr} (I : Inv X pins σ H s) (hex : ∀ b ∈ ex, FpOk X pins H b ∧ b < s.heap.objs.size)
    (J : Inv (blk X scope own fr s H ex) [] σ' H' s') {h' : Heap} (hs : Heap.SameBut s.heap.objs.size s'.heap h') : Inv X pins σ H' { s' with heap := h' } := by
  have hC : H' s.heap.objs.size = none := J.free
  have u : Un (frs X.stack) ex H H' s.heap s'.heap := J.base
  have ne : ∀ b o, s.heap.get? b = some o → b ≠ s.heap.objs.size := fun b o e => Nat.ne_of_lt (Heap.lt_size e)
  have at' : ∀ b o, b ≠ s.heap.objs.size → s'.heap.get? b = some o → h'.get? b = some o := fun b o hb e => (hs.2 b hb).trans e
  refine I.call' (ch := ex) J.os ⟨fun b o e n hb hx => ?_, fun b o e n hb hx => ?_, u.free, fun b o e hx => ?_, u.tups, u.frzs, u.tbls⟩ (fun b o e => ?_) J.bare fun b hb => ?_
  · exact at' b o (ne b o e) (u.keep b o e n hb hx)
  · obtain ⟨sl, q⟩ := u.slot b o e n hb hx
    exact ⟨sl, at' b _ (ne b o e) q⟩
  · obtain ⟨o', q⟩ := u.there b o e hx
    exact ⟨o', at' b _ (ne b o e) q⟩
  · refine (J.hok b o e).stay (fun c v hc q => at' c v ?_ q) (fun _ q => q) fun _ _ q => q
    rintro z
    rcases hc with y | y
    · rw [y] at z; rw [z, hC] at e; cases e
    · rw [z, hC] at y; cases y
  · obtain ⟨f0, f1, f2, f3, f4, f5⟩ := (hex b hb).1
    exact ⟨f3, f1, f4, f5⟩
def PTs (X : Cx) (ifs : List Expr) (t : TT) : Prop :=
  ∀ (pins : List (Addr × Obj)) (s : Shared) (σ : St) (H : Hp) (Q : Bool → Hp → Prop), Inv X pins σ H s → t σ H Q →
    wpAny (model X.prog X.w) X.A (forIn ifs true fun c r => if r = true then do let ok ← isTrue c X.env (eval c X.env); pure (ForInStep.yield ok) else pure (ForInStep.yield r)) (TP X pins σ Q) X.xe s
def tYes : TT := fun _ H Q => Q true H
theorem pts_nil {X : Cx} : PTs X [] tYes := fun _ _ _ H _ I h => wpAny_tests_nil ⟨H, I, h⟩
def CompGo (J : It) (p : Addr) (g : TG) (tt : TT) (te : TE) (Q : VK) (σ : St) (H : Hp) : Prop := ∃ W : Nat → Nat → St → Hp → Prop, (∃ m, W 0 m σ H) ∧
  ∀ i m σ' H', W i m σ' H' → (J.stop i H' ∧ Q (.ref p) H') ∨ (J.go i H' ∧ ∃ N : St → Hp → Prop, (∀ σ3 H3, N σ3 H3 → ∃ m', m' < m ∧ W (i + 1) m' σ3 H3) ∧ ∀ x H2, J.yld i H' x H2 → g x σ' H2 fun σ3 H3 => tt σ3 H3 fun c H4 =>
    if c = true then te σ3 H4 fun y H5 => ∃ ys, H5 p = some (.lst ys) ∧ ys.length < sizeLine ∧ N σ3 (upd H5 p (.lst (ys ++ [y]))) else N σ3 H4)
def tComp (own : List Str) (fr : List Nat) (wi : TI) (g : TG) (tt : TT) (te : TE) : TE := fun σ H Q => wi σ H fun J H1 => ∀ p, H1 p = none → CompGo J p g tt te Q (blkS own fr σ) (upd H1 p (.lst []))
theorem comp_run {X : Cx} {scope : Scope} {own : List Str} {fr : List Nat} {elt tg iter : Expr} {ifs : List Expr} {pos : Pos} {wi : TI} {g : TG} {tt : TT} {te : TE} {use : Option (Value → Sem Unit)} (hc : X.calm = true) (O : CompOk X scope fr) (hi : PI X tg iter wi)
    (hb : ∀ s H ex, PG (blk X scope own fr s H ex) tg g ∧ PTs (blk X scope own fr s H ex) ifs tt ∧ PE (blk X scope own fr s H ex) elt te)
    (hs : ∀ x, foldedSetIterable iter X.env x = pure x) {pins : List (Addr × Obj)} {s : Shared} {σ : St} {H : Hp} {Q : VK} {R : Value → Shared → Prop} (I : Inv X pins σ H s) (h : tComp own fr wi g tt te σ H Q) (hx : ∀ e s', X.xe e s' ↔ False)
    (fin : ∀ (p C : Addr) (H' : Hp) (s' : Shared) (m : Str → Option Value), s'.heap.Ns C m → H' C = none → C ≠ X.env.locals → (∀ x c, X.env.cells.lookup x = some c → c ≠ C) → Inv X pins σ H' s' → (∀ h', Heap.SameBut C s'.heap h' → Inv X pins σ H' { s' with heap := h' }) → Q (.ref p) H' →
      compPost (model X.prog X.w) X.A X.xe use R (.ref p) C (.ok .next) s') :
    wpAny (model X.prog X.w) X.A (comprehension (.ListComp elt [⟨tg, iter, ifs, 0⟩] scope pos) scope X.env (firstIterPos [⟨tg, iter, ifs, 0⟩] pos) (newList []) false (eval iter X.env) use) R X.xe s := by
  have hsome : ∀ x ∈ scope.names, x.2 = .free → (X.env.cells.lookup x.1).isSome = true := fun x hx' e => by
    obtain ⟨c, hc⟩ := I.ok.has x.1 (O.frees x hx' e)
    rw [hc]; rfl
  have no : ∀ (E : Value → Shared → Prop) (x : Value) (s' : Shared), X.xe x s' → E x s' := fun E x s' z => ((hx x s').mp z).elim
  refine wpAny_comprehension_free (cl := clOf X.env.cells scope.names []) rfl hs (closure_cl hsome) O.kind O.loc ?_
  refine thn (hi pins s σ H _ I h) fun v s1 h1 => thn h1 fun itv s2 h2 => ?_
  obtain ⟨it, fp, tn, J, H2, e, I2, T, st2, f2, q2⟩ := h2
  subst e
  refine wpAny_newObj_type ?_
  have nw : H2 s2.heap.objs.size = none := I2.fresh
  obtain ⟨W, ⟨m0, w0⟩, turn⟩ := q2 _ nw
  generalize hp : s2.heap.objs.size = p at *
  have I3 : Inv X pins σ (upd H2 p (.lst [])) { s2 with heap := s2.heap.push { cls := .type "list", dict := none, data := .seq ([] : List Value).toArray } } := by
    have := I2.lnew (ys := []) (its := []) (t' := s2.toks) .nil (Nat.zero_le _)
    rw [hp] at this
    exact this
  have lt2 : ∀ b ∈ fp, b < s2.heap.objs.size := fun b hb => by
    obtain ⟨o, ho, _⟩ := T.obj _ _ st2 b hb
    exact Heap.lt_size ho
  have fpn : ∀ b ∈ fp, (upd H2 p (.lst [])) b = none := fun b hb => by
    rw [upd_ne (by rw [← hp]; exact Nat.ne_of_lt (lt2 b hb))]
    exact (f2 b hb).1
  generalize hs3 : ({ s2 with heap := s2.heap.push { cls := .type "list", dict := none, data := .seq ([] : List Value).toArray } } : Shared) = s3 at *
  have sz3 : s3.heap.objs.size = p + 1 := by
    rw [← hs3]
    show (s2.heap.push _).objs.size = _
    rw [Heap.size_push, hp]
  have st3 : tn 0 s3.heap := T.keep 0 _ _ st2 fun b hb o e => by
    rw [← hs3]
    exact Heap.get?_push_of_some _ e
  refine wpAny_newFunctionEnv O.nocell (by intro y hy; simp at hy) (fun h4 hns4 hsb4 => ?_) O.kind
  have k4 : ∀ b o, s3.heap.get? b = some o → h4.get? b = some o := fun b o e => hsb4.extBut b o (Nat.ne_of_lt (Heap.lt_size e)) (Heap.get?_push_of_some _ e)
  have hns4' : h4.Ns s3.heap.objs.size fun _ => none := by
    have z : (fun x : Str => ([] : List (Str × Value)).reverse.lookup x) = fun _ => none := by funext x; rfl
    rw [z] at hns4
    exact hns4
  have fo : ∀ b ∈ fp, FpOk X pins (upd H2 p (.lst [])) b ∧ b < s3.heap.objs.size := fun b hb => ⟨⟨fpn b hb, (f2 b hb).2⟩, by rw [sz3, ← hp]; exact Nat.lt_succ_of_lt (lt2 b hb)⟩
  have I4 := inv_blk (own := own) (fr := fr) (t1 := s3.toks + ([] : List (Str × Value)).length) I3 O fo hns4' k4
  have st4 : tn 0 h4 := T.keep 0 _ _ st3 fun b hb o e => k4 b o e
  obtain ⟨hg, ht, he⟩ := hb s3 (upd H2 p (.lst [])) fp
  have stat : ∀ {H' : Hp} {pn : List (Addr × Obj)} {s' : Shared} {σ' : St}, Inv (blk X scope own fr s3 (upd H2 p (.lst [])) fp) [] σ' H' s' → (∀ b ∈ fp, H' b = none) → ∀ b ∈ fp, FpOk (blk X scope own fr s3 (upd H2 p (.lst [])) fp) [] H' b := fun {H' pn s' σ'} J hn b hb' =>
    ⟨hn b hb', (J.ok.exf b hb').1, J.ok.exfs b hb', .inl hb', (J.ok.exf b hb').2, fun p hp => absurd hp (by simp [blk])⟩
  have nocells : ∀ x c, X.env.cells.lookup x = some c → c ≠ s3.heap.objs.size := fun x c e => by
    obtain ⟨v, q⟩ := I3.cell x c e
    exact Nat.ne_of_lt q.lt
  have loop : ∀ s5 : Shared, s5 = { s3 with heap := h4, toks := s3.toks + ([] : List (Str × Value)).length } →
      codeAny (model X.prog X.w) X.A (.compLoop (.ListComp elt [⟨tg, iter, ifs, 0⟩] scope pos) 0 (.ref it) (.ref p) (blk X scope own fr s3 (upd H2 p (.lst [])) fp).env) (compPost (model X.prog X.w) X.A X.xe use R (.ref p) s3.heap.objs.size) s5 := by
    rintro s5 rfl
    refine compLoop_gen (fun n s' => ∃ i σ' H', Inv (blk X scope own fr s3 (upd H2 p (.lst [])) fp) [] σ' H' s' ∧ tn i s'.heap ∧ (∀ b ∈ fp, H' b = none) ∧ W i n σ' H') ?_ m0 ⟨0, _, _, I4, st4, fpn, w0⟩
    rintro n s6 ⟨i, σ6, H6, I6, st6, fr6, w6⟩
    rcases turn i n σ6 H6 w6 with ⟨stop, qn⟩ | ⟨go, N, hN, step⟩
    · refine thn (T.done (blk X scope own fr s3 (upd H2 p (.lst [])) fp) rfl rfl rfl hc i [] s6 σ6 H6 _ I6 (stat (pn := []) I6 fr6) st6 stop) fun r s7 ⟨hr, I7⟩ => ?_
      subst hr
      obtain ⟨m, hm, _⟩ := I7.loc
      exact fin p _ H6 s7 m hm I7.free (Nat.ne_of_gt I3.lt) nocells (blk_back I3 fo I7 (Heap.SameBut.refl ..)) (fun h' hs' => blk_back I3 fo I7 hs') qn
    · refine thn (T.item (blk X scope own fr s3 (upd H2 p (.lst [])) fp) rfl rfl rfl hc i [] s6 σ6 H6 _ I6 (stat (pn := []) I6 fr6) st6 go) fun r s7 ⟨u, hr, h7⟩ => ?_
      subst hr
      refine thn h7 fun _ s8 ⟨x, H8, I8, r8, y8, st8, fr8⟩ => ?_
      have I8' := I8.pinned (stat (pn := []) I8 fr8) (T.obj _ _ st8)
      refine thn (hg _ s8 σ6 H8 x u _ I8' r8 (step x H8 y8)) fun _ s9 ⟨σ9, H9, I9, q9⟩ => ?_
      refine thn (ht _ s9 σ9 H9 _ I9 q9) fun ok s10 ⟨H10, I10, q10⟩ => ?_
      have again : ∀ {H11 : Hp} {s11 : Shared}, Inv (blk X scope own fr s3 (upd H2 p (.lst [])) fp) ([] ++ pinsAt fp s8.heap) σ9 H11 s11 → (∃ m', m' < n ∧ W (i + 1) m' σ9 H11) →
          ∃ m, m < n ∧ ∃ i σ' H', Inv (blk X scope own fr s3 (upd H2 p (.lst [])) fp) [] σ' H' s11 ∧ tn i s11.heap ∧ (∀ b ∈ fp, H' b = none) ∧ W i m σ' H' := fun {H11 s11} I11 ⟨m', hm, w11⟩ => by
        refine ⟨m', hm, i + 1, σ9, H11, I11.unpinned, T.keep _ _ _ st8 fun b hb' o e => (I11.pin (b, o) (List.mem_append_right _ (List.mem_append_right _ (mem_pinsAt hb' e)))).1, fun b hb' => ?_, w11⟩
        obtain ⟨o, e, d⟩ := T.obj _ _ st8 b hb'
        exact (I11.pin (b, o) (List.mem_append_right _ (List.mem_append_right _ (mem_pinsAt hb' e)))).2.1
      cases ok with
      | false =>
        rw [if_neg Bool.false_ne_true] at q10 ⊢
        exact again I10 (hN _ _ q10)
      | true =>
        rw [if_pos rfl] at q10 ⊢
        refine thn (he _ s10 σ9 H10 _ I10 q10) fun yv s11 ⟨y, H11, I11, r11, ys, hys, hlen, q11⟩ => ?_
        have ap := mt_append (X := blk X scope own fr s3 (upd H2 p (.lst [])) fp) ([] ++ pinsAt fp s8.heap) s11 σ9 H11 (.ref p) [y] (.ref p) [yv] (fun _ H12 => ∃ m', m' < n ∧ W (i + 1) m' σ9 H12) I11 rfl (.cons r11 .nil) ⟨p, ys, y, rfl, rfl, hys, hlen, hN _ _ q11⟩
        exact thn ap fun _ s12 ⟨_, H12, I12, _, q12⟩ => again I12 q12
  refine codeAny_compStart_list (loop _ rfl) (T.self X.A 0 _ _ _ st4 (loop _ rfl))
theorem pe_comp {X : Cx} {scope : Scope} {elt tg iter : Expr} {ifs : List Expr} {pos : Pos} {wi : TI} {g : TG} {tt : TT} {te : TE} (own : List Str) (fr : List Nat) (hc : X.calm = true) (O : CompOk X scope fr) (hi : PI X.nox tg iter wi)
    (hb : ∀ s H ex, PG (blk X.nox scope own fr s H ex) tg g ∧ PTs (blk X.nox scope own fr s H ex) ifs tt ∧ PE (blk X.nox scope own fr s H ex) elt te)
    (hs : ∀ x, foldedSetIterable iter X.env x = pure x := by intro _; rfl) : PE X.nox (.ListComp elt [⟨tg, iter, ifs, 0⟩] scope pos) (tComp own fr wi g tt te) := by
  intro pins s σ H Q I h
  rw [eval_ListComp]
  refine comp_run (X := X.nox) (use := none) (Q := Q) hc ⟨O.kind, O.nocell, O.loc, O.frees, O.fr⟩ hi hb hs I h (fun _ _ => Iff.rfl) fun p C H' s' m hm hC _ _ I' back q => ?_
  exact ⟨m, hm, fun h' hs' => ⟨.ref p, H', back h' hs', rfl, q⟩⟩
section
variable {p : Addr} {g : TG} {tt : TT} {te : TE} {σ : St} {H : Hp} {Q : VK}
theorem comp_by (J : It) (n : Nat) (Pv : Nat → St → Hp → Prop) (h0 : Pv 0 σ H) (stop : ∀ σ' H', Pv n σ' H' → J.stop n H') (go : ∀ i σ' H', i < n → Pv i σ' H' → J.go i H')
    (hs : ∀ i σ' H', i < n → Pv i σ' H' → ∀ x H2, J.yld i H' x H2 → g x σ' H2 fun σ3 H3 => tt σ3 H3 fun c H4 => if c = true then te σ3 H4 fun y H5 => ∃ ys, H5 p = some (.lst ys) ∧ ys.length < sizeLine ∧ Pv (i + 1) σ3 (upd H5 p (.lst (ys ++ [y]))) else Pv (i + 1) σ3 H4)
    (hd : ∀ σ' H', Pv n σ' H' → Q (.ref p) H') : CompGo J p g tt te Q σ H := by
  refine ⟨fun i m σ H => m = n - i ∧ i ≤ n ∧ Pv i σ H, ⟨n, by simp, Nat.zero_le _, h0⟩, ?_⟩
  rintro i m σ1 H1 ⟨rfl, hi, pv⟩
  by_cases hlt : i < n
  · exact .inr ⟨go i σ1 H1 hlt pv, Pv (i + 1), fun σ3 H3 q => ⟨n - (i + 1), by omega, rfl, hlt, q⟩, hs i σ1 H1 hlt pv⟩
  · have e : i = n := by omega
    subst e
    exact .inl ⟨stop σ1 H1 pv, hd σ1 H1 pv⟩
theorem comp_range {lo : Int} {n : Nat} (Pv : Nat → St → Hp → Prop) (h0 : Pv 0 σ H)
    (hs : ∀ i σ' H', i < n → Pv i σ' H' → g (.int (lo + i)) σ' H' fun σ3 H3 => tt σ3 H3 fun c H4 => if c = true then te σ3 H4 fun y H5 => ∃ ys, H5 p = some (.lst ys) ∧ ys.length < sizeLine ∧ Pv (i + 1) σ3 (upd H5 p (.lst (ys ++ [y]))) else Pv (i + 1) σ3 H4)
    (hd : ∀ σ' H', Pv n σ' H' → Q (.ref p) H') : CompGo (Itr lo n) p g tt te Q σ H :=
  comp_by (Itr lo n) n Pv h0 (fun _ _ _ => Nat.le_refl _) (fun i _ _ h _ => h) (fun i σ' H' h pv x H2 y => by
    obtain ⟨e1, e2⟩ := y
    subst e1 e2
    exact hs i σ' _ h pv) hd
theorem comp_tup {K : PySem.W.Frag} {a : Addr} {xs : List V} (Pv : Nat → St → Hp → Prop) (h0 : Pv 0 σ H) (hl : ∀ i σ' H', i ≤ xs.length → Pv i σ' H' → SqT K H' a xs)
    (hs : ∀ i x σ' H', xs[i]? = some x → Pv i σ' H' → g x σ' H' fun σ3 H3 => tt σ3 H3 fun c H4 => if c = true then te σ3 H4 fun y H5 => ∃ ys, H5 p = some (.lst ys) ∧ ys.length < sizeLine ∧ Pv (i + 1) σ3 (upd H5 p (.lst (ys ++ [y]))) else Pv (i + 1) σ3 H4)
    (hd : ∀ σ' H', Pv xs.length σ' H' → Q (.ref p) H') : CompGo (Itt K a) p g tt te Q σ H :=
  comp_by (Itt K a) xs.length Pv h0 (fun σ' H' pv => ⟨xs, hl _ σ' H' (Nat.le_refl _) pv, Nat.le_refl _⟩) (fun i σ' H' h pv => ⟨xs, xs[i], hl i σ' H' (Nat.le_of_lt h) pv, by simp [h]⟩) (fun i σ' H' h pv x H2 y => by
    obtain ⟨e1, e2⟩ := y
    subst e1
    exact hs i x σ' _ (e2 xs (hl i σ' _ (Nat.le_of_lt h) pv)) pv) hd
theorem comp_list {K : PySem.W.Frag} {a : Addr} {xs : List V} (Pv : Nat → St → Hp → Prop) (h0 : Pv 0 σ H) (hl : ∀ i σ' H', i ≤ xs.length → Pv i σ' H' → SqL K H' a xs)
    (hs : ∀ i x σ' H', xs[i]? = some x → Pv i σ' H' → g x σ' H' fun σ3 H3 => tt σ3 H3 fun c H4 => if c = true then te σ3 H4 fun y H5 => ∃ ys, H5 p = some (.lst ys) ∧ ys.length < sizeLine ∧ Pv (i + 1) σ3 (upd H5 p (.lst (ys ++ [y]))) else Pv (i + 1) σ3 H4)
    (hd : ∀ σ' H', Pv xs.length σ' H' → Q (.ref p) H') : CompGo (Itl K a) p g tt te Q σ H :=
  comp_by (Itl K a) xs.length Pv h0 (fun σ' H' pv => ⟨xs, hl _ σ' H' (Nat.le_refl _) pv, Nat.le_refl _⟩) (fun i σ' H' h pv => ⟨xs, xs[i], hl i σ' H' (Nat.le_of_lt h) pv, by simp [h]⟩) (fun i σ' H' h pv x H2 y => by
    obtain ⟨e1, e2⟩ := y
    subst e1
    exact hs i x σ' _ (e2 xs (hl i σ' _ (Nat.le_of_lt h) pv)) pv) hd
end
end L2
set_option Elab.async false
set_option linter.all false
set_option maxRecDepth 100000
namespace L2
open PySem PySem.Spec PyProof.Rows
inductive D where
  | int (i : Int) | str (x : Str) | tup (ds : List D)
mutual
def Held (H : Hp) : D → V → Prop
  | .int i, v => v = .int i
  | .str x, v => v = .str x
  | .tup ds, v => ∃ a xs, v = .ref a ∧ H a = some (.tup xs) ∧ HeldL H ds xs
def HeldL (H : Hp) : List D → List V → Prop
  | [], vs => vs = []
  | d :: ds, vs => ∃ v r, vs = v :: r ∧ Held H d v ∧ HeldL H ds r
end
mutual
theorem Held.mono {H H' : Hp} (e : Same H H') : ∀ {d : D} {v : V}, Held H d v → Held H' d v
  | .int i, v, h => by unfold Held at h ⊢; exact h
  | .str x, v, h => by unfold Held at h ⊢; exact h
  | .tup ds, v, h => by
    unfold Held at h ⊢
    obtain ⟨a, xs, e1, e2, e3⟩ := h
    exact ⟨a, xs, e1, e a _ e2, HeldL.mono e e3⟩
theorem HeldL.mono {H H' : Hp} (e : Same H H') : ∀ {ds : List D} {vs : List V}, HeldL H ds vs → HeldL H' ds vs
  | [], vs, h => by unfold HeldL at h ⊢; exact h
  | d :: ds, vs, h => by
    unfold HeldL at h ⊢
    obtain ⟨v, r, e1, e2, e3⟩ := h
    exact ⟨v, r, e1, Held.mono e e2, HeldL.mono e e3⟩
end
theorem held_int {H : Hp} {i : Int} : Held H (.int i) (.int i) := by unfold Held; rfl
theorem held_str {H : Hp} {x : Str} : Held H (.str x) (.str x) := by unfold Held; rfl
theorem held_tup {H : Hp} {a : Addr} {xs : List V} {ds : List D} (e : H a = some (.tup xs)) (h : HeldL H ds xs) : Held H (.tup ds) (.ref a) := by unfold Held; exact ⟨a, xs, rfl, e, h⟩
theorem heldL_nil {H : Hp} : HeldL H [] [] := by unfold HeldL; rfl
theorem heldL_cons {H : Hp} {d : D} {ds : List D} {v : V} {r : List V} (h : Held H d v) (t : HeldL H ds r) : HeldL H (d :: ds) (v :: r) := by unfold HeldL; exact ⟨v, r, rfl, h, t⟩
theorem HeldL.length {H : Hp} : ∀ {ds : List D} {vs : List V}, HeldL H ds vs → ds.length = vs.length
  | [], vs, h => by unfold HeldL at h; subst h; rfl
  | d :: ds, vs, h => by
    unfold HeldL at h
    obtain ⟨v, r, e1, _, e3⟩ := h
    subst e1
    rw [List.length_cons, List.length_cons, HeldL.length e3]
theorem HeldL.get {H : Hp} : ∀ {ds : List D} {vs : List V} {j : Nat} {d : D}, HeldL H ds vs → ds[j]? = some d → ∃ v, vs[j]? = some v ∧ Held H d v
  | [], _, _, _, _, e => by simp at e
  | d :: ds, vs, 0, d', h, e => by
    unfold HeldL at h
    obtain ⟨v, r, e1, e2, e3⟩ := h
    simp at e; subst e e1
    exact ⟨v, rfl, e2⟩
  | d :: ds, vs, j + 1, d', h, e => by
    unfold HeldL at h
    obtain ⟨v, r, e1, e2, e3⟩ := h
    subst e1
    obtain ⟨w, h1, h2⟩ := HeldL.get (j := j) (d := d') e3 (by simpa using e)
    exact ⟨w, by simpa using h1, h2⟩
mutual
def D.depth : D → Nat
  | .int _ => 0
  | .str _ => 0
  | .tup ds => D.depthL ds + 1
def D.depthL : List D → Nat
  | [] => 0
  | d :: ds => max (D.depth d) (D.depthL ds)
end
section
variable {X : Cx} {pins : List (Addr × Obj)} {σ : St} {H : Hp} {s : Shared}
end
section
variable {prog : Program} {w : World} {A : Around} {E : Value → Shared → Prop}
theorem draw_list {it t : Addr} {items : Array Value} (hne : t ≠ it) : ∀ (n i : Nat) (s : Shared) (Q : List Value → Shared → Prop), s.heap.IsListIter it t i → s.heap.IsList t items → i + n ≤ items.size →
    (∀ h', h'.IsListIter it t (i + n) → Heap.SameBut it s.heap h' → Q ((items.toList.drop i).take n) { s with heap := h' }) → wpAny (model prog w) A (draw (.ref it) n) Q E s
  | 0, i, s, Q, hit, _, _, hQ => by
    show wpAny _ _ (pure []) Q E s
    exact wpAny_pure (by simpa using hQ s.heap hit (Heap.SameBut.refl ..))
  | n + 1, i, s, Q, hit, ht, hle, hQ => by
    have hlt : i < items.size := by omega
    show wpAny _ _ (pyNext (.ref it) >>= _) Q E s
    refine wpAny_bind (wpAny_pyNext_list_item hit ht (x := items[i]) (by simp [hlt]) fun h1 hit1 hs1 => ?_)
    refine wpAny_bind (wpAny_holding (draw_list hne n (i + 1) _ _ hit1 (ht.extBut hs1.extBut hne) (by omega) fun h2 hit2 hs2 => wpAny_pure ?_))
    have hd : items.toList.drop i = items[i] :: items.toList.drop (i + 1) := by simp [List.drop_eq_getElem_cons, hlt]
    have := hQ h2 (by rw [show i + (n + 1) = i + 1 + n by omega]; exact hit2) (hs1.trans hs2)
    rw [hd, List.take_succ_cons] at this
    exact this
theorem unpackItems_list {s : Shared} {t : Addr} {items : Array Value} {Q : List Value → Shared → Prop} (hh : A.handled = none) (ht : s.heap.IsList t items)
    (hQ : ∀ h', Heap.ExtBut s.heap.objs.size s.heap h' → Q items.toList { s with heap := h' }) : wpAny (model prog w) A (unpackItems (.ref t) items.size none) Q E s := by
  have hlt : t ≠ s.heap.objs.size := by obtain ⟨o, ho, _⟩ := ht; exact Nat.ne_of_lt (Heap.lt_size ho)
  unfold unpackItems
  refine wpAny_bind ?_
  unfold notIterableAtAll
  refine wpAny_bind (wpAny_specialOf ht.typeIs slot_list_iter.lookup ?_)
  refine wpAny_pure ?_
  simp only [Bool.false_eq_true, if_false]
  refine wpAny_bind (wpAny_holding (wpAny_pyIter_list ht ?_))
  refine wpAny_bind (wpAny_holding (draw_list hlt items.size 0 _ _ ⟨_, Heap.get?_push_size _ rfl, rfl, rfl⟩ (ht.at fun o e => Heap.get?_push_of_some _ e) (by omega) fun h1 hit1 hs1 => ?_))
  have hall : List.take items.size (List.drop 0 items.toList) = items.toList := by
    rw [List.drop_zero]; exact List.take_of_length_le (by simp)
  rw [hall]
  rw [if_neg (by simp)]
  have ht1 : h1.IsList t items := (ht.at fun o e => Heap.get?_push_of_some _ e).extBut hs1.extBut hlt
  refine wpAny_bind (wpAny_holding (wpAny_pyNext_list_end hh hit1 ht1 (by simp) fun h2 he2 => ?_))
  simp only [Option.isSome_none, Bool.false_eq_true, if_false]
  refine wpAny_pure (hQ h2 fun b o hb e => he2 b o hb (hs1.extBut b o hb (Heap.get?_push_of_some _ e)))
theorem assign_Tuple_list {s : Shared} {env : Env} {elts : List Expr} {x1} {pos : Pos} {t : Addr} {items : Array Value} {Q : Unit → Shared → Prop} (hh : A.handled = none) (ht : s.heap.IsList t items)
    (hn : (assignEach elts env).length = items.size) (hstar : (assignEach elts env).findIdx? (·.1) = none)
    (h : ∀ h', Heap.ExtBut s.heap.objs.size s.heap h' → wpAny (model prog w) A (assignInOrder ((assignEach elts env).map (·.2)) items.toList) Q E { s with heap := h' }) :
    wpAny (model prog w) A (assign (.Tuple elts x1 pos) env (.ref t)) Q E s := by
  rw [assign_Tuple]
  refine wpAny_bind (wpAny_standAt ?_)
  unfold unpack
  rw [hn, hstar]
  exact wpAny_bind (wpAny_holding (unpackItems_list hh ht h))
end
def gLst (K : PySem.W.Frag) (n : Nat) (t : TGs) : TG := fun v σ H Q => ∃ a xs, v = .ref a ∧ SqL K H a xs ∧ xs.length = n ∧ t xs σ H Q
theorem pg_lst {X : Cx} {pos : Pos} {es : List Expr} {k : Nat} {t : TGs} {n : Nat} (hc : X.calm = true) (h : PGs X es t)
    (hn : (assignEach es X.env).length = n := by rfl) (hst : (assignEach es X.env).findIdx? (·.1) = none := by rfl) : PG X (.Tuple es k pos) (gLst X.K n t) := by
  intro pins s σ H v u Q I r hw
  obtain ⟨a, xs, e1, hq, hl, hw⟩ := hw
  subst e1
  cases r
  obtain ⟨its, rv, ht, hz⟩ := I.list hq
  refine assign_Tuple_list (I.ok.hd hc) ht.isList (by simp [hn, ← hl, rv.length]) hst fun h' hx => ?_
  have I1 : Inv X pins σ H { s with heap := h' } := I.kept (t' := s.toks) fun b o e => hx b o (Nat.ne_of_lt (Heap.lt_size e)) e
  exact h pins _ σ H xs _ Q I1 (by simpa using rv) hw
theorem op_fdivB {X : Cx} : OpR X (binaryOp .FloorDiv) (rI (fun _ j => 0 < j ∧ j < 2 ^ 200) fun i j => .int (i / j)) := opI fun i j _ _ _ _ _ hc q => by
  refine floordiv_int (by omega) ?_ (.inl (PyProof.noPylong_of_log2 ?_))
  · rw [Int.fdiv_eq_ediv_of_nonneg _ (by omega)]
    exact q
  · have h0 : j.natAbs ≠ 0 := by omega
    exact Nat.lt_trans ((Nat.log2_lt h0).mpr (show j.natAbs < 2 ^ 200 by omega)) (by decide)
theorem call_isinst {X : Cx} : CallR X (.builtin "isinstance") (fun xs H Q => ∃ x t T b, xs = [x, .ty T] ∧ TyOf X.K H x t ∧ PySem.W.kitOne X.K t (.type T) = some b ∧ Q (.bl b) H) := by
  intro pins s σ H xs us Q I r h
  obtain ⟨x, t, T, b, rfl, ty, e, q⟩ := h
  obtain ⟨u, v, rfl, ru, rv⟩ := vals2 r
  cases rv
  exact isinst_ok I ru ty e fun tk => ⟨.bl b, H, I.tok _, rfl, q⟩
theorem kit_tt (K : PySem.W.Frag) : PySem.W.kitOne K (.type "tuple") (.type "tuple") = some true := rfl
def plainE : Expr → Bool
  | .Starred _ _ => false
  | _ => true
theorem se_plain {e : Expr} (h : plainE e = true) (rest : List Expr) (env : Env) : starEach (e :: rest) env = (false, eval e env) :: starEach rest env := by
  cases e <;> first | rfl | cases h
theorem se_any (pos : Pos) (env : Env) : ∀ es : List Expr, es.all plainE = true → (backTo pos (starEach es env)).any (·.1) = false
  | [], _ => rfl
  | e :: es, h => by
    rw [List.all_cons, Bool.and_eq_true] at h
    rw [se_plain h.1]
    have ih := se_any pos env es h.2
    show (false || (backTo pos (starEach es env)).any (·.1)) = false
    rw [ih]
    rfl
theorem pa_c {X : Cx} {e : Expr} {es : List Expr} {te : TE} {t : TA} (ha : PE X e te) (hr : PA X es t) (hp : plainE e = true := by rfl) : PA X (e :: es) (tCons te t) := pa_cons ha hr (se_plain hp es X.env)
theorem pe_cB {X : Cx} {x : Str} {p pos : Pos} {e : Expr} {es : List Expr} {t : TA} {id : String} {r : List V → Hp → VK → Prop} (hc : CallR X (.builtin id) r) (hg : Gl X x) (hm : X.mg x = none) (hv : bootBuiltins x = some (.builtin id)) (ha : PA X (e :: es) t) (hp : (e :: es).all plainE = true := by rfl) (hn : x ≠ "__name__" := by decide) (hdb : (x == ("__debug__" : Str)) = false := by decide) :
    PE X (.Call (.Name x p) (e :: es) [] pos) (tCB r t) := by
  rw [List.all_cons, Bool.and_eq_true] at hp
  exact pe_callB hc hg hm hv ha hn hdb (se_plain hp.1 es X.env) (se_any pos X.env es hp.2)
theorem pe_cT {X : Cx} {x : Str} {p pos : Pos} {e : Expr} {es : List Expr} {t : TA} {T : String} {r : List V → Hp → VK → Prop} (hc : CallR X (.type T) r) (hg : Gl X x) (hm : X.mg x = none) (hv : bootBuiltins x = some (.type T)) (ha : PA X (e :: es) t) (hp : (e :: es).all plainE = true := by rfl) (hn : x ≠ "__name__" := by decide) (hdb : (x == ("__debug__" : Str)) = false := by decide) :
    PE X (.Call (.Name x p) (e :: es) [] pos) (tCB r t) := by
  rw [List.all_cons, Bool.and_eq_true] at hp
  exact pe_callTy hc hg hm hv ha hn hdb (se_plain hp.1 es X.env) (se_any pos X.env es hp.2)
structure Fn (P : Program) (w : World) (K : PySem.W.Frag) (mg : Str → Option Value) (base : Heap) (k : Nat) (x : Str) (ps : List Str) (sp : Sp) : Prop where
  ex : ∃ f fd, FnOk P w K mg base CX0 k f fd ps sp ∧ Binds K fd ps [] ∧ PySem.W.keepIn K (.ref f) = true ∧ mg x = some (.ref f)
theorem pe_fn {X : Cx} {k k' : Nat} {x : Str} {ps : List Str} {sp : Sp} {e : Expr} {es : List Expr} {t : TA} {p pos : Pos} (F : Fn X.prog X.w X.K X.mg X.base k x ps sp) (hr : Room k' X.A) (ha : PA X (e :: es) t) (hk : k ≤ k' := by decide) (hg : Gl X x := by rfl)
    (hd : (x == ("__debug__" : Str)) = false := by decide) (hp : (e :: es).all plainE = true := by rfl) : PE X (.Call (.Name x p) (e :: es) [] pos) (tCall sp [] E0 t) := by
  obtain ⟨f, fd, G, b, kp, m⟩ := F.ex
  rw [List.all_cons, Bool.and_eq_true] at hp
  exact pe_call G (hr.mono hk) hg m kp b .nil pass0 ha hd (se_plain hp.1 es X.env) (se_any pos X.env es hp.2)
theorem Fn.mk' {P : Program} {w : World} {K : PySem.W.Frag} {mg : Str → Option Value} {base : Heap} {k : Nat} {x : Str} {ps : List Str} {sp : Sp} {st : Stmt} {f : Addr} {fd : FuncData} (F : Fun K x x st f fd) (b : Binds K fd ps []) (m : mg x = some (.ref f)) (G : FnOk P w K mg base CX0 k f fd ps sp) : Fn P w K mg base k x ps sp := ⟨f, fd, G, b, F.kp, m⟩
theorem comp_ok {X : Cx} {scope : Scope} {fr : List Nat} {sc : Scope} {N : List Str} (h1 : X.env.scope = sc) (h2 : X.N = N) (h : scope.kind = .function ∧ (∀ y ∈ scope.names, y.2 ≠ .cell) ∧ (∀ y ∈ scope.names, y.2 = .local → scope.names.lookup y.1 = some .local) ∧
    (∀ y ∈ scope.names, y.2 = .free → sc.names.lookup y.1 = some .cell ∨ sc.names.lookup y.1 = some .free) ∧ ∀ j ∈ fr, scope.names.lookup (N.getD j (Str.ofString "")) = some .free) : CompOk X scope fr := by
  obtain ⟨a, b, c, d, e⟩ := h
  exact ⟨a, b, c, by rw [h1]; exact d, by rw [h2]; exact e⟩
theorem bt_len : bootBuiltins "len" = some (.builtin "len") := by decide +kernel
theorem bt_isinstance : bootBuiltins "isinstance" = some (.builtin "isinstance") := by decide +kernel
theorem bt_int : bootBuiltins "int" = some (.type "int") := by decide +kernel
theorem bt_tuple : bootBuiltins "tuple" = some (.type "tuple") := by decide +kernel
theorem bt_dict : bootBuiltins "dict" = some (.type "dict") := by decide +kernel
structure Free0 (mg : Str → Option Value) : Prop where
  len_ : mg "len" = none
  max_ : mg "max" = none
  min_ : mg "min" = none
  all_ : mg "all" = none
  isinstance_ : mg "isinstance" = none
  abs_ : mg "abs" = none
  sorted_ : mg "sorted" = none
  int_ : mg "int" = none
  str_ : mg "str" = none
  bool_ : mg "bool" = none
  tuple_ : mg "tuple" = none
  list_ : mg "list" = none
  dict_ : mg "dict" = none
  range_ : mg "range" = none
  set_ : mg "set" = none
theorem ix_listK {X : Cx} {K : PySem.W.Frag} (h : X.K = K := by rfl) : IxR X (rIxL K) := by subst h; exact ix_list
theorem ix_tupK {X : Cx} {K : PySem.W.Frag} (h : X.K = K := by rfl) : IxR X (rIxT K) := by subst h; exact ix_tup
structure QS (X : Cx) (st : Stmt) (t : TS) : Prop where
  h : PS X st t
structure QSs (X : Cx) (st : List Stmt) (t : TS) : Prop where
  h : PSs X st t
theorem qs {X : Cx} {st : Stmt} {t : TS} (h : PS X st t) : QS X st t := ⟨h⟩
theorem qss_cons {X : Cx} {st : Stmt} {rest : List Stmt} {t u : TS} (h1 : QS X st t) (h2 : QSs X rest u) : QSs X (st :: rest) (tSeq t u) := ⟨pss_cons h1.h h2.h⟩
theorem qss_one {X : Cx} {st : Stmt} {t : TS} (h1 : QS X st t) : QSs X [st] t := ⟨pss_one h1.h⟩
end L2
set_option Elab.async false
set_option linter.all false
set_option maxRecDepth 100000
namespace L2
open PySem PySem.Spec PyProof.Rows
end L2
set_option Elab.async false
set_option linter.all false
set_option maxRecDepth 100000
namespace L2
open PySem PySem.Spec PyProof.Rows PySem.W
def OkP (N : Nat) (p : Array Nat) : Prop := p.toList.Perm (List.range N)
theorem OkP.size {N : Nat} {p : Array Nat} (h : OkP N p) : p.size = N := by
  have := h.length_eq
  rw [List.length_range] at this
  simpa using this
section
variable {N : Nat} {f : Nat → Int} {p : Array Nat} {s : Shared}
def gk (f : Nat → Int) (p : Array Nat) (i : Nat) : Int := f (p.getD i 0)
end
end L2
set_option Elab.async false
set_option linter.all false
set_option maxRecDepth 100000
namespace L2
open PySem PySem.Spec PyProof.Rows PySem.W
section
variable {prog : Program} {w : World} {A : Around} {E : Value → Shared → Prop} {s : Shared}
end
end L2
set_option Elab.async false
set_option linter.all false
set_option maxRecDepth 100000
set_option maxHeartbeats 1000000
namespace PySem
open Sem (wp)
namespace F
theorem sub_attr_attr : isSubtype (.type "AttributeError") (.type "AttributeError") = pure true := by rw [isSubtype_type]; kernel_rfl
end F
section
variable {prog : Program} {w : World} {A : Around} {E : Value → Shared → Prop} {h : Heap} {g : Array GenState} {d : Drawn} {t : Nat} {os : OsState} {a : Addr} {its : Array Value} {n : Nat} {sl : Array (Option Value)}
theorem attr_raise {α : Type} {m : Str} {Q : α → Shared → Prop} (hm : m.length ≤ sizeLine) (hh : A.handled = none)
   (hq : ∀ h' t' e, (∀ b u, h.get? b = some u → h'.get? b = some u) → (∃ oe, h'.get? e = some oe ∧ oe.cls = .type "AttributeError") → E (.ref e) ⟨h', g, d, t', os⟩) :
    wpAny (model prog w) A (raiseAttrError (.ref a) (Str.ofString "keys") m : Sem α) Q E ⟨h, g, d, t, os⟩ := by
  unfold raiseAttrError
  refine wpAny_bind (wpAny_mkStr (wpAny_bind ?_) hm)
  unfold newExc newTuple
  refine wpAny_bind (wpAny_newObj_type ?_ (by show 1 ≤ sizeLine; rw [sizeLine_eq]; decide))
  refine wpAny_bind (m := firstArgMember _ _) (wpAny_of_eq (a := Value.none) (by kernel_rfl) ?_)
  refine wpAny_newObj_type ?_ (by size_fits)
  refine wpAny_bind (wpAny_mkText ?_)
  dsimp only
  have hsub : isSubtype (.type "AttributeError") (.type "AttributeError") = pure true := by rw [isSubtype_type]; kernel_rfl
  generalize hf : (#[Value.ref h.objs.size, Value.none, Value.none, Value.none, Value.bool false, Value.none] ++ ownMembersOf (Value.type "AttributeError") [Value.str m t]) = fs
  have e1 : ((h.push { cls := .type "tuple", data := .seq #[Value.str m t] }).push { cls := .type "AttributeError", data := .fields fs }).get? (h.push { cls := .type "tuple", data := .seq #[Value.str m t] }).objs.size = some { cls := .type "AttributeError", data := .fields fs } := Heap.get?_push_size _ rfl
  have old : ∀ b u, h.get? b = some u → ((h.push { cls := .type "tuple", data := .seq #[Value.str m t] }).push { cls := .type "AttributeError", data := .fields fs }).get? b = some u := fun b u q => Heap.get?_push_of_some _ (Heap.get?_push_of_some _ q)
  have oldn : ∀ b u, h.get? b = some u → b ≠ (h.push { cls := .type "tuple", data := .seq #[Value.str m t] }).objs.size := fun b u q => Nat.ne_of_lt (Heap.lt_size (Heap.get?_push_of_some _ q))
  generalize ((h.push { cls := .type "tuple", data := .seq #[Value.str m t] }).push { cls := .type "AttributeError", data := .fields fs }) = h2 at *
  generalize (h.push { cls := .type "tuple", data := .seq #[Value.str m t] }).objs.size = e at *
  refine wpAny_bind ?_
  have hT : (⟨h2, g, d, t + 1 + 1, os⟩ : Shared).TypeIs (.ref e) "AttributeError" := ⟨_, e1, rfl⟩
  unfold noteAttr
  dsimp only
  refine wpAny_bind ?_
  unfold lacksNameAndObj
  dsimp only
  refine wpAny_bind (wpAny_isInstance hT hsub ?_)
  simp only [Bool.not_true, Bool.false_eq_true, if_false]
  refine wpAny_bind (wpAny_load e1 ?_)
  dsimp only
  have e6 : fs[6]? = some unsetMember := by rw [← hf]; rfl
  have e7 : fs[7]? = some unsetMember := by rw [← hf]; rfl
  rw [if_neg (by rw [e6, e7]; decide), if_neg (by rw [e6, e7]; decide)]
  refine wpAny_pure ?_
  rw [if_pos rfl]
  refine wpAny_bind (wpAny_rule (wpAny_bind (wpAny_typeOf hT ?_)))
  dsimp only
  unfold layMembers
  refine wpAny_bind (wpAny_load e1 ?_)
  dsimp only
  refine wpAny_update e1 ?_
  unfold raiseNew
  refine wpAny_bind (wpAny_handled ?_)
  rw [hh]
  refine wpAny_bind (wpAny_pure (wpAny_throw ?_))
  refine hq _ _ e (fun b u q => ?_) ⟨_, Heap.get?_update_self _ e1 rfl, rfl⟩
  rw [Heap.get?_update_ne _ _ _ _ (oldn b u q)]
  exact old b u q
end
end PySem
namespace L2
open PySem PySem.Spec PyProof.Rows PySem.W
theorem entry_upd_loop : entryFor table "dict.update.loop" = some Builtin.«dict.update.loop» := entryFor_of_tree (by kernel_rfl)
theorem plain_upd_loop : plainId "dict.update.loop" = true := by decide +kernel
section
variable {prog : Program} {w : World} {A : Around} {E : Value → Shared → Prop} {R : Result → Shared → Prop}
theorem kv_keys {kvs : List (Key × V)} {vs : List (Key × Value)} (r : KV kvs vs) : vs.map (·.1) = kvs.map (·.1) := by
  unfold KV at r
  induction r with
  | nil => rfl
  | cons h _ ih => rw [List.map_cons, List.map_cons, ih, h.1]
theorem kv_snoc {kvs : List (Key × V)} {vs : List (Key × Value)} {k : Key} {x : V} {v : Value} (r : KV kvs vs) (h : RelV x v) : KV (kvs ++ [(k, x)]) (vs ++ [(k, v)]) := by
  unfold KV at r ⊢
  induction r with
  | nil => exact .cons ⟨rfl, h⟩ .nil
  | cons h' _ ih => exact .cons h' ih
end
end L2
set_option Elab.async false
set_option linter.all false
set_option maxRecDepth 100000
namespace L2
open PySem PySem.Spec PyProof.Rows PySem.W
end L2
set_option Elab.async false
set_option linter.all false
set_option maxRecDepth 100000
namespace L2
open PySem PySem.Spec PyProof.Rows PySem.W
end L2
set_option Elab.async false
set_option linter.all false
set_option maxRecDepth 100000
namespace L2
open PySem PySem.Spec PyProof.Rows PySem.W
section
variable {prog : Program} {w : World} {A : Around} {E : Value → Shared → Prop} {s : Shared}
end
end L2
set_option Elab.async false
set_option linter.all false
set_option maxRecDepth 100000
namespace L2
open PySem PySem.Spec PyProof.Rows PySem.W
section
variable {prog : Program} {w : World} {A : Around} {E : Value → Shared → Prop} {R : Result → Shared → Prop}
end
end L2
namespace PySem
section
variable {prog : Program} {w : World} {A : Around} {E : Value → Shared → Prop} {s : Shared}
end
end PySem
set_option Elab.async false
set_option linter.all false
set_option maxRecDepth 100000
namespace PySem
namespace F
end F
end PySem
namespace L2
open PySem PySem.Spec PyProof.Rows PySem.W
section
variable {prog : Program} {w : World} {A : Around} {E : Value → Shared → Prop} {s : Shared}
end
end L2
set_option Elab.async false
set_option linter.all false
set_option maxRecDepth 100000
namespace L2
open PySem PySem.Spec PyProof.Rows PySem.W
section
variable {prog : Program} {w : World} {A : Around} {E : Value → Shared → Prop} {s : Shared}
end
end L2
set_option Elab.async false
set_option linter.all false
set_option maxRecDepth 100000
namespace L2
open PySem PySem.Spec PySem.Calls PyProof.Rows PySem.W
section
variable {prog : Program} {w : World} {A : Around} {E : Value → Shared → Prop} {s : Shared}
end
theorem Inv.drawn {X : Cx} {pins : List (Addr × Obj)} {σ : St} {H : Hp} {s : Shared} {h' : Heap} {d' : Drawn} (I : Inv X pins σ H s) (k : ∀ b u, s.heap.get? b = some u → h'.get? b = some u) : Inv X pins σ H { s with heap := h', drawn := d' } :=
  I.call (g' := s.gens) (t' := s.toks) (d' := d') (ch := []) (Un.kept k) (I.hok.kept k) I.bare fun _ z => nomatch z
end L2
set_option Elab.async false
set_option linter.all false
set_option maxRecDepth 100000
namespace L2
open PySem PySem.Spec PyProof.Rows PySem.W
end L2
set_option Elab.async false
set_option linter.all false
set_option maxRecDepth 100000
namespace L2
open PySem PySem.Spec PyProof.Rows PySem.W
theorem comp_run2 {X : Cx} {scope : Scope} {own : List Str} {fr : List Nat} {elt tg iter : Expr} {ifs : List Expr} {pos : Pos} {wi : TI} {g : TG} {tt : TT} {te : TE} {use : Option (Value → Sem Unit)} (hc : X.calm = true) (O : CompOk X scope fr) (hi : PI X tg iter wi)
    (hb : ∀ s H ex, PG (blk X scope own fr s H ex) tg g ∧ PTs (blk X scope own fr s H ex) ifs tt ∧ PE (blk X scope own fr s H ex) elt te)
    (hs : ∀ x, foldedSetIterable iter X.env x = pure x) {pins : List (Addr × Obj)} {s : Shared} {σ : St} {H : Hp} {Q : VK} {R : Value → Shared → Prop} (I : Inv X pins σ H s) (h : tComp own fr wi g tt te σ H Q) (hx : ∀ e s', X.xe e s' ↔ False)
    (fin : ∀ (p C : Addr) (H' : Hp) (s' : Shared) (m : Str → Option Value), s'.heap.Ns C m → H' C = none → C ≠ X.env.locals → (∀ x c, X.env.cells.lookup x = some c → c ≠ C) → X.s₀.heap.objs.size ≤ C → (∀ p ∈ X.pn ++ pins, p.1 ≠ C) → Inv X pins σ H' s' → (∀ h', Heap.SameBut C s'.heap h' → Inv X pins σ H' { s' with heap := h' }) → Q (.ref p) H' →
      compPost (model X.prog X.w) X.A X.xe use R (.ref p) C (.ok .next) s') :
    wpAny (model X.prog X.w) X.A (comprehension (.ListComp elt [⟨tg, iter, ifs, 0⟩] scope pos) scope X.env (firstIterPos [⟨tg, iter, ifs, 0⟩] pos) (newList []) false (eval iter X.env) use) R X.xe s := by
  have hsome : ∀ x ∈ scope.names, x.2 = .free → (X.env.cells.lookup x.1).isSome = true := fun x hx' e => by
    obtain ⟨c, hc⟩ := I.ok.has x.1 (O.frees x hx' e)
    rw [hc]; rfl
  have no : ∀ (E : Value → Shared → Prop) (x : Value) (s' : Shared), X.xe x s' → E x s' := fun E x s' z => ((hx x s').mp z).elim
  refine wpAny_comprehension_free (cl := clOf X.env.cells scope.names []) rfl hs (closure_cl hsome) O.kind O.loc ?_
  refine thn (hi pins s σ H _ I h) fun v s1 h1 => thn h1 fun itv s2 h2 => ?_
  obtain ⟨it, fp, tn, J, H2, e, I2, T, st2, f2, q2⟩ := h2
  subst e
  refine wpAny_newObj_type ?_
  have nw : H2 s2.heap.objs.size = none := I2.fresh
  obtain ⟨W, ⟨m0, w0⟩, turn⟩ := q2 _ nw
  generalize hp : s2.heap.objs.size = p at *
  have I3 : Inv X pins σ (upd H2 p (.lst [])) { s2 with heap := s2.heap.push { cls := .type "list", dict := none, data := .seq ([] : List Value).toArray } } := by
    have := I2.lnew (ys := []) (its := []) (t' := s2.toks) .nil (Nat.zero_le _)
    rw [hp] at this
    exact this
  have lt2 : ∀ b ∈ fp, b < s2.heap.objs.size := fun b hb => by
    obtain ⟨o, ho, _⟩ := T.obj _ _ st2 b hb
    exact Heap.lt_size ho
  have fpn : ∀ b ∈ fp, (upd H2 p (.lst [])) b = none := fun b hb => by
    rw [upd_ne (by rw [← hp]; exact Nat.ne_of_lt (lt2 b hb))]
    exact (f2 b hb).1
  generalize hs3 : ({ s2 with heap := s2.heap.push { cls := .type "list", dict := none, data := .seq ([] : List Value).toArray } } : Shared) = s3 at *
  have sz3 : s3.heap.objs.size = p + 1 := by
    rw [← hs3]
    show (s2.heap.push _).objs.size = _
    rw [Heap.size_push, hp]
  have st3 : tn 0 s3.heap := T.keep 0 _ _ st2 fun b hb o e => by
    rw [← hs3]
    exact Heap.get?_push_of_some _ e
  refine wpAny_newFunctionEnv O.nocell (by intro y hy; simp at hy) (fun h4 hns4 hsb4 => ?_) O.kind
  have k4 : ∀ b o, s3.heap.get? b = some o → h4.get? b = some o := fun b o e => hsb4.extBut b o (Nat.ne_of_lt (Heap.lt_size e)) (Heap.get?_push_of_some _ e)
  have hns4' : h4.Ns s3.heap.objs.size fun _ => none := by
    have z : (fun x : Str => ([] : List (Str × Value)).reverse.lookup x) = fun _ => none := by funext x; rfl
    rw [z] at hns4
    exact hns4
  have fo : ∀ b ∈ fp, FpOk X pins (upd H2 p (.lst [])) b ∧ b < s3.heap.objs.size := fun b hb => ⟨⟨fpn b hb, (f2 b hb).2⟩, by rw [sz3, ← hp]; exact Nat.lt_succ_of_lt (lt2 b hb)⟩
  have I4 := inv_blk (own := own) (fr := fr) (t1 := s3.toks + ([] : List (Str × Value)).length) I3 O fo hns4' k4
  have st4 : tn 0 h4 := T.keep 0 _ _ st3 fun b hb o e => k4 b o e
  obtain ⟨hg, ht, he⟩ := hb s3 (upd H2 p (.lst [])) fp
  have stat : ∀ {H' : Hp} {pn : List (Addr × Obj)} {s' : Shared} {σ' : St}, Inv (blk X scope own fr s3 (upd H2 p (.lst [])) fp) [] σ' H' s' → (∀ b ∈ fp, H' b = none) → ∀ b ∈ fp, FpOk (blk X scope own fr s3 (upd H2 p (.lst [])) fp) [] H' b := fun {H' pn s' σ'} J hn b hb' =>
    ⟨hn b hb', (J.ok.exf b hb').1, J.ok.exfs b hb', .inl hb', (J.ok.exf b hb').2, fun p hp => absurd hp (by simp [blk])⟩
  have nocells : ∀ x c, X.env.cells.lookup x = some c → c ≠ s3.heap.objs.size := fun x c e => by
    obtain ⟨v, q⟩ := I3.cell x c e
    exact Nat.ne_of_lt q.lt
  have loop : ∀ s5 : Shared, s5 = { s3 with heap := h4, toks := s3.toks + ([] : List (Str × Value)).length } →
      codeAny (model X.prog X.w) X.A (.compLoop (.ListComp elt [⟨tg, iter, ifs, 0⟩] scope pos) 0 (.ref it) (.ref p) (blk X scope own fr s3 (upd H2 p (.lst [])) fp).env) (compPost (model X.prog X.w) X.A X.xe use R (.ref p) s3.heap.objs.size) s5 := by
    rintro s5 rfl
    refine compLoop_gen (fun n s' => ∃ i σ' H', Inv (blk X scope own fr s3 (upd H2 p (.lst [])) fp) [] σ' H' s' ∧ tn i s'.heap ∧ (∀ b ∈ fp, H' b = none) ∧ W i n σ' H') ?_ m0 ⟨0, _, _, I4, st4, fpn, w0⟩
    rintro n s6 ⟨i, σ6, H6, I6, st6, fr6, w6⟩
    rcases turn i n σ6 H6 w6 with ⟨stop, qn⟩ | ⟨go, N, hN, step⟩
    · refine thn (T.done (blk X scope own fr s3 (upd H2 p (.lst [])) fp) rfl rfl rfl hc i [] s6 σ6 H6 _ I6 (stat (pn := []) I6 fr6) st6 stop) fun r s7 ⟨hr, I7⟩ => ?_
      subst hr
      obtain ⟨m, hm, _⟩ := I7.loc
      exact fin p _ H6 s7 m hm I7.free (Nat.ne_of_gt I3.lt) nocells I3.sz (fun p hp => Nat.ne_of_lt (Heap.lt_size (I3.pin p hp).1)) (blk_back I3 fo I7 (Heap.SameBut.refl ..)) (fun h' hs' => blk_back I3 fo I7 hs') qn
    · refine thn (T.item (blk X scope own fr s3 (upd H2 p (.lst [])) fp) rfl rfl rfl hc i [] s6 σ6 H6 _ I6 (stat (pn := []) I6 fr6) st6 go) fun r s7 ⟨u, hr, h7⟩ => ?_
      subst hr
      refine thn h7 fun _ s8 ⟨x, H8, I8, r8, y8, st8, fr8⟩ => ?_
      have I8' := I8.pinned (stat (pn := []) I8 fr8) (T.obj _ _ st8)
      refine thn (hg _ s8 σ6 H8 x u _ I8' r8 (step x H8 y8)) fun _ s9 ⟨σ9, H9, I9, q9⟩ => ?_
      refine thn (ht _ s9 σ9 H9 _ I9 q9) fun ok s10 ⟨H10, I10, q10⟩ => ?_
      have again : ∀ {H11 : Hp} {s11 : Shared}, Inv (blk X scope own fr s3 (upd H2 p (.lst [])) fp) ([] ++ pinsAt fp s8.heap) σ9 H11 s11 → (∃ m', m' < n ∧ W (i + 1) m' σ9 H11) →
          ∃ m, m < n ∧ ∃ i σ' H', Inv (blk X scope own fr s3 (upd H2 p (.lst [])) fp) [] σ' H' s11 ∧ tn i s11.heap ∧ (∀ b ∈ fp, H' b = none) ∧ W i m σ' H' := fun {H11 s11} I11 ⟨m', hm, w11⟩ => by
        refine ⟨m', hm, i + 1, σ9, H11, I11.unpinned, T.keep _ _ _ st8 fun b hb' o e => (I11.pin (b, o) (List.mem_append_right _ (List.mem_append_right _ (mem_pinsAt hb' e)))).1, fun b hb' => ?_, w11⟩
        obtain ⟨o, e, d⟩ := T.obj _ _ st8 b hb'
        exact (I11.pin (b, o) (List.mem_append_right _ (List.mem_append_right _ (mem_pinsAt hb' e)))).2.1
      cases ok with
      | false =>
        rw [if_neg Bool.false_ne_true] at q10 ⊢
        exact again I10 (hN _ _ q10)
      | true =>
        rw [if_pos rfl] at q10 ⊢
        refine thn (he _ s10 σ9 H10 _ I10 q10) fun yv s11 ⟨y, H11, I11, r11, ys, hys, hlen, q11⟩ => ?_
        have ap := mt_append (X := blk X scope own fr s3 (upd H2 p (.lst [])) fp) ([] ++ pinsAt fp s8.heap) s11 σ9 H11 (.ref p) [y] (.ref p) [yv] (fun _ H12 => ∃ m', m' < n ∧ W (i + 1) m' σ9 H12) I11 rfl (.cons r11 .nil) ⟨p, ys, y, rfl, rfl, hys, hlen, hN _ _ q11⟩
        exact thn ap fun _ s12 ⟨_, H12, I12, _, q12⟩ => again I12 q12
  refine codeAny_compStart_list (loop _ rfl) (T.self X.A 0 _ _ _ st4 (loop _ rfl))
theorem ps_setcomp {X : Cx} {scope : Scope} {elt tg iter : Expr} {ifs : List Expr} {pos : Pos} {wi : TI} {g : TG} {tt : TT} {te : TE} {i : Nat} {y : Str} {py spos : Pos} (hN : X.N.Nodup) (hi' : X.N[i]? = some y) (hy : Loc X.env.scope y) (own : List Str) (fr : List Nat) (hc : X.calm = true) (O : CompOk X scope fr) (hi : PI X.nox tg iter wi)
    (hb : ∀ s H ex, PG (blk X.nox scope own fr s H ex) tg g ∧ PTs (blk X.nox scope own fr s H ex) ifs tt ∧ PE (blk X.nox scope own fr s H ex) elt te)
    (hs : ∀ x, foldedSetIterable iter X.env x = pure x := by intro _; rfl)
    (hsw : swapsWith (.ListComp elt [⟨tg, iter, ifs, 0⟩] scope pos) (some (.Name y py)) spos.line X.env = pure true := by rfl)
    (hf : X.fn y = true ∨ X.env.scope.names.lookup y = some .local := by first | exact .inl rfl | exact .inr rfl | assumption) :
    PS X.nox (.Assign [.Name y py] (.ListComp elt [⟨tg, iter, ifs, 0⟩] scope pos) spos) (tAsg (tComp own fr wi g tt te) (gName i)) := by
  intro pins s σ H D I h
  rw [exec_Assign_Name_used _ _ _ _ hsw]
  refine wpAny_bind (wpAny_standAt (wpAny_bind ?_))
  show wpAny _ _ (do let _ ← comprehension (.ListComp elt [⟨tg, iter, ifs, 0⟩] scope pos) scope X.nox.env _ (newList []) false (eval iter X.nox.env) (some (assign (.Name y py) X.nox.env))) _ _ s
  refine wpAny_bind (wpAny_mono (comp_run2 (X := X.nox) (use := some (assign (.Name y py) X.nox.env)) (R := fun _ s' => SP X.nox pins D .next s') hc ⟨O.kind, O.nocell, O.loc, O.frees, O.fr⟩ hi hb hs I h (fun _ _ => Iff.rfl)
    fun p C H' s' m hm hC hL hcs hz hpn I' back q => ?_) (fun _ s' hq => wpAny_pure (wpAny_pure hq)) fun _ _ e => e)
  show wpAny _ _ (assign (.Name y py) X.nox.env (.ref p)) _ _ _
  refine wpAny_assign_Name (store_ok2 (v := .ref p) I' hN hi' hy rfl (fun s2 I2 hsb => ?_) hf)
  obtain ⟨a, hsa, ha⟩ := hsb
  have hCa : C ≠ a := by
    rcases ha with rfl | e
    · exact hL
    · exact fun z => hcs _ _ e z.symm
  refine ⟨m, hm.sameBut hsa hCa, fun h' hs' => ?_⟩
  exact ⟨_, H', I2.turned (t' := s2.toks) (fun b o hb e => (hs'.2 b hb).trans e) hC hL (.inr hz) hcs hpn, q⟩
end L2
set_option Elab.async false
set_option linter.all false
set_option maxRecDepth 100000
namespace L2
open PySem PySem.Spec PyProof.Rows
section
variable {X : Cx} {pins : List (Addr × Obj)} {σ : St} {H : Hp} {s : Shared} {tg : Expr}
theorem Inv.relabel {a : Addr} {u v : HO} (I : Inv X pins σ H s) (hu : H a = some u) (h1 : ∀ xs, u ≠ .tup xs) (h2 : ∀ ps, u ≠ .tbl ps) (h3 : ∀ o z, X.H₀ a ≠ some (.frz o z)) (h4 : ∀ x, u ≠ .own x) (hv : ObjOk X.prog X.w (upd H a v) s.heap a v) : Inv X pins σ (upd H a v) s := by
  have ne : ∀ b, H b = none → b ≠ a := fun b n z => by rw [z, hu] at n; cases n
  have nt : ∀ b xs, H b = some (.tup xs) → b ≠ a := fun b xs n z => by rw [z, hu] at n; exact h1 xs (Option.some.inj n)
  have no : ∀ b x, H b = some (.own x) → b ≠ a := fun b x n z => by rw [z, hu] at n; exact h4 x (Option.some.inj n)
  refine ⟨I.ok, I.os, I.bare, ⟨I.base.keep, I.base.slot, fun b o e n hx => ?_, I.base.there, fun b xs e => ?_, fun b o z e => ?_, fun b ps e => ?_⟩, I.loc, I.cell, ?_, fun x c e => ?_, fun p hp => ?_, fun b o e => ?_, I.len⟩
  · have q := I.base.free b o e n hx
    rw [upd_ne (ne b q)]; exact q
  · have q := I.base.tups b xs e
    rw [upd_ne (nt b xs q)]; exact q
  · have hb : b ≠ a := fun z' => by subst z'; exact h3 _ _ e
    rw [upd_ne hb]
    exact I.base.frzs b o z e
  · obtain ⟨m, q⟩ := I.base.tbls b ps e
    have hb : b ≠ a := fun z' => by rw [z', hu] at q; exact h2 _ (Option.some.inj q)
    exact ⟨m, by rw [upd_ne hb]; exact q⟩
  · rw [upd_ne (ne _ I.free)]; exact I.free
  · rw [upd_ne (ne _ (I.freeC x c e))]; exact I.freeC x c e
  · obtain ⟨q1, q2, q3⟩ := I.pin p hp
    exact ⟨q1, by rw [upd_ne (ne _ q2)]; exact q2, q3⟩
  · by_cases hb : b = a
    · subst hb
      rw [upd_same] at e
      cases e
      exact hv
    · rw [upd_ne hb] at e
      exact (I.hok b o e).stay (fun _ _ _ q => q) (fun c q => by rw [upd_ne (no c _ q)]; exact q) fun c xs q => by rw [upd_ne (nt c xs q)]; exact q
end
end L2
set_option Elab.async false
set_option linter.all false
set_option maxRecDepth 100000
namespace L2
open PySem PySem.Spec PyProof.Rows
theorem bt_enumerate : bootBuiltins "enumerate" = some (.type "enumerate") := by decide +kernel
section
variable {X : Cx} {elts : List Expr} {x1 : Nat} {tp : Pos}
end
end L2
set_option Elab.async false
set_option linter.all false
set_option maxRecDepth 100000
namespace PySem
open AutoSeq1 (wpAny_loadPart')
section
variable {prog : Program} {w : World} {A : Around} {E : Value → Shared → Prop} {s : Shared}
theorem tup_next {it t : Addr} {i : Nat} {items} {x : Value} {Q : Value → Shared → Prop} (hit : s.heap.IsTupleIter it t i) (ht : s.heap.IsTuple t items) (hx : items[i]? = some x)
    (hQ : ∀ h', h'.IsTupleIter it t (i + 1) → Heap.SameBut it s.heap h' → Q x { s with heap := h' }) : wpAny (model prog w) A (Builtin.SmallTypes.nextOf (.ref it)) Q E s := by
  obtain ⟨o, ho, hc, hd⟩ := id hit
  obtain ⟨ol, hol, _, nl, hdl⟩ := ht
  unfold Builtin.SmallTypes.nextOf
  refine wpAny_bind (wpAny_callSpecial?_slot (name := Str.ofString "__next__") hit.typeIs F.slot_tuple_iterator_next (wpAny_call_entry F.slot_tuple_iterator_next hit.typeIs F.entry_tuple_iterator_next ?_ (F.args_tuple_iterator_next_1 _)))
  show wpAny _ _ (field (.ref it) 0 >>= _) _ _ s
  refine wpAny_bind (wpAny_field ho hd (x := .ref t) rfl ?_)
  show wpAny _ _ (if (Value.ref t == Value.none) = true then _ else _) _ _ s
  rw [if_neg (show ¬ ((Value.ref t == Value.none) = true) from Bool.false_ne_true)]
  show wpAny _ _ (field (.ref it) 1 >>= _) _ _ s
  refine wpAny_bind (wpAny_field ho hd (x := .int i 0) rfl ?_)
  show wpAny _ _ (seqItems? (.ref t) >>= _) _ _ s
  refine wpAny_bind (wpAny_seqItems hol hdl ?_)
  simp only [Int.toNat_natCast, hx]
  refine wpAny_bind (wpAny_setField ho hd (by simp) (wpAny_pure ⟨x, rfl, wpAny_pure (hQ _ ?_ (Heap.SameBut.update ..))⟩))
  exact ⟨_, Heap.get?_update_self _ ho (Obj.isFreed_of_fields (Obj.data_mapFields hd _)), (Obj.cls_mapFields ..).trans hc, by rw [Obj.data_mapFields hd]; simp [rawInt]⟩
theorem tup_next_end {it t : Addr} {i : Nat} {items} {Q : Value → Shared → Prop} (hh : A.handled = none) (hit : s.heap.IsTupleIter it t i) (ht : s.heap.IsTuple t items) (hx : items[i]? = none)
    (hE : ∀ h' e, Heap.ExtBut it s.heap h' → (∃ o, h'.get? e = some o ∧ o.cls = .type "StopIteration") → E (.ref e) { s with heap := h' }) : wpAny (model prog w) A (Builtin.SmallTypes.nextOf (.ref it)) Q E s := by
  obtain ⟨o, ho, hc, hd⟩ := id hit
  obtain ⟨ol, hol, _, nl, hdl⟩ := ht
  unfold Builtin.SmallTypes.nextOf
  refine wpAny_bind (wpAny_callSpecial?_slot (name := Str.ofString "__next__") hit.typeIs F.slot_tuple_iterator_next (wpAny_call_entry F.slot_tuple_iterator_next hit.typeIs F.entry_tuple_iterator_next ?_ (F.args_tuple_iterator_next_1 _)))
  show wpAny _ _ (field (.ref it) 0 >>= _) _ _ s
  refine wpAny_bind (wpAny_field ho hd (x := .ref t) rfl ?_)
  show wpAny _ _ (if (Value.ref t == Value.none) = true then _ else _) _ _ s
  rw [if_neg (show ¬ ((Value.ref t == Value.none) = true) from Bool.false_ne_true)]
  show wpAny _ _ (field (.ref it) 1 >>= _) _ _ s
  refine wpAny_bind (wpAny_field ho hd (x := .int i 0) rfl ?_)
  show wpAny _ _ (seqItems? (.ref t) >>= _) _ _ s
  refine wpAny_bind (wpAny_seqItems hol hdl ?_)
  simp only [Int.toNat_natCast, hx]
  refine wpAny_bind (wpAny_rule (wpAny_bind (wpAny_setField ho hd (by simp) ?_)))
  show wpAny _ _ (newExc (.type "StopIteration") [] >>= _) _ _ _
  refine wpAny_bind ?_
  simp only [newExc, newTuple]
  refine wpAny_bind (wpAny_newObj_type ?_ (by size_fits))
  refine wpAny_bind (m := firstArgMember _ _) (wpAny_of_eq (a := Value.none) (by first | rfl | (simp only [firstArgMember]; rfl)) ?_)
  refine wpAny_newObj_type ?_ (by size_fits)
  simp only [raiseNew]
  refine wpAny_bind (wpAny_handled ?_)
  first | rw [show A.in1.handled = none from hh] | rw [hh]
  refine wpAny_bind (wpAny_pure (wpAny_throw ?_))
  exact hE _ _ (((Heap.SameBut.update ..).extBut.push _).push _) ⟨_, Heap.get?_push_size _ rfl, rfl⟩
theorem enum_next {e it : Addr} {i : Nat} {x old : Value} {Q : Value → Shared → Prop} {St : Heap → Prop} (he : IsEnum s.heap e it i old) (hne : e ≠ it)
    (hin : ∀ Q' : Value → Shared → Prop, (∀ h', St h' → Heap.SameBut it s.heap h' → Q' x { s with heap := h' }) → wpAny (model prog w) A (Builtin.SmallTypes.nextOf (.ref it)) Q' E s)
    (keep : ∀ h h', St h → (∀ o, h.get? it = some o → h'.get? it = some o) → St h')
    (hQ : ∀ h', IsEnumOut h' e it ((i : Int) + 1) x s.heap.objs.size → St h' → h'.get? s.heap.objs.size = some { cls := .type "tuple", data := .seq #[.int i s.toks, x] } → h'.objs.size = s.heap.objs.size + 1 →
      (∀ b o, b ≠ e → b ≠ it → s.heap.get? b = some o → h'.get? b = some o) → Q (.ref s.heap.objs.size) { s with heap := h', toks := s.toks + 1 }) :
    wpAny (model prog w) A (Builtin.«enumerate.__next__» ⟨[.ref e], []⟩) (fun fin s' => ∃ v, fin = .done (.ret v) ∧ Q v s') E s := by
  obtain ⟨hp, g, d, tk, os⟩ := s
  show wpAny _ _ (field (.ref e) 2 >>= _) _ _ _
  refine wpAny_bind (wpAny_field he rfl (x := .ref it) rfl ?_)
  refine wpAny_bind (hin _ fun h1 st1 b1 => ?_)
  replace b1 : Heap.SameBut it hp h1 := b1
  have e1 : IsEnum h1 e it i old := (b1.2 e hne).trans he
  show wpAny _ _ (field (.ref e) 3 >>= _) _ _ ⟨h1, g, d, tk, os⟩
  refine wpAny_bind (wpAny_field e1 rfl (x := rawInt i) rfl ?_)
  show wpAny _ _ (field (.ref e) 4 >>= _) _ _ ⟨h1, g, d, tk, os⟩
  refine wpAny_bind (wpAny_field e1 rfl (x := .none) rfl ?_)
  show wpAny _ _ (mkInt i >>= _) _ _ ⟨h1, g, d, tk, os⟩
  refine wpAny_bind (wpAny_mkInt ?_)
  show wpAny _ _ (setField (.ref e) 3 (rawInt ((i : Int) + 1)) >>= _) _ _ ⟨h1, g, d, tk + 1, os⟩
  refine wpAny_bind (wpAny_setField_rec e1 (by simp) fun h2 e2 b2 => ?_)
  replace b2 : Heap.SameBut e h1 h2 := b2
  replace e2 : IsEnum h2 e it ((i : Int) + 1) old := e2
  show wpAny _ _ (setField (.ref e) 4 .none >>= _) _ _ ⟨h2, g, d, tk + 1, os⟩
  refine wpAny_bind (wpAny_setField_rec e2 (by simp) fun h3 e3 b3 => ?_)
  replace b3 : Heap.SameBut e h2 h3 := b3
  replace e3 : IsEnum h3 e it ((i : Int) + 1) old := e3
  show wpAny _ _ (newTuple [.int i tk, x] >>= _) _ _ ⟨h3, g, d, tk + 1, os⟩
  refine wpAny_bind (wpAny_newTuple ?_)
  have hsz : h3.objs.size = hp.objs.size := by rw [b3.1, b2.1, b1.1]
  have st3 : St h3 := keep h1 h3 st1 fun o q => (b3.2 it (Ne.symm hne)).trans ((b2.2 it (Ne.symm hne)).trans q)
  have e4 : IsEnum (h3.push { cls := .type "tuple", data := .seq #[.int i tk, x] }) e it ((i : Int) + 1) old := Heap.get?_push_of_some _ e3
  have st4 : St (h3.push { cls := .type "tuple", data := .seq #[.int i tk, x] }) := keep h3 _ st3 fun o q => Heap.get?_push_of_some _ q
  have t4 : (h3.push { cls := .type "tuple", data := .seq #[.int i tk, x] }).get? hp.objs.size = some { cls := .type "tuple", data := .seq #[.int i tk, x] } := by rw [← hsz]; exact Heap.get?_push_size _ rfl
  have z4 : (h3.push { cls := .type "tuple", data := .seq #[.int i tk, x] }).objs.size = hp.objs.size + 1 := by rw [Heap.size_push, hsz]
  have k4 : ∀ b o, b ≠ e → b ≠ it → hp.get? b = some o → (h3.push { cls := .type "tuple", data := .seq #[.int i tk, x] }).get? b = some o := fun b o hbe hbi hb =>
    Heap.get?_push_of_some _ (b3.extBut b o hbe (b2.extBut b o hbe (b1.extBut b o hbi hb)))
  have hel : e < hp.objs.size := Heap.lt_size he
  rw [hsz]
  generalize h3.push { cls := .type "tuple", data := .seq #[.int i tk, x] } = h4 at *
  clear e3 b3 e2 b2 e1 b1 st1 st3 hsz
  show wpAny _ _ (Builtin.SmallTypes.ownedTupleIsFree (.ref e) >>= _) _ _ ⟨h4, g, d, tk + 1, os⟩
  refine wpAny_bind ?_
  unfold Builtin.SmallTypes.ownedTupleIsFree
  refine wpAny_bind (wpAny_field e4 rfl (x := .none) rfl (wpAny_pure ?_))
  simp only [if_true]
  refine wpAny_bind (wpAny_rule ?_)
  refine wpAny_bind (wpAny_field e4 rfl (x := old) rfl ?_)
  refine wpAny_bind (wpAny_setField_rec e4 (by simp) fun h5 e5 b5 => ?_)
  replace b5 : Heap.SameBut e h4 h5 := b5
  replace e5 : IsEnum h5 e it ((i : Int) + 1) x := e5
  show wpAny _ _ (Builtin.SmallTypes.ownedTupleHandOut (.ref e) (.ref hp.objs.size) >>= _) _ _ ⟨h5, g, d, tk + 1, os⟩
  refine wpAny_bind ?_
  unfold Builtin.SmallTypes.ownedTupleHandOut
  refine wpAny_bind (wpAny_setField_rec e5 (by simp) fun h6 e6 b6 => ?_)
  replace b6 : Heap.SameBut e h5 h6 := b6
  replace e6 : IsEnumOut h6 e it ((i : Int) + 1) x hp.objs.size := e6
  refine wpAny_setField_rec e6 (by simp) fun h7 e7 b7 => ?_
  replace b7 : Heap.SameBut e h6 h7 := b7
  replace e7 : IsEnumOut h7 e it ((i : Int) + 1) x hp.objs.size := e7
  have k7 : ∀ b o, b ≠ e → h4.get? b = some o → h7.get? b = some o := fun b o hb q => b7.extBut b o hb (b6.extBut b o hb (b5.extBut b o hb q))
  refine wpAny_bind (wpAny_letGo (wpAny_pure ⟨_, rfl, hQ h7 e7 (keep h4 h7 st4 fun o q => k7 it o (Ne.symm hne) q) (k7 _ _ (Nat.ne_of_gt hel) t4) (by rw [b7.1, b6.1, b5.1, z4]) fun b o hbe hbi hb => k7 b o hbe (k4 b o hbe hbi hb)⟩))
theorem enum_pyNext {e it t : Addr} {i : Nat} {items : Array Value} {x old : Value} {Q : Option Value → Shared → Prop}
    (he : IsEnum s.heap e it i old) (hit : s.heap.IsTupleIter it t i) (ht : s.heap.IsTuple t items) (hx : items[i]? = some x) (hne : e ≠ it)
    (hQ : ∀ h', IsEnumOut h' e it ((i : Int) + 1) x s.heap.objs.size → h'.IsTupleIter it t (i + 1) → h'.get? s.heap.objs.size = some { cls := .type "tuple", data := .seq #[.int i s.toks, x] } → h'.objs.size = s.heap.objs.size + 1 →
      (∀ b o, b ≠ e → b ≠ it → s.heap.get? b = some o → h'.get? b = some o) → Q (some (.ref s.heap.objs.size)) { s with heap := h', toks := s.toks + 1 }) : wpAny (model prog w) A (pyNext (.ref e)) Q E s := by
  have hT : s.TypeIs (.ref e) "enumerate" := ⟨_, he, rfl⟩
  unfold pyNext
  refine wpAny_bind (wpAny_attempt (wpAny_callSpecial?_slot (name := Str.ofString "__next__") hT F.slot_enumerate_next (wpAny_call_entry F.slot_enumerate_next hT F.entry_enumerate_next ?_ (F.args_enumerate_next_1 _))))
  exact enum_next (St := fun h => h.IsTupleIter it t (i + 1)) he hne (fun Q' k => tup_next hit ht hx k) (fun h h' st k => st.at k) fun h' a b c d k => wpAny_pure (hQ h' a b c d k)
theorem enum_pyNext_end {e it t : Addr} {i : Nat} {items : Array Value} {old : Value} {Q : Option Value → Shared → Prop} (hh : A.handled = none)
    (he : IsEnum s.heap e it i old) (hit : s.heap.IsTupleIter it t i) (ht : s.heap.IsTuple t items) (hx : items[i]? = none)
    (hQ : ∀ h', Heap.ExtBut it s.heap h' → Q none { s with heap := h' }) : wpAny (model prog w) A (pyNext (.ref e)) Q E s := by
  have hT : s.TypeIs (.ref e) "enumerate" := ⟨_, he, rfl⟩
  unfold pyNext
  refine wpAny_bind (wpAny_attempt (wpAny_callSpecial?_slot (name := Str.ofString "__next__") hT F.slot_enumerate_next (wpAny_call_entry F.slot_enumerate_next hT F.entry_enumerate_next ?_ (F.args_enumerate_next_1 _))))
  show wpAny _ _ (field (.ref e) 2 >>= _) _ _ _
  refine wpAny_bind (wpAny_field he rfl (x := .ref it) rfl ?_)
  refine wpAny_bind (tup_next_end hh hit ht hx fun h' x he' hx' => ?_)
  obtain ⟨o, ho, hc⟩ := hx'
  refine wpAny_bind (wpAny_isInstance (T := "StopIteration") (b := true) ⟨o, ho, hc⟩ isSubtype_stop ?_)
  exact wpAny_pure (hQ _ he')
theorem enum_new (l : Addr) (items : Array Value) (n : Nat) (dct : Option Addr) (sl : Array (Option Value)) :
    Meets (Builtin.«enumerate.__new__» ⟨[.type "enumerate", .ref l], []⟩) (fun _ R s => s.heap.get? l = some { cls := .type "tuple", dict := dct, data := .seq items n, slots := sl } ∧
      R (.ok (.ret (.ref (s.heap.push { cls := .type "tuple_iterator", data := .fields #[.ref l, .int 0 0] }).objs.size)))
        { s with heap := (s.heap.push { cls := .type "tuple_iterator", data := .fields #[.ref l, .int 0 0] }).push { cls := .type "enumerate", data := .fields #[.none, .bool false, .ref s.heap.objs.size, rawInt 0, .none, .none] } }) :=
  .of_wp fun prog w A R s h => by
    obtain ⟨hp, g, d, tk, os⟩ := s; obtain ⟨hl, h⟩ := h
    have hsub := sub_enumerate
    have hL : Heap.IsTuple (Shared.heap ⟨hp, g, d, tk, os⟩) l items := ⟨_, hl, rfl, n, rfl⟩
    wp_walk using wpAny_loadPart' hl
    refine wpAny_stack_any fun st => wpAny_pure ?_
    split
    · rename_i c _ _ _ _ _
      cases (c == Value.type "enumerate")
      · wp_walk using wpAny_loadPart' hl, wpAny_pyIter_tuple hL
        exact ⟨_, rfl, h⟩
      · wp_walk using wpAny_loadPart' hl, wpAny_pyIter_tuple hL
        exact ⟨_, rfl, h⟩
    · wp_walk using wpAny_loadPart' hl, wpAny_pyIter_tuple hL
      exact ⟨_, rfl, h⟩
theorem call_enumT {l : Addr} {items : Array Value} {Q : Value → Shared → Prop} (hL : s.heap.IsTuple l items)
    (h : ∀ h', IsEnum h' (s.heap.objs.size + 1) s.heap.objs.size 0 .none → h'.IsTupleIter s.heap.objs.size l 0 → h'.objs.size = s.heap.objs.size + 2 →
      (∀ b o, s.heap.get? b = some o → h'.get? b = some o) → Q (.ref (s.heap.objs.size + 1)) { s with heap := h' }) :
    wpAny (model prog w) A (call (.type "enumerate") [.ref l]) Q E s := by
  obtain ⟨⟨c, dct, dt, sl⟩, hl, hc, n, hd⟩ := hL
  replace hc : c = .type "tuple" := hc
  replace hd : dt = .seq items n := hd
  subst hc hd
  refine callType_new F.called_enumerate (by decide) (F.typeCall_enumerate_1 _) (F.newCall_enumerate_1 _) (fun obj => F.args_object_init_2 obj _) F.entry_enumerate_new (enum_new l items n dct sl) ⟨hl, ?_⟩
  have hz : (s.heap.push { cls := .type "tuple_iterator", data := .fields #[.ref l, .int 0 0] }).objs.size = s.heap.objs.size + 1 := Heap.size_push ..
  show _ ∧ _
  rw [hz]
  have he : IsEnum ((s.heap.push { cls := .type "tuple_iterator", data := .fields #[.ref l, .int 0 0] }).push { cls := .type "enumerate", data := .fields #[.none, .bool false, .ref s.heap.objs.size, rawInt 0, .none, .none] }) (s.heap.objs.size + 1) s.heap.objs.size 0 .none := by
    have := Heap.get?_push_size (s.heap.push { cls := .type "tuple_iterator", data := .fields #[.ref l, .int 0 0] }) (o := { cls := .type "enumerate", data := .fields #[.none, .bool false, .ref s.heap.objs.size, rawInt 0, .none, .none] }) rfl
    rw [hz] at this; exact this
  exact ⟨⟨_, he, rfl⟩, h _ he ⟨_, Heap.get?_push_of_some _ (Heap.get?_push_size _ rfl), rfl, rfl⟩ (by rw [Heap.size_push, hz]) fun b o x => Heap.get?_push_of_some _ (Heap.get?_push_of_some _ x)⟩
end
end PySem
namespace L2
open PySem PySem.Spec PyProof.Rows
def IteT (K : PySem.W.Frag) (l : Addr) : It :=
  ⟨fun i H => ∃ xs x, SqT K H l xs ∧ xs[i]? = some x, fun i H x H' => ∃ t y, H t = none ∧ (∀ xs, SqT K H l xs → xs[i]? = some y) ∧ x = .ref t ∧ H' = upd H t (.tup [.int i, y]), fun i H => ∃ xs, SqT K H l xs ∧ xs.length ≤ i⟩
theorem turn_enumT {P : Program} {w : World} {K : PySem.W.Frag} {elts : List Expr} {x1 : Nat} {tp : Pos} (l e it : Addr) (hne : e ≠ it) : Turn P w K (.Tuple elts x1 tp) (IteT K l) [e, it] e (fun i h => (∃ old, IsEnum h e it i old) ∧ h.IsTupleIter it l i) where
  mem := by simp
  obj := fun i h st b hb => by
    obtain ⟨⟨old, h1⟩, o, e2, c, d⟩ := st
    rcases List.mem_cons.mp hb with rfl | hb
    · exact ⟨_, h1, fun v z => by cases z⟩
    · rw [List.mem_singleton.mp hb]
      exact ⟨o, e2, fun v z => by rw [d] at z; cases z⟩
  keep := fun i h h' st k => by
    obtain ⟨⟨old, h1⟩, o, e2, c, d⟩ := st
    exact ⟨⟨old, k e (by simp) _ h1⟩, o, k it (by simp) o e2, c, d⟩
  item := by
    intro X hP hw hK hc i pins s σ H E I hf st hg
    subst hP hw hK
    obtain ⟨xs, x, hq, hx⟩ := hg
    obtain ⟨⟨old, hE⟩, hit⟩ := st
    obtain ⟨its, rv, p, hz⟩ := I.tuple hq
    obtain ⟨u, hu, ru⟩ := rv.get hx
    obtain ⟨a0, a1, a2, a3, a4, a5⟩ := hf e (by simp)
    obtain ⟨f0, f1, f2, f3, f4, f5⟩ := hf it (by simp)
    refine enum_pyNext hE hit (show s.heap.IsTuple l its.toArray from p) (x := u) (by simpa using hu) hne fun h' o1 o2 o3 o4 o5 => ?_
    refine ⟨_, rfl, wpAny_letOwnedTupleGo_enum (s := { s with heap := h', toks := s.toks + 1 }) o1 fun h2 g1 g2 => ?_⟩
    have hfr : H s.heap.objs.size = none := I.hok.fresh (Nat.le_refl _)
    have kp : ∀ b o, b ≠ e → b ≠ it → s.heap.get? b = some o → h2.get? b = some o := fun b o hb hb' q => (g2.2 b hb).trans (o5 b o hb hb' q)
    have nt : ∀ b o, s.heap.get? b = some o → b ≠ s.heap.objs.size := fun b o q => Nat.ne_of_lt (Heap.lt_size q)
    have ne : ∀ b z, H b = some z → b ≠ e ∧ b ≠ it := fun b z q => ⟨fun t => (by rw [t, a0] at q; cases q), fun t => (by rw [t, f0] at q; cases q)⟩
    have het : s.heap.objs.size ≠ e := fun z => absurd (Heap.lt_size hE) (by rw [← z]; exact Nat.lt_irrefl _)
    have I1 : Inv X pins σ (upd H s.heap.objs.size (.tup [.int i, x])) { s with heap := h2, gens := s.gens, drawn := s.drawn, toks := s.toks + 1 } := by
      refine I.step (g' := s.gens) (d' := s.drawn) (ch := [e, it]) (fun b hb => ?_) (fun b o _ _ hc' q _ => kp b o (fun z => hc' (by simp [z])) (fun z => hc' (by simp [z])) q) (fun b o _ _ hc' q _ => ⟨o.slots, kp b o (fun z => hc' (by simp [z])) (fun z => hc' (by simp [z])) q⟩)
        (fun b o _ q n => by rw [upd_ne (nt b o q)]; exact n) (fun b o hc' q => ⟨o, kp b o (fun z => hc' (by simp [z])) (fun z => hc' (by simp [z])) q⟩) (fun b ys q => by rw [upd_ne (ne_of_none q hfr)]; exact q) (fun b o z q => by rw [upd_ne (ne_of_none q hfr)]; exact q)
        (fun b ps q => ⟨#[], by rw [upd_ne (ne_of_none q hfr), q]; simp⟩) (fun m hm => ?_) (fun b z q => ?_) I.bare
      · rcases List.mem_cons.mp hb with rfl | hb
        · exact ⟨a3, a1, a4, a5⟩
        · rw [List.mem_singleton.mp hb]; exact ⟨f3, f1, f4, f5⟩
      · obtain ⟨o, es, ep, ho, r⟩ := hm
        exact ⟨o, es, ep, kp _ o (Ne.symm a1) (Ne.symm f1) ho, r⟩
      · by_cases hb : b = s.heap.objs.size
        · subst hb
          rw [upd_same] at q
          cases q
          refine ⟨?_, [Value.int (i : Int) s.toks, u], .cons ⟨_, rfl⟩ (.cons ru .nil), _, (g2.2 _ het).trans o3, rfl, 0, rfl⟩
          show 2 ≤ sizeLine
          rw [sizeLine_eq]
          decide
        · rw [upd_ne hb] at q
          refine (I.hok b z q).stay (fun c v hc' q' => ?_) (fun c q' => by rw [upd_ne (ne_of_none q' hfr)]; exact q') fun c ys q' => by rw [upd_ne (ne_of_none q' hfr)]; exact q'
          rcases hc' with rfl | hc'
          · exact kp c v (ne c z q).1 (ne c z q).2 q'
          · exact kp c v (ne c _ hc').1 (ne c _ hc').2 q'
    refine ⟨.ref s.heap.objs.size, _, I1, rfl, ⟨_, x, hfr, fun ys hy => by rw [I.tuple_inj hy hq]; exact hx, rfl, rfl⟩, ⟨⟨_, g1⟩, ?_⟩, fun b hb => ?_⟩
    · obtain ⟨o, z1, z2, z3⟩ := o2
      exact ⟨o, (g2.2 it (Ne.symm hne)).trans z1, z2, z3⟩
    · rcases List.mem_cons.mp hb with rfl | hb
      · rw [upd_ne (Ne.symm het)]; exact a0
      · rw [List.mem_singleton.mp hb]
        have : it ≠ s.heap.objs.size := by
          obtain ⟨o, z1, _⟩ := hit
          exact nt it o z1
        rw [upd_ne this]; exact f0
  done := by
    intro X hP hw hK hc i pins s σ H E I hf st hg
    subst hP hw hK
    obtain ⟨xs, hq, hx⟩ := hg
    obtain ⟨⟨old, hE⟩, hit⟩ := st
    obtain ⟨its, rv, p, hz⟩ := I.tuple hq
    obtain ⟨f0, f1, f2, f3, f4, f5⟩ := hf it (by simp)
    have hl := rv.length
    exact enum_pyNext_end (I.ok.hd hc) hE hit (show s.heap.IsTuple l its.toArray from p) (by simp; omega) fun h' eb => ⟨rfl, I.turned (t' := s.toks) (fun b o hb e => eb b o hb e) f0 f1 f3 f4 f5⟩
  self := fun _ _ _ _ _ st h => by
    obtain ⟨⟨old, hE⟩, _⟩ := st
    exact wpAny_pyIter_enum hE h
section
variable {X : Cx} {elts : List Expr} {x1 : Nat} {tp : Pos}
def iEnumT (K : PySem.W.Frag) (ta : TA) : TI := fun σ H R => ta σ H fun vs H1 => ∃ l, vs = [.ref l] ∧ (∃ xs, SqT K H1 l xs) ∧ R (IteT K l) H1
theorem pi_enumT {a : Expr} {ta : TA} {p pos : Pos} (hg : Gl X "enumerate") (hm : X.mg "enumerate" = none) (ha : PA X [a] ta) (hs : starEach [a] X.env = [(false, eval a X.env)] := by rfl) : PI X (.Tuple elts x1 tp) (.Call (.Name "enumerate" p) [a] [] pos) (iEnumT X.K ta) := by
  intro pins s σ H R I h
  refine Call_ (ld_blt I hg hm bt_enumerate (PyProof.Rows.callWith_type1 (thn (ha pos pins s σ H _ I h) fun us s1 ⟨vs, H1, I1, r1, q1⟩ => ?_) hs rfl))
  obtain ⟨l, e, ⟨xs, hq⟩, q⟩ := q1
  subst e
  obtain ⟨u, rfl, rx⟩ := vals1 r1
  cases rx
  obtain ⟨its, rv, pl, hz⟩ := I1.tuple hq
  refine call_enumT (show s1.heap.IsTuple l its.toArray from pl) fun h' g1 g2 g3 g4 => ?_
  refine wpAny_pyIter_enum (s := { s1 with heap := h' }) g1 ?_
  have I2 : Inv X pins σ H1 { s1 with heap := h' } := I1.kept (t' := s1.toks) g4
  refine ⟨s1.heap.objs.size + 1, [s1.heap.objs.size + 1, s1.heap.objs.size], _, _, _, rfl, I2, turn_enumT l _ _ (Nat.succ_ne_self _), ⟨⟨_, g1⟩, g2⟩, fun b hb => ?_, q⟩
  rcases List.mem_cons.mp hb with rfl | hb
  · exact I1.fpOk (Nat.le_succ _) (I1.hok.fresh (Nat.le_succ _))
  · rw [List.mem_singleton.mp hb]
    exact I1.fpOk (Nat.le_refl _) (I1.hok.fresh (Nat.le_refl _))
theorem for_enumT {K : PySem.W.Frag} {l : Addr} {xs : List V} {g : TG} {tb : TS} {D : Ends} {σ : St} {H : Hp} (Pv : Nat → St → Hp → Prop) (h0 : Pv 0 σ H) (hl : ∀ i σ H, i ≤ xs.length → Pv i σ H → SqT K H l xs)
    (hs : ∀ i y σ H t, xs[i]? = some y → Pv i σ H → H t = none → g (.ref t) σ (upd H t (.tup [.int i, y])) fun σ2 H2 => tb { D with nx := Pv (i + 1), ct := Pv (i + 1), bk := D.nx } σ2 H2) (hd : ∀ σ H, Pv xs.length σ H → D.nx σ H) :
    ∃ W : Nat → Nat → St → Hp → Prop, (∃ m, W 0 m σ H) ∧ ∀ i m σ H, W i m σ H →
      ((IteT K l).stop i H ∧ D.nx σ H) ∨ ((IteT K l).go i H ∧ ∃ N : St → Hp → Prop, (∀ σ' H', N σ' H' → ∃ m', m' < m ∧ W (i + 1) m' σ' H') ∧ ∀ x H', (IteT K l).yld i H x H' → g x σ H' fun σ2 H2 => tb { D with nx := N, ct := N, bk := D.nx } σ2 H2) := by
  refine ⟨fun i m σ H => m = xs.length - i ∧ i ≤ xs.length ∧ Pv i σ H, ⟨xs.length, by simp, Nat.zero_le _, h0⟩, ?_⟩
  rintro i m σ H ⟨rfl, hi, p⟩
  have q := hl i σ H hi p
  by_cases hlt : i < xs.length
  · refine .inr ⟨⟨xs, xs[i], q, by simp [hlt]⟩, Pv (i + 1), fun σ' H' p' => ⟨xs.length - (i + 1), by omega, rfl, hlt, p'⟩, fun x H' y => ?_⟩
    obtain ⟨t, z, ht, hz, rfl, rfl⟩ := y
    exact hs i z σ H t (hz xs q) p ht
  · have : i = xs.length := by omega
    subst this
    exact .inl ⟨⟨xs, q, Nat.le_refl _⟩, hd σ H p⟩
end
end L2
set_option Elab.async false
set_option linter.all false
set_option maxRecDepth 100000
namespace L2
open PySem PySem.Spec PyProof.Rows PySem.W
mutual
def dEq : D → D → Bool
  | .int i, .int j => i == j
  | .str x, .str y => x == y
  | .tup a, .tup b => dEqL a b
  | _, _ => false
def dEqL : List D → List D → Bool
  | [], [] => true
  | a :: as, b :: bs => dEq a b && dEqL as bs
  | _, _ => false
end
mutual
theorem dEq_iff : ∀ {a b : D}, dEq a b = true ↔ a = b
  | .int i, .int j => by unfold dEq; rw [beq_iff_eq]; exact ⟨(fun h => by rw [h]), (fun h => by injection h)⟩
  | .str i, .str j => by unfold dEq; rw [beq_iff_eq]; exact ⟨(fun h => by rw [h]), (fun h => by injection h)⟩
  | .tup a, .tup b => by unfold dEq; rw [dEqL_iff]; exact ⟨(fun h => by rw [h]), (fun h => by injection h)⟩
  | .int i, .str j => by unfold dEq; exact ⟨(fun h => by cases h), (fun h => by cases h)⟩
  | .int i, .tup j => by unfold dEq; exact ⟨(fun h => by cases h), (fun h => by cases h)⟩
  | .str i, .int j => by unfold dEq; exact ⟨(fun h => by cases h), (fun h => by cases h)⟩
  | .str i, .tup j => by unfold dEq; exact ⟨(fun h => by cases h), (fun h => by cases h)⟩
  | .tup i, .int j => by unfold dEq; exact ⟨(fun h => by cases h), (fun h => by cases h)⟩
  | .tup i, .str j => by unfold dEq; exact ⟨(fun h => by cases h), (fun h => by cases h)⟩
theorem dEqL_iff : ∀ {a b : List D}, dEqL a b = true ↔ a = b
  | [], [] => by unfold dEqL; exact ⟨(fun _ => rfl), (fun _ => rfl)⟩
  | a :: as, b :: bs => by
    unfold dEqL
    rw [Bool.and_eq_true, dEq_iff, dEqL_iff]
    exact ⟨(fun h => by rw [h.1, h.2]), (fun h => by injection h with h1 h2; exact ⟨h1, h2⟩)⟩
  | [], b :: bs => by unfold dEqL; exact ⟨(fun h => by cases h), (fun h => by cases h)⟩
  | a :: as, [] => by unfold dEqL; exact ⟨(fun h => by cases h), (fun h => by cases h)⟩
end
instance : DecidableEq D := fun a b => if h : dEq a b = true then isTrue (dEq_iff.mp h) else isFalse fun e => h (dEq_iff.mpr e)
section
variable {X : Cx} {pins : List (Addr × Obj)} {σ : St} {H : Hp} {s : Shared}
end
end L2
set_option Elab.async false
set_option linter.all false
set_option maxRecDepth 100000
namespace L2
open PySem PySem.Spec PyProof.Rows
def LikeV (K : PySem.W.Frag) (H : Hp) : Nat → V → V → Prop
  | 0, x, y => (∃ i, x = .int i ∧ y = .int i) ∨ ∃ z, x = .str z ∧ y = .str z
  | n + 1, x, y => LikeV K H n x y ∨
    (∃ a b xs ys, x = .ref a ∧ y = .ref b ∧ SqT K H a xs ∧ SqT K H b ys ∧ xs.length = ys.length ∧ ∀ (j : Nat) x' y', xs[j]? = some x' → ys[j]? = some y' → LikeV K H n x' y') ∨
    ∃ a b xs ys, x = .ref a ∧ y = .ref b ∧ SqL K H a xs ∧ SqL K H b ys ∧ xs.length = ys.length ∧ ∀ (j : Nat) x' y', xs[j]? = some x' → ys[j]? = some y' → LikeV K H n x' y'
theorem like_int {K : PySem.W.Frag} {H : Hp} (i : Int) : ∀ n, LikeV K H n (.int i) (.int i)
  | 0 => .inl ⟨i, rfl, rfl⟩
  | n + 1 => .inl (like_int i n)
theorem like_str {K : PySem.W.Frag} {H : Hp} (z : Str) : ∀ n, LikeV K H n (.str z) (.str z)
  | 0 => .inr ⟨z, rfl, rfl⟩
  | n + 1 => .inl (like_str z n)
theorem LikeV.up {K : PySem.W.Frag} {H : Hp} {n m : Nat} {x y : V} (h : LikeV K H n x y) (hm : n ≤ m) : LikeV K H m x y := by
  induction hm with
  | refl => exact h
  | step _ ih => exact .inl ih
section
variable {X : Cx} {pins : List (Addr × Obj)} {σ : St} {H : Hp} {s : Shared}
theorem vals_at {xs ys : List V} {its its2 : List Value} {A : Around} (hl : xs.length = ys.length) (rva : Vals xs its) (rvb : Vals ys its2) (h : ∀ (j : Nat) x' y' u' v', xs[j]? = some x' → ys[j]? = some y' → RelV x' u' → RelV y' v' → SeqAt.EqAt A s u' v' true) :
    ∀ j (h1 : j < its.toArray.size) (h2 : j < its2.toArray.size), SeqAt.EqAt A s its.toArray[j] its2.toArray[j] true := fun j h1 h2 => by
  have l3 := rva.length
  have h1' : j < its.length := by simpa using h1
  have hx' : xs[j]? = some (xs[j]'(by omega)) := List.getElem?_eq_getElem (by omega)
  have hy' : ys[j]? = some (ys[j]'(by omega)) := List.getElem?_eq_getElem (by omega)
  obtain ⟨u', hu', ru'⟩ := rva.get hx'
  obtain ⟨v', hv', rv'⟩ := rvb.get hy'
  have eu : its.toArray[j] = u' := by
    have := (List.getElem?_eq_some_iff.mp hu').2
    simpa using this
  have ev : its2.toArray[j] = v' := by
    have := (List.getElem?_eq_some_iff.mp hv').2
    simpa using this
  rw [eu, ev]
  exact h j _ _ u' v' hx' hy' ru' rv'
theorem eqAt_like (I : Inv X pins σ H s) : ∀ (n : Nat) (A : Around) (x y : V) (u v : Value), A.units + n < cLine → LikeV X.K H n x y → RelV x u → RelV y v → SeqAt.EqAt A s u v true
  | 0, A, x, y, u, v, hA, h, ru, rv => by
    rcases h with ⟨i, rfl, rfl⟩ | ⟨z, rfl, rfl⟩
    · obtain ⟨t, rfl⟩ := ru
      obtain ⟨t', rfl⟩ := rv
      have := SeqAt.EqAt.int_int (A := A) (s := s) i t i t'
      rw [beq_self_eq_true] at this
      exact this
    · obtain ⟨t, rfl⟩ := ru
      obtain ⟨t', rfl⟩ := rv
      have := SeqAt.EqAt.str_str (A := A) (s := s) z t z t'
      rw [beq_self_eq_true] at this
      exact this
  | n + 1, A, x, y, u, v, hA, h, ru, rv => by
    rcases h with h | ⟨a, b, xs, ys, rfl, rfl, ha, hb, hl, hj⟩ | ⟨a, b, xs, ys, rfl, rfl, ha, hb, hl, hj⟩
    · exact eqAt_like I n A x y u v (by omega) h ru rv
    · cases ru; cases rv
      by_cases hab : a = b
      · subst hab; exact SeqAt.EqAt.same _
      · obtain ⟨its, rva, ta, _⟩ := I.tuple ha
        obtain ⟨its2, rvb, tb, _⟩ := I.tuple hb
        refine SeqAt.EqAt.of_refs hab ?_
        have l3 := rva.length
        have l4 := rvb.length
        have key := SeqAt.RcAt.tuples (A := A) (s := s) (e := fun _ => true) (show s.heap.IsTuple a its.toArray from ta) (show s.heap.IsTuple b its2.toArray from tb) (by omega) (vals_at hl rva rvb fun j x' y' u' v' e1 e2 r1 r2 => eqAt_like I n A.in1 x' y' u' v' (by show A.units + 1 + n < cLine; omega) (hj j x' y' e1 e2) r1 r2)
        have e : ((List.range (min its.toArray.size its2.toArray.size)).all (fun _ => true) && its.toArray.size == its2.toArray.size) = true := by
          have : its.toArray.size = its2.toArray.size := by simp; omega
          rw [this]; simp
        rw [e] at key
        exact key
    · cases ru; cases rv
      by_cases hab : a = b
      · subst hab; exact SeqAt.EqAt.same _
      · obtain ⟨its, rva, ta, _⟩ := I.list ha
        obtain ⟨its2, rvb, tb, _⟩ := I.list hb
        refine SeqAt.EqAt.of_refs hab ?_
        have l3 := rva.length
        have l4 := rvb.length
        have key := SeqAt.RcAt.lists (A := A) (s := s) (e := fun _ => true) ta.isList tb.isList (by simp; omega) (by omega) (vals_at hl rva rvb fun j x' y' u' v' e1 e2 r1 r2 => eqAt_like I n A.in1 x' y' u' v' (by show A.units + 1 + n < cLine; omega) (hj j x' y' e1 e2) r1 r2)
        have e : (List.range its.toArray.size).all (fun _ => true) = true := by simp
        rw [e] at key
        exact key
end
end L2
set_option Elab.async false
set_option linter.all false
set_option maxRecDepth 100000
namespace L2
open PySem PySem.Spec PyProof.Rows PySem.W
theorem strs_are : ∀ {ys : List Str} {its : List Value}, Vals (ys.map V.str) its → StrsAre its ys
  | [], _, r => by cases r; exact .nil
  | y :: ys, _, r => by
    cases r with
    | cons h t =>
      obtain ⟨k, rfl⟩ := h
      exact .cons y k (strs_are t)
theorem mt_join {X : Cx} : MtR X "str.join" (fun x xs H Q => ∃ (sep : Str) (l : Addr) (ys : List Str), x = .str sep ∧ xs = [.ref l] ∧ SqL X.K H l (ys.map V.str) ∧ (ys.map (·.length)).sum + ys.length * sep.length ≤ 16777216 ∧ Q (.str (Txt.join sep ys)) H) := by
  intro pins s σ H x xs v us Q I rx rs h
  obtain ⟨sep, l, ys, rfl, rfl, hl, hb, q⟩ := h
  obtain ⟨t, rfl⟩ := rx
  obtain ⟨u, rfl, ru⟩ := vals1 rs
  cases ru
  obtain ⟨its, rv, pl, hz⟩ := I.list hl
  refine join_list pl.isList (by simpa using strs_are rv) hb fun t' k => ?_
  exact ⟨.str (Txt.join sep ys), H, I.kept (t' := k) fun b o e => e, ⟨t', rfl⟩, q⟩
section
variable {X : Cx} {tg : Expr}
end
end L2
set_option Elab.async false
set_option linter.all false
set_option maxRecDepth 100000
namespace L2
open PySem PySem.Spec PyProof.Rows PySem.W
section
variable {prog : Program} {w : World} {A : Around} {E : Value → Shared → Prop} {s : Shared}
theorem cat_none {t b : Addr} {vs ws : List Value} {Q : Value → Shared → Prop} (ht : IsTup s.heap t vs.toArray) (hb : IsTup s.heap b ws.toArray) (hv : vs = []) (h : Q (.ref b) s) : wpAny (model prog w) A (binaryOp .Add (.ref t) (.ref b)) Q E s := by
  obtain ⟨⟨cls, dd, data, sl⟩, ho, hc, n, hd⟩ := id ht
  obtain ⟨⟨cls2, dd2, data2, sl2⟩, ho2, hc2, n2, hd2⟩ := id hb
  simp only at hc hd hc2 hd2
  subst hc hd hc2 hd2
  exact concat_meets ⟨_, ho, rfl⟩ ⟨_, ho2, rfl⟩ noFill_tuple_add seq_tuple_add PySem.F.slot_tuple_add PySem.F.entry_tuple_add (PySem.F.args_tuple_add_2 _ _)
      (tuple_addW0 t b vs.toArray ws.toArray n n2 dd dd2 sl sl2 (by simp [hv])) ⟨ho, ho2, h⟩
end
section
variable {X : Cx} {pins : List (Addr × Obj)} {σ : St} {H : Hp} {s : Shared}
end
end L2
namespace L2
open PySem PySem.Spec PyProof.Rows PySem.W
def rCatTC : R2 := fun x y H Q => ∃ a b xs ys, x = .ref a ∧ y = .ref b ∧ H a = some (.tup xs) ∧ H b = some (.tup ys) ∧ xs.length + ys.length ≤ sizeLine ∧ ∀ p H', Same H H' → H' p = some (.tup (xs ++ ys)) → Q (.ref p) H'
theorem op_catTC {X : Cx} : OpR X (binaryOp .Add) rCatTC := by
  intro pins s σ H x y v u Q I rx ry h
  obtain ⟨a, b, xs, ys, rfl, rfl, ha, hb, hz, q⟩ := h
  by_cases hx : xs = []
  · cases rx
    cases ry
    obtain ⟨its, r1, p1, _⟩ := I.tuple (SqT.of ha)
    obtain ⟨its2, r2, p2, _⟩ := I.tuple (SqT.of hb)
    subst hx
    exact cat_none p1 p2 (r1.nil_iff.mpr rfl) ⟨.ref b, H, I, rfl, q b H (Same.refl _) hb⟩
  · refine op_catT pins s σ H (.ref a) (.ref b) v u Q I rx ry ⟨a, b, xs, ys, rfl, rfl, SqT.of ha, SqT.of hb, hx, hz, fun hy => q a H (Same.refl _) (by rw [hy, List.append_nil]; exact ha), fun _ p hp => q p _ (fun c o e => by rw [upd_ne (ne_of_none e hp)]; exact e) upd_same⟩
end L2
set_option Elab.async false
set_option linter.all false
namespace L2
open PySem PySem.Spec PyProof.Rows PySem.W
def tJoin (t : TS) : TS := fun D σ H => ∃ J : St → Hp → Prop, t { D with nx := J } σ H ∧ ∀ σ' H', J σ' H' → D.nx σ' H'
theorem ps_join {X : Cx} {st : Stmt} {t : TS} (h : PS X st t) : PS X st (tJoin t) := by
  intro pins s σ H D I q
  obtain ⟨J, q, k⟩ := q
  refine thn (h pins s σ H _ I q) fun f s1 q1 => ?_
  cases f with
  | next =>
    obtain ⟨σ', H', I', e⟩ := q1
    exact ⟨σ', H', I', k _ _ e⟩
  | cont => exact q1
  | brk => exact q1
  | ret v => exact q1
end L2
set_option Elab.async false
set_option linter.all false
set_option maxRecDepth 100000
set_option maxHeartbeats 1000000
namespace LW
open PySem L2
mutual
theorem held_tk {H H' : Hp} (e : ∀ b xs, H b = some (.tup xs) → H' b = some (.tup xs)) : ∀ {d : D} {v : V}, Held H d v → Held H' d v
  | .int i, v, h => by unfold Held at h ⊢; exact h
  | .str x, v, h => by unfold Held at h ⊢; exact h
  | .tup ds, v, h => by
    unfold Held at h ⊢
    obtain ⟨a, xs, e1, e2, e3⟩ := h
    exact ⟨a, xs, e1, e a _ e2, heldL_tk e e3⟩
theorem heldL_tk {H H' : Hp} (e : ∀ b xs, H b = some (.tup xs) → H' b = some (.tup xs)) : ∀ {ds : List D} {vs : List V}, HeldL H ds vs → HeldL H' ds vs
  | [], vs, h => by unfold HeldL at h ⊢; exact h
  | d :: ds, vs, h => by
    unfold HeldL at h ⊢
    obtain ⟨v, r, e1, e2, e3⟩ := h
    exact ⟨v, r, e1, held_tk e e2, heldL_tk e e3⟩
end
def TK (G G' : Hp) : Prop := ∀ b xs, G b = some (.tup xs) → G' b = some (.tup xs)
theorem TK.trans {G G1 G2 : Hp} (h : TK G G1) (h' : TK G1 G2) : TK G G2 := fun b xs e => h' b xs (h b xs e)
theorem TK.same {G G' : Hp} (h : Same G G') : TK G G' := fun b xs e => h b _ e
theorem TK.upd {G : Hp} {a : Addr} {o u : HO} (h : G a = some o) (hn : ∀ xs, o ≠ .tup xs) : TK G (L2.upd G a u) := fun b xs e => by
  rw [upd_ne (ne_of e h (fun z => hn xs z.symm))]
  exact e
theorem TK.heldL {G G' : Hp} (h : TK G G') {d : List D} {v : List V} (x : HeldL G d v) : HeldL G' d v := heldL_tk h x
theorem TK.held {G G' : Hp} (h : TK G G') {d : D} {v : V} (x : Held G d v) : Held G' d v := held_tk h x
def pathD (p : List Int) : D := .tup (p.map D.int)
def askD (least keeps : D) (kind : Str) (p : List Int) (yes no : Nat) : D := .tup [.str "ask", least, keeps, .str kind, pathD p, .int yes, .int no]
def layL (S : Nat → D → List Int → List D) : Nat → List D → List Int → Nat → List D
  | _, [], _, _ => []
  | n, st :: rest, ar, k => S n st (ar ++ [(k : Int)]) ++ layL S (n + (S n st (ar ++ [(k : Int)])).length) rest ar (k + 1)
def layIf (S : Nat → D → List Int → List D) (n : Nat) (least : D) (b o : List D) (p : List Int) : List D :=
  let B := layL S (n + 1) b (p ++ [0]) 0
  let O := layL S (n + 1 + B.length + 1) o (p ++ [1]) 0
  askD least (.tup []) "" p (n + 1) (n + 1 + B.length + 1) :: B ++ .tup [.str "go", .int ((n + 1 + B.length + 1 + O.length : Nat) : Int)] :: O
def layWh (S : Nat → D → List Int → List D) (n : Nat) (least keeps : D) (b : List D) (p : List Int) : List D :=
  let B := layL S (n + 2) b (p ++ [0]) 0
  .tup [.str "come"] :: askD least keeps "enter" p (n + 2) (n + 2 + B.length + 1) :: B ++ [askD least keeps "keep" p (n + 2) (n + 2 + B.length + 1)]
def layS : Nat → Nat → D → List Int → List D
  | 0, _, _, _ => []
  | f + 1, n, st, p => match st with
    | .tup [.str k, least, .tup b, .tup o] => if k = "if" then layIf (layS f) n least b o p else if k = "while" then layWh (layS f) n least (.tup b) o p else [.tup [.str "do", st, pathD p]]
    | _ => [.tup [.str "do", st, pathD p]]
def FitS : Nat → D → Prop
  | 0, _ => False
  | f + 1, st => (∃ k r, st = .tup (.str k :: r) ∧ k ≠ "if" ∧ k ≠ "while") ∨ (∃ least b o, st = .tup [.str "if", least, .tup b, .tup o] ∧ (∀ s ∈ b, FitS f s) ∧ ∀ s ∈ o, FitS f s) ∨ (∃ least keeps b, st = .tup [.str "while", least, .tup keeps, .tup b] ∧ ∀ s ∈ b, FitS f s)
theorem layS_if {f n : Nat} {least : D} {b o : List D} {p : List Int} : layS (f + 1) n (.tup [.str "if", least, .tup b, .tup o]) p = layIf (layS f) n least b o p := by
  unfold layS
  dsimp only
  rw [if_pos rfl]
theorem layS_wh {f n : Nat} {least : D} {ks b : List D} {p : List Int} : layS (f + 1) n (.tup [.str "while", least, .tup ks, .tup b]) p = layWh (layS f) n least (.tup ks) b p := by
  unfold layS
  dsimp only
  rw [if_neg (by decide), if_pos rfl]
theorem layS_do {f n : Nat} {k : Str} {r : List D} {p : List Int} (h1 : k ≠ "if") (h2 : k ≠ "while") : layS (f + 1) n (.tup (.str k :: r)) p = [.tup [.str "do", .tup (.str k :: r), pathD p]] := by
  unfold layS
  split
  · rename_i k' least b o e
    injection e with e
    injection e with e1 e2
    injection e1 with e1
    subst e1
    rw [if_neg h1, if_neg h2]
  · rfl
inductive SO (H : Hp) : List (Option D) → List V → Prop where
  | nil : SO H [] []
  | non {os : List (Option D)} {vs : List V} (r : SO H os vs) : SO H (none :: os) (.non :: vs)
  | tree {d : D} {v : V} {os : List (Option D)} {vs : List V} (h : Held H d v) (r : SO H os vs) : SO H (some d :: os) (v :: vs)
theorem SO.length {H : Hp} {os : List (Option D)} {vs : List V} (h : SO H os vs) : os.length = vs.length := by
  induction h with
  | nil => rfl
  | non _ ih => rw [List.length_cons, List.length_cons, ih]
  | tree _ _ ih => rw [List.length_cons, List.length_cons, ih]
theorem SO.append {H : Hp} {os os' : List (Option D)} {vs vs' : List V} (h : SO H os vs) (h' : SO H os' vs') : SO H (os ++ os') (vs ++ vs') := by
  induction h with
  | nil => exact h'
  | non _ ih => exact .non ih
  | tree h _ ih => exact .tree h ih
theorem SO.tk {H H' : Hp} (e : TK H H') {os : List (Option D)} {vs : List V} (h : SO H os vs) : SO H' os vs := by
  induction h with
  | nil => exact .nil
  | non _ ih => exact .non ih
  | tree h _ ih => exact .tree (e.held h) ih
theorem SO.set {H : Hp} {d : D} {v : V} (hv : Held H d v) {os : List (Option D)} {vs : List V} (h : SO H os vs) : ∀ k, SO H (os.set k (some d)) (vs.set k v) := by
  induction h with
  | nil => intro k; exact .nil
  | non r ih => intro k; cases k with | zero => exact .tree hv r | succ k => exact .non (ih k)
  | tree h r ih => intro k; cases k with | zero => exact .tree hv r | succ k => exact .tree h (ih k)
theorem SO.heldL {H : Hp} : ∀ {ds : List D} {vs : List V}, SO H (ds.map some) vs → HeldL H ds vs
  | [], _, h => by cases h; exact heldL_nil
  | d :: ds, _, h => by
    cases h with
    | tree h r => exact heldL_cons h r.heldL
theorem path_held {H : Hp} {p : List Int} {v : V} (h : Held H (pathD p) v) : ∃ a, v = .ref a ∧ H a = some (.tup (p.map V.int)) := by
  unfold pathD Held at h
  obtain ⟨a, xs, e1, e2, e3⟩ := h
  refine ⟨a, e1, ?_⟩
  have : ∀ {p : List Int} {xs : List V}, HeldL H (p.map D.int) xs → xs = p.map V.int := by
    intro p
    induction p with
    | nil => intro xs h; simpa [HeldL] using h
    | cons x p ih =>
      intro xs h
      rw [List.map_cons] at h
      unfold HeldL at h
      obtain ⟨v, r, rfl, h1, h2⟩ := h
      unfold Held at h1
      rw [h1, ih h2]
      rfl
  rw [this e3] at e2
  exact e2
theorem held_path {H : Hp} {p : List Int} {a : Addr} (h : H a = some (.tup (p.map V.int))) : Held H (pathD p) (.ref a) := by
  have : ∀ p : List Int, HeldL H (p.map D.int) (p.map V.int) := by
    intro p
    induction p with
    | nil => exact heldL_nil
    | cons x p ih => exact heldL_cons held_int ih
  exact held_tup h (this p)
end LW
set_option Elab.async false
set_option linter.all false
set_option maxRecDepth 100000
namespace LW
open PySem L2
def tNeverE : TE := fun _ _ _ => False
theorem pe_never {X : Cx} {e : Expr} : PE X e tNeverE := fun _ _ _ _ _ _ h => h.elim
def lkA {α : Type} (L : List (Str × α)) (k : Str) : Option α := (L.find? fun q => decide (q.1 = k)).map (·.2)
def putA {α : Type} (L : List (Str × α)) (k : Str) (v : α) : List (Str × α) := if (L.any fun q => decide (q.1 = k)) = true then L.map (fun q => if q.1 = k then (q.1, v) else q) else L ++ [(k, v)]
def nKV (N : List (Str × Int)) : List (Key × V) := N.map fun q => (Sum.inr q.1, V.int q.2)
theorem inr_dec (x y : Str) : decide ((Sum.inr x : Key) = Sum.inr y) = decide (x = y) := by
  rw [decide_eq_decide]
  exact ⟨fun h => Sum.inr.inj h, fun h => by rw [h]⟩
theorem nkv_val (N : List (Str × Int)) (x : Str) : valV (nKV N) (Sum.inr x) = (lkA N x).map V.int := by
  unfold valV lkA nKV
  rw [List.find?_map, Option.map_map, Option.map_map]
  congr 1
  congr 1
  funext q
  exact inr_dec q.1 x
theorem nkv_put (N : List (Str × Int)) (x : Str) (n : Int) : putK (nKV N) (Sum.inr x) (.int n) = nKV (putA N x n) := by
  unfold putK putA nKV
  have e : ((N.map fun q => ((Sum.inr q.1 : Key), V.int q.2)).any fun kv => decide (kv.1 = (Sum.inr x : Key))) = N.any fun q => decide (q.1 = x) := by
    rw [List.any_map]
    congr 1
    funext q
    exact inr_dec q.1 x
  rw [e]
  split
  · rw [List.map_map, List.map_map]
    apply List.map_congr_left
    intro q _
    show (if (Sum.inr q.1 : Key) = Sum.inr x then ((Sum.inr q.1 : Key), V.int n) else ((Sum.inr q.1 : Key), V.int q.2)) = ((Sum.inr (if q.1 = x then (q.1, n) else q).1 : Key), V.int (if q.1 = x then (q.1, n) else q).2)
    by_cases h : q.1 = x
    · rw [if_pos (by rw [h]), if_pos h]
    · rw [if_neg (fun z => h (Sum.inr.inj z)), if_neg h]
  · rw [List.map_append]
    rfl
theorem putA_len {α : Type} (L : List (Str × α)) (k : Str) (v : α) : (putA L k v).length ≤ L.length + 1 := by
  unfold putA
  split
  · rw [List.length_map]; omega
  · rw [List.length_append]; simp
def numA (N : List (Str × Int)) (x : Str) : Int := if x = "" then 0 else (lkA N x).getD 0
theorem held_int_inv {H : Hp} {x : Int} {v : V} (h : Held H (.int x) v) : v = .int x := by unfold Held at h; exact h
theorem held_tup_inv {H : Hp} {ds : List D} {v : V} (h : Held H (.tup ds) v) : ∃ a xs, v = .ref a ∧ H a = some (.tup xs) ∧ HeldL H ds xs := by unfold Held at h; exact h
theorem heldL_nil_inv {H : Hp} {vs : List V} (h : HeldL H [] vs) : vs = [] := by unfold HeldL at h; exact h
theorem heldL_cons_inv {H : Hp} {d : D} {ds : List D} {vs : List V} (h : HeldL H (d :: ds) vs) : ∃ v r, vs = v :: r ∧ Held H d v ∧ HeldL H ds r := by unfold HeldL at h; exact h
theorem held_str_inv {H : Hp} {x : Str} {v : V} (h : Held H (.str x) v) : v = .str x := by unfold Held at h; exact h
theorem is_inv {H : Hp} {x y : Str} {v : V} (h : Held H (.tup [.str x, .str y]) v) : ∃ a, v = .ref a ∧ H a = some (.tup [.str x, .str y]) := by
  obtain ⟨a, xs, rfl, ha, h1⟩ := held_tup_inv h
  obtain ⟨v1, r1, rfl, e1, h2⟩ := heldL_cons_inv h1
  obtain ⟨v2, r2, rfl, e2, h3⟩ := heldL_cons_inv h2
  cases heldL_nil_inv h3
  cases held_str_inv e1
  cases held_str_inv e2
  exact ⟨a, rfl, ha⟩
def leD (x y : Str) (c : Int) : D := .tup [.str "least", .tup [.str "is", .str x], .tup [.str "is", .str y], .int c]
def leT (N : List (Str × Int)) (x y : Str) (c : Int) : Bool := decide (numA N y + c ≤ numA N x)
theorem le_inv {H : Hp} {x y : Str} {c : Int} {v : V} (h : Held H (leD x y c) v) : ∃ a b d, v = .ref a ∧ H a = some (.tup [.str "least", .ref b, .ref d, .int c]) ∧ H b = some (.tup [.str "is", .str x]) ∧ H d = some (.tup [.str "is", .str y]) := by
  obtain ⟨a, xs, rfl, ha, h1⟩ := held_tup_inv h
  obtain ⟨v1, r1, rfl, e1, h2⟩ := heldL_cons_inv h1
  obtain ⟨v2, r2, rfl, e2, h3⟩ := heldL_cons_inv h2
  obtain ⟨v3, r3, rfl, e3, h4⟩ := heldL_cons_inv h3
  obtain ⟨v4, r4, rfl, e4, h5⟩ := heldL_cons_inv h4
  cases heldL_nil_inv h5
  cases held_str_inv e1
  cases held_int_inv e4
  obtain ⟨b, rfl, hb⟩ := is_inv e2
  obtain ⟨d, rfl, hd⟩ := is_inv e3
  exact ⟨a, b, d, rfl, ha, hb, hd⟩
theorem lk_cons {α : Type} (q : Str × α) (N : List (Str × α)) (y : Str) : lkA (q :: N) y = if q.1 = y then some q.2 else lkA N y := by
  unfold lkA
  rw [List.find?_cons]
  by_cases h : q.1 = y
  · rw [decide_eq_true h, if_pos h]; rfl
  · rw [decide_eq_false h, if_neg h]
theorem lk_map (x y : Str) (n : Int) : ∀ N : List (Str × Int), lkA (N.map fun q => if q.1 = x then (q.1, n) else q) y = if y = x then (lkA N x).map (fun _ => n) else lkA N y
  | [] => by split <;> rfl
  | q :: N => by
    rw [List.map_cons, lk_cons, lk_map x y n N, lk_cons, lk_cons]
    by_cases hq : q.1 = x
    · rw [if_pos hq, if_pos hq]
      by_cases hy : y = x
      · rw [if_pos hy, if_pos (hq.trans hy.symm), if_pos hy]
        rfl
      · rw [if_neg hy, if_neg (fun z => hy (z.symm.trans hq)), if_neg hy, if_neg (fun z => hy (z.symm.trans hq))]
    · rw [if_neg hq, if_neg hq]
      by_cases hy : y = x
      · rw [if_pos hy, if_neg (fun z => hq (z.trans hy)), if_pos hy]
      · rw [if_neg hy, if_neg hy]
theorem lk_any (x : Str) : ∀ N : List (Str × Int), (N.any fun q => decide (q.1 = x)) = (lkA N x).isSome
  | [] => rfl
  | q :: N => by
    rw [List.any_cons, lk_cons, lk_any x N]
    by_cases hq : q.1 = x
    · rw [decide_eq_true hq, if_pos hq]; rfl
    · rw [decide_eq_false hq, if_neg hq]; rfl
theorem lk_app (x y : Str) (n : Int) : ∀ N : List (Str × Int), lkA N x = none → lkA (N ++ [(x, n)]) y = if y = x then some n else lkA N y
  | [], _ => by
    rw [List.nil_append, lk_cons]
    by_cases h : y = x
    · rw [if_pos h.symm, if_pos h]
    · rw [if_neg (fun z => h z.symm), if_neg h]
  | q :: N, hn => by
    rw [lk_cons] at hn
    by_cases hq : q.1 = x
    · rw [if_pos hq] at hn; cases hn
    · rw [if_neg hq] at hn
      rw [List.cons_append, lk_cons, lk_app x y n N hn, lk_cons]
      by_cases hy : y = x
      · rw [if_pos hy, if_pos hy, if_neg (fun z => hq (z.trans hy))]
      · rw [if_neg hy, if_neg hy]
theorem lk_put (N : List (Str × Int)) (x y : Str) (n : Int) : lkA (putA N x n) y = if y = x then some n else lkA N y := by
  unfold putA
  rw [lk_any]
  cases h : lkA N x with
  | none => rw [if_neg (by simp), lk_app x y n N h]
  | some z => rw [if_pos (by simp), lk_map, h]; rfl
theorem num_put (N : List (Str × Int)) (x y : Str) (n : Int) (hx : x ≠ "") : numA (putA N x n) y = if y = x then n else numA N y := by
  unfold numA
  rw [lk_put]
  by_cases h : y = x
  · rw [if_pos h, if_pos h, if_neg (fun e => hx (h.symm.trans e))]
    rfl
  · rw [if_neg h, if_neg h]
end LW
set_option Elab.async false
set_option linter.all false
set_option maxRecDepth 100000
set_option maxHeartbeats 1000000
namespace LW
open PySem L2
theorem at_map {ns : List Int} {k : Int} (h0 : 0 ≤ k) (h : k < (ns.length : Int)) : atI (ns.map V.int) k = some (.int (ns.getD k.toNat 0)) := by
  have hk : k.toNat < ns.length := by omega
  have := atI_nat (xs := ns.map V.int) (j := k.toNat) (v := .int (ns.getD k.toNat 0)) (by rw [List.getElem?_map, List.getD_eq_getElem?_getD, List.getElem?_eq_getElem hk]; rfl)
  rw [show ((k.toNat : Nat) : Int) = k by omega] at this
  exact this
theorem at_strs {xs : List Str} {i : Int} (h0 : 0 ≤ i) (h : i < (xs.length : Int)) : atI (xs.map V.str) i = some (.str (xs.getD i.toNat "")) := by
  have hk : i.toNat < xs.length := by omega
  have := atI_nat (xs := xs.map V.str) (j := i.toNat) (v := .str (xs.getD i.toNat "")) (by rw [List.getElem?_map, List.getD_eq_getElem?_getD, List.getElem?_eq_getElem hk]; rfl)
  rw [show ((i.toNat : Nat) : Int) = i by omega] at this
  exact this
theorem join_cps : ∀ ys : List Nat, (Txt.join "" (ys.map fun c => (⟨#[c]⟩ : Str))).cps.toList = ys := by
  intro ys
  have e : Txt.join "" (ys.map fun c => (⟨#[c]⟩ : Str)) = ("" : Str).join (ys.map fun c => (⟨#[c]⟩ : Str)) := PySem.StrLaws.glued_eq_join _ _
  rw [e]
  clear e
  induction ys with
  | nil => rfl
  | cons y r ih =>
    cases r with
    | nil => rfl
    | cons z r =>
      show (((⟨#[y]⟩ : Str) ++ ("" : Str)) ++ ("" : Str).join ((z :: r).map fun c => (⟨#[c]⟩ : Str))).cps.toList = _
      rw [Str.cps_append, Array.toList_append, ih]
      rfl
def lettersS : Str := "abcdefghijklmnopqrstuvwxyz"
theorem letters_list : lettersS.cps.toList = (List.range 26).map (· + 97) := by decide +kernel
def letC (i : Int) : Nat := i.toNat + 97
theorem letter_at {i : Int} (h0 : 0 ≤ i) (h1 : i < 26) : atI lettersS.cps.toList i = some (letC i) := by
  have hk : i.toNat < 26 := by omega
  have := atI_nat (xs := lettersS.cps.toList) (j := i.toNat) (v := letC i) (by rw [letters_list, List.getElem?_map, List.getElem?_range hk]; rfl)
  rw [show ((i.toNat : Nat) : Int) = i by omega] at this
  exact this
def qzS : Str := "qz"
def qzC (i : Int) : Nat := if i = 0 then 113 else 122
theorem qz_at {i : Int} (h0 : 0 ≤ i) (h1 : i < 2) : atI qzS.cps.toList i = some (qzC i) := by
  have : i = 0 ∨ i = 1 := by omega
  rcases this with rfl | rfl
  · decide +kernel
  · decide +kernel
def ownL : List Str := ["row", "is", "at", "set", "put", "know", "lose", "start", "entry", "own", "nought", "pick", "least", "lost"]
structure WordsOk (ws : List Str) (n : Nat) : Prop where
  len : ws.length = n
  nd : ws.Nodup
  ne : ∀ w ∈ ws, w ≠ ""
  out : ∀ w ∈ ws, w ≠ "out"
  sz : ∀ w ∈ ws, w.length ≤ 10
theorem nodup_mapI {α : Type} {n : Nat} {f : Nat → α} (h : ∀ i j, i < n → j < n → f i = f j → i = j) : ((List.range n).map f).Nodup := by
  unfold List.Nodup
  rw [List.pairwise_map]
  apply List.Pairwise.imp_of_mem (R := fun a b => a ≠ b)
  · intro a b ha hb hne e
    exact hne (h a b (List.mem_range.mp ha) (List.mem_range.mp hb) e)
  · exact List.nodup_range
theorem mod_inj {a : Int} {i j : Nat} {m : Int} {n : Nat} (hn : (n : Int) ≤ m) (hi : i < n) (hj : j < n) (h : (a + (0 + (i : Int))) % m = (a + (0 + (j : Int))) % m) : i = j := by
  have hm : 0 < m := by omega
  have h1 := Int.emod_emod_of_dvd (a + (0 + (i : Int))) (Int.dvd_refl m)
  have h2 : ((a + (0 + (i : Int))) - (a + (0 + (j : Int)))) % m = 0 := Int.emod_eq_emod_iff_emod_sub_eq_zero.mp h
  have h3 : m ∣ ((i : Int) - j) := by
    have := Int.dvd_of_emod_eq_zero h2
    rwa [show (a + (0 + (i : Int))) - (a + (0 + (j : Int))) = (i : Int) - j by omega] at this
  have h4 := Int.eq_zero_of_dvd_of_natAbs_lt_natAbs h3 (by omega)
  omega
def ownW (c : Int) (k : Nat) : Str := ownL.getD ((c / 7 + (0 + (k : Int))) % 14).toNat ""
def oneW (c : Int) (k : Nat) : Str := ⟨#[letC ((c / 8 + (0 + (k : Int))) % 26)]⟩
def bsW (c spot : Int) (k j : Nat) : Int := c / 432 + 7 * (0 + (j : Int)) * (0 + (j : Int)) + (0 + (k : Int)) * (if decide (V.int (0 + (j : Int)) = V.int spot) = true then 1 else 0)
def lgW (c size spot : Int) (k : Nat) : Str := (⟨#[qzC (c / 144 % 2)]⟩ : Str) ++ Txt.join "" (((List.range size.toNat).map fun j => letC (bsW c spot k j % 26)).map fun ch => (⟨#[ch]⟩ : Str))
theorem nd_inj {α : Type} {l : List α} (nd : l.Nodup) {i j : Nat} (hi : i < l.length) (hj : j < l.length) (e : l[i] = l[j]) : i = j := by
  have pw := List.pairwise_iff_getElem.mp nd
  rcases Nat.lt_trichotomy i j with h | h | h
  · exact absurd e (pw i j hi hj h)
  · exact h
  · exact absurd e.symm (pw j i hj hi h)
theorem ownL_nodup : ownL.Nodup := by decide +kernel
theorem ownL_mem : ∀ w ∈ ownL, w ≠ "" ∧ w ≠ "out" ∧ w.length ≤ 10 := by decide +kernel
theorem ownW_mem (c : Int) (k : Nat) : ownW c k ∈ ownL := by
  unfold ownW
  have h0 := Int.emod_nonneg (c / 7 + (0 + (k : Int))) (b := 14) (by decide)
  have h1 := Int.emod_lt_of_pos (c / 7 + (0 + (k : Int))) (b := 14) (by decide)
  have hl : ownL.length = 14 := rfl
  have hk : ((c / 7 + (0 + (k : Int))) % 14).toNat < ownL.length := by omega
  rw [List.getD_eq_getElem?_getD, List.getElem?_eq_getElem hk]
  exact List.getElem_mem hk
theorem own_ok {c : Int} {n : Nat} (hn : n ≤ 14) : WordsOk ((List.range n).map (ownW c)) n := by
  refine ⟨by simp, ?_, fun w hw => ?_, fun w hw => ?_, fun w hw => ?_⟩
  · apply nodup_mapI
    intro i j hi hj e
    unfold ownW at e
    have a0 := Int.emod_nonneg (c / 7 + (0 + (i : Int))) (b := 14) (by decide)
    have a1 := Int.emod_lt_of_pos (c / 7 + (0 + (i : Int))) (b := 14) (by decide)
    have b0 := Int.emod_nonneg (c / 7 + (0 + (j : Int))) (b := 14) (by decide)
    have b1 := Int.emod_lt_of_pos (c / 7 + (0 + (j : Int))) (b := 14) (by decide)
    have hl : ownL.length = 14 := rfl
    have hk : ((c / 7 + (0 + (i : Int))) % 14).toNat < ownL.length := by omega
    have hk2 : ((c / 7 + (0 + (j : Int))) % 14).toNat < ownL.length := by omega
    rw [List.getD_eq_getElem?_getD, List.getElem?_eq_getElem hk, List.getD_eq_getElem?_getD, List.getElem?_eq_getElem hk2] at e
    have e2 := nd_inj ownL_nodup hk hk2 e
    exact mod_inj (a := c / 7) (n := n) (m := 14) (by omega) hi hj (by omega)
  · obtain ⟨k, _, rfl⟩ := List.mem_map.mp hw
    exact (ownL_mem _ (ownW_mem c k)).1
  · obtain ⟨k, _, rfl⟩ := List.mem_map.mp hw
    exact (ownL_mem _ (ownW_mem c k)).2.1
  · obtain ⟨k, _, rfl⟩ := List.mem_map.mp hw
    exact (ownL_mem _ (ownW_mem c k)).2.2
theorem letC_inj {a b : Int} (ha : 0 ≤ a) (hb : 0 ≤ b) (h : letC a = letC b) : a = b := by
  unfold letC at h
  omega
theorem one_ok {c : Int} {n : Nat} (hn : n ≤ 26) : WordsOk ((List.range n).map (oneW c)) n := by
  refine ⟨by simp, ?_, fun w hw => ?_, fun w hw => ?_, fun w hw => ?_⟩
  · apply nodup_mapI
    intro i j hi hj e
    unfold oneW at e
    have a0 := Int.emod_nonneg (c / 8 + (0 + (i : Int))) (b := 26) (by decide)
    have b0 := Int.emod_nonneg (c / 8 + (0 + (j : Int))) (b := 26) (by decide)
    have e1 : letC ((c / 8 + (0 + (i : Int))) % 26) = letC ((c / 8 + (0 + (j : Int))) % 26) := by
      injection e with e
      injection e with e
      injection e
    exact mod_inj (n := n) (m := 26) (by omega) hi hj (letC_inj a0 b0 e1)
  · obtain ⟨k, _, rfl⟩ := List.mem_map.mp hw
    intro z
    have := congrArg Str.length z
    exact absurd this (by show (1 : Nat) ≠ 0; decide)
  · obtain ⟨k, _, rfl⟩ := List.mem_map.mp hw
    intro z
    have := congrArg Str.length z
    exact absurd this (by show (1 : Nat) ≠ 3; decide)
  · obtain ⟨k, _, rfl⟩ := List.mem_map.mp hw
    show 1 ≤ 10
    decide
theorem lgW_cps (c size spot : Int) (k : Nat) : (lgW c size spot k).cps.toList = qzC (c / 144 % 2) :: (List.range size.toNat).map fun j => letC (bsW c spot k j % 26) := by
  unfold lgW
  rw [Str.cps_append, Array.toList_append, join_cps]
  rfl
theorem lg_ok {c size spot : Int} {n : Nat} (hn : n ≤ 26) (h0 : 0 ≤ spot) (h1 : spot < size) (h2 : size ≤ 7) : WordsOk ((List.range n).map (lgW c size spot)) n := by
  have len : ∀ k, (lgW c size spot k).length = 1 + size.toNat := fun k => by
    show (lgW c size spot k).cps.size = _
    rw [← Array.length_toList, lgW_cps]
    simp
    omega
  have q0 : ∀ k, (lgW c size spot k).cps.toList[0]? = some (qzC (c / 144 % 2)) := fun k => by rw [lgW_cps]; rfl
  refine ⟨by simp, ?_, fun w hw => ?_, fun w hw => ?_, fun w hw => ?_⟩
  · apply nodup_mapI
    intro i j hi hj e
    have e1 : (lgW c size spot i).cps.toList = (lgW c size spot j).cps.toList := by rw [e]
    rw [lgW_cps, lgW_cps] at e1
    injection e1 with _ e1
    have hs : spot.toNat < size.toNat := by omega
    have e2 : letC (bsW c spot i spot.toNat % 26) = letC (bsW c spot j spot.toNat % 26) := by
      have this : ((List.range size.toNat).map fun k => letC (bsW c spot i k % 26))[spot.toNat]? = ((List.range size.toNat).map fun k => letC (bsW c spot j k % 26))[spot.toNat]? := by rw [e1]
      rw [List.getElem?_map, List.getElem?_map, List.getElem?_range hs] at this
      exact Option.some.inj this
    have e3 := letC_inj (Int.emod_nonneg _ (by decide)) (Int.emod_nonneg _ (by decide)) e2
    unfold bsW at e3
    have hd : decide (V.int (0 + ((spot.toNat : Nat) : Int)) = V.int spot) = true := decide_eq_true (congrArg V.int (by omega))
    rw [hd, if_pos rfl, Int.mul_one, Int.mul_one] at e3
    exact mod_inj (n := n) (m := 26) (by omega) hi hj e3
  · obtain ⟨k, _, rfl⟩ := List.mem_map.mp hw
    intro z
    have h := len k
    rw [z] at h
    have : (0 : Nat) = 1 + size.toNat := h
    omega
  · obtain ⟨k, _, rfl⟩ := List.mem_map.mp hw
    intro z
    have h := q0 k
    rw [z] at h
    have h' : some (111 : Nat) = some (qzC (c / 144 % 2)) := by
      rw [← h]
      decide +kernel
    unfold qzC at h'
    split at h' <;> cases h'
  · obtain ⟨k, _, rfl⟩ := List.mem_map.mp hw
    rw [len k]
    omega
end LW
set_option Elab.async false
set_option linter.all false
set_option maxRecDepth 100000
set_option maxHeartbeats 2000000
namespace LW
open PySem L2
def top (i : Nat) : Stmt := PySem.Challenge.pw_outlineward_k76_loops_come_to_again.main.body.getD i (.Pass ⟨0, 0, 0, 0⟩)
theorem same_new {H : Hp} {p : Addr} (h : H p = none) (o : HO) : Same H (upd H p o) := fun b u q => by rw [upd_ne (ne_of_none q h)]; exact q
theorem small {n : Nat} (h : n ≤ 1000) : n ≤ sizeLine := Nat.le_of_lt (small1000 h)
theorem sm {n : Nat} (h : n.ble 1000 = true) : n ≤ sizeLine := small (Nat.le_of_ble_eq_true h)
theorem ix_nat {n j : Nat} (h : j < n) : ixN n (j : Int) = some j := by
  unfold ixN
  rw [if_pos (by omega), if_pos (by omega)]; simp
abbrev sSteps_of : Stmt := top 21
abbrev sLay_body : Stmt := top 22
abbrev sLay_if : Stmt := top 23
abbrev sLay_while : Stmt := top 24
abbrev sRoom : Stmt := top 25
def spRoom : Sp := fun vs H Q _ => ∃ (sl : Addr) (ss : List V), vs = [.ref sl] ∧ H sl = some (.lst ss) ∧ ss.length ≤ 900 ∧ Q (.int ss.length) (upd H sl (.lst (ss ++ [.non])))
def spLayB (f : Nat) : Sp := fun vs H Q _ => ∃ (sl : Addr) (vb va : V) (ss : List V) (os : List (Option D)) (body : List D) (ar : List Int), vs = [.ref sl, vb, va] ∧ H sl = some (.lst ss) ∧ SO H os ss ∧ Held H (.tup body) vb ∧ Held H (pathD ar) va ∧ (∀ st ∈ body, FitS f st) ∧ os.length + (layL (layS f) os.length body ar 0).length ≤ 900 ∧ ar.length + 2 * f ≤ 500 ∧
  ∀ H' ss', (∀ b o, b ≠ sl → H b = some o → H' b = some o) → H' sl = some (.lst ss') → SO H' (os ++ (layL (layS f) os.length body ar 0).map some) ss' → Q .non H'
def spLayS (k : Str) (f : Nat) : Sp := fun vs H Q _ => ∃ (sl : Addr) (vb va : V) (ss : List V) (os : List (Option D)) (st : D) (r : List D) (p : List Int), vs = [.ref sl, vb, va] ∧ st = .tup (.str k :: r) ∧ H sl = some (.lst ss) ∧ SO H os ss ∧ Held H st vb ∧ Held H (pathD p) va ∧ FitS f st ∧ os.length + (layS f os.length st p).length ≤ 900 ∧ p.length + 2 * f ≤ 501 ∧
  ∀ H' ss', (∀ b o, b ≠ sl → H b = some o → H' b = some o) → H' sl = some (.lst ss') → SO H' (os ++ (layS f os.length st p).map some) ss' → Q .non H'
section
variable {P : Program} {w : World} {K : PySem.W.Frag} {mg : Str → Option Value} {base : Heap}
theorem ok_room {f : Addr} {fd : FuncData} (F : Fun K "room" "room" sRoom f fd) (B : Free0 mg) : FnOk P w K mg base CX0 1 f fd ["steps"] spRoom := by
  have sc : FnScope ["steps"] ["steps"] (defScope sRoom) := ⟨rfl, rfl, rfl, by decide +kernel, rfl, by decide +kernel, by decide +kernel⟩
  refine F.ok sc (fun vs H Q E h => ?_) (fun cdv A outer s H vs Q E hr h => ?_)
  · obtain ⟨sl, ss, rfl, _⟩ := h
    rfl
  obtain ⟨sl, ss, rfl, hs, hl, q⟩ := h
  refine ⟨_, (pss_cons (ps_expr (pe_bm PySem.F.plainAttrs_list PySem.F.slot_list_append PySem.F.type_list_append mt_append (pv 0) (pa_c pe_non pa_nil)))
      (pss_one (ps_ret (pe_op op_sub (pe_cB call_len_seq (by rfl) B.len_ bt_len (pa_c (pv 0) pa_nil)) pe_int)))), ?_⟩
  refine ⟨_, rfl, .inl ⟨rfl, _, SqL.of hs⟩, sl, _, _, rfl, rfl, hs, small1000 (by omega), ?_⟩
  refine ⟨_, rfl, sl, _, rfl, .inl (SqL.of upd_same), _, _, rfl, rfl, ?_⟩
  show Q (.int ((((ss ++ [V.non]).length : Nat) : Int) - 1)) _
  rw [show ((((ss ++ [V.non]).length : Nat) : Int) - 1) = (ss.length : Int) by rw [List.length_append, List.length_singleton]; omega]
  exact q
theorem layL_len {S : Nat → D → List Int → List D} : ∀ (n : Nat) (a b : List D) (ar : List Int) (k : Nat), layL S n (a ++ b) ar k = layL S n a ar k ++ layL S (n + (layL S n a ar k).length) b ar (k + a.length)
  | n, [], b, ar, k => by simp [layL]
  | n, st :: a, b, ar, k => by
    have e : ∀ (c : List D), layL S n (st :: c) ar k = S n st (ar ++ [(k : Int)]) ++ layL S (n + (S n st (ar ++ [(k : Int)])).length) c ar (k + 1) := fun c => rfl
    rw [List.cons_append, e, e, layL_len _ a b ar (k + 1), List.append_assoc, List.length_append, List.length_cons, Nat.add_assoc n, Nat.add_assoc k, Nat.add_comm 1 a.length]
theorem held_head {H : Hp} {k : Str} {r : List D} {v : V} (h : Held H (.tup (.str k :: r)) v) : ∃ a xs, v = .ref a ∧ H a = some (.tup (.str k :: xs)) ∧ HeldL H r xs := by
  unfold Held at h
  obtain ⟨a, xs, e1, e2, e3⟩ := h
  unfold HeldL at e3
  obtain ⟨v, r', rfl, h1, h2⟩ := e3
  unfold Held at h1
  subst h1
  exact ⟨a, r', e1, e2, h2⟩
theorem at_zero {x : V} {xs : List V} : atI (x :: xs) 0 = some x := atI_nat (j := 0) rfl
theorem fit_head {f : Nat} {st : D} (h : FitS f st) : ∃ k r, st = .tup (.str k :: r) := by
  cases f with
  | zero => exact h.elim
  | succ f =>
    rcases h with ⟨k, r, rfl, _⟩ | ⟨l, b, o, rfl, _⟩ | ⟨l, ks, b, rfl, _⟩
    · exact ⟨_, _, rfl⟩
    · exact ⟨_, _, rfl⟩
    · exact ⟨_, _, rfl⟩
theorem take_one {α : Type} {l : List α} {i : Nat} {x : α} (h : l[i]? = some x) : l.take (i + 1) = l.take i ++ [x] := by
  rw [List.take_succ, h]
  rfl
theorem layL_one {S : Nat → D → List Int → List D} {n : Nat} {st : D} {ar : List Int} {k : Nat} : layL S n [st] ar k = S n st (ar ++ [(k : Int)]) := by
  unfold layL
  unfold layL
  rw [List.append_nil]
theorem layL_take_le {S : Nat → D → List Int → List D} {n : Nat} {b : List D} {ar : List Int} {i : Nat} {st : D} (h : b[i]? = some st) : (layL S n (b.take i) ar 0).length + (S (n + (layL S n (b.take i) ar 0).length) st (ar ++ [(i : Int)])).length ≤ (layL S n b ar 0).length := by
  have hi := (List.getElem?_eq_some_iff.mp h).1
  have e2 := layL_len (S := S) n (b.take (i + 1)) (b.drop (i + 1)) ar 0
  rw [List.take_append_drop] at e2
  rw [e2, take_one h, layL_len, layL_one, List.length_append, List.length_append, List.length_take, Nat.zero_add, Nat.min_eq_left (by omega)]
  omega
theorem ok_lay_body {k f' : Nat} {f : Addr} {fd : FuncData} (F : Fun K "lay_body" "lay_body" sLay_body f fd) (B : Free0 mg) (Z_enumerate : mg "enumerate" = none) (F_lay_if : Fn P w K mg base k "lay_if" ["steps", "statement", "path"] (spLayS "if" f')) (F_lay_while : Fn P w K mg base k "lay_while" ["steps", "statement", "path"] (spLayS "while" f')) : FnOk P w K mg base CX0 (k + 1) f fd ["steps", "body", "around"] (spLayB f') := by
  have sc : FnScope ["steps", "body", "around", "k", "statement", "path"] ["steps", "body", "around"] (defScope sLay_body) := ⟨rfl, rfl, rfl, by decide +kernel, rfl, by decide +kernel, by decide +kernel⟩
  refine F.ok sc (fun vs H Q E h => ?_) (fun cdv A outer s H vs Q E hr h => ?_)
  · obtain ⟨sl, vb, va, ss, os, body, ar, rfl, _⟩ := h
    rfl
  obtain ⟨sl, vb, va, ss, os, body, ar, rfl, hs, hO, hb, ha, hfit, hlen, har, q⟩ := h
  refine ⟨_, (pss_one (ps_for PassesOwn.never rfl (pi_enumT (by rfl) Z_enumerate (pa_c (pv 1) pa_nil)) (pg_tup rfl (pgs_cons (pg_name (i := 3) sc.nd rfl (by first | exact Or.inl rfl | exact Or.inr rfl)) (pgs_cons (pg_name (i := 4) sc.nd rfl (by first | exact Or.inl rfl | exact Or.inr rfl)) pgs_nil))) (pss_cons (ps_set (i := 5) sc.nd rfl (by first | exact Or.inl rfl | exact Or.inr rfl) (pe_op op_catTC (pv 2) (pe_tup (pa_c (pv 3) pa_nil))))
      (pss_one (ps_if (pt_cmpR op_eq (pe_ix ix_tup (pv 4) pe_int (fun _ _ => rfl)) pe_str (nomark _)) (pss_one (ps_expr (pe_fn F_lay_if hr (pa_c (pv 0) (pa_c (pv 4) (pa_c (pv 5) pa_nil))) (hk := Nat.le_refl _)))) (pss_one (ps_if (pt_cmpR op_eq (pe_ix ix_tup (pv 4) pe_int (fun _ _ => rfl)) pe_str (nomark _)) (pss_one (ps_expr (pe_fn F_lay_while hr (pa_c (pv 0) (pa_c (pv 4) (pa_c (pv 5) pa_nil))) (hk := Nat.le_refl _)))) (pss_one (ps_expr (pe_bm PySem.F.plainAttrs_list PySem.F.slot_list_append PySem.F.type_list_append mt_append (pv 0) (pa_c (pe_tup (pa_c pe_str (pa_c (pv 4) (pa_c (pv 5) pa_nil)))) pa_nil))))))))))), ?_⟩
  obtain ⟨ba, bs, rfl, eb, hbs⟩ := (show ∃ a xs, vb = .ref a ∧ H a = some (.tup xs) ∧ HeldL H body xs by unfold Held at hb; exact hb)
  obtain ⟨pa, rfl, epa⟩ := path_held ha
  have hbl := hbs.length
  refine ⟨_, rfl, ba, rfl, ⟨_, SqT.of eb⟩, ?_⟩
  refine for_enumT (xs := bs) (fun i σ G => ∃ (u3 u4 u5 : Option V) (ss' : List V), σ = [some (.ref sl), some (.ref ba), some (.ref pa), u3, u4, u5] ∧ (∀ b o, b ≠ sl → H b = some o → G b = some o) ∧ G sl = some (.lst ss') ∧ SO G (os ++ (layL (layS f') os.length (body.take i) ar 0).map some) ss') ⟨none, none, none, ss, rfl, fun b o _ e => e, hs, by rw [List.take_zero]; unfold layL; rw [List.map_nil, List.append_nil]; exact hO⟩ ?_ ?_ ?_
  · rintro i σ G _ ⟨u3, u4, u5, ss', rfl, kG, _⟩
    exact SqT.of (kG _ _ (ne_of eb hs (by intro z; cases z)) eb)
  · rintro i y σ G t hy ⟨u3, u4, u5, ss', rfl, kG, eS, hSO⟩ ht
    have hi : i < body.length := by have := (List.getElem?_eq_some_iff.mp hy).1; omega
    have hst : body[i]? = some body[i] := List.getElem?_eq_getElem hi
    have hF := hfit _ (List.getElem_mem hi)
    obtain ⟨y', hy', hyH⟩ := hbs.get hst
    rw [hy] at hy'
    cases hy'
    have htake := take_one hst
    have hle := layL_take_le (S := layS f') (n := os.length) (ar := ar) hst
    generalize body[i] = st at *
    obtain ⟨kd, r, rfl⟩ := fit_head hF
    have s1 := same_new ht (.tup [V.int i, y])
    have tkG : TK H G := fun b xs e => kG _ _ (ne_of e hs (by intro z; cases z)) e
    have e1 : upd G t (.tup [V.int i, y]) t = some (.tup [V.int i, y]) := upd_same
    have eS1 := s1 _ _ eS
    have hy1 := (tkG.held hyH).mono s1
    have hSO1 := hSO.tk (TK.same s1)
    have hpa1 := s1 _ _ (tkG _ _ epa)
    have k1 : ∀ b o, b ≠ sl → H b = some o → upd G t (.tup [V.int i, y]) b = some o := fun b o hb e => s1 _ _ (kG b o hb e)
    generalize upd G t (.tup [V.int i, y]) = G1 at *
    obtain ⟨ya, xs, rfl, eya, hr'⟩ := held_head hy1
    refine ⟨t, _, rfl, SqT.of e1, rfl, _, _, rfl, _, _, rfl, rfl, ?_⟩
    refine ⟨_, rfl, _, rfl, sm rfl, fun c hc => ?_⟩
    have s2 := same_new hc (.tup [V.int i])
    have e2 : upd G1 c (.tup [V.int i]) c = some (.tup [V.int i]) := upd_same
    generalize upd G1 c (.tup [V.int i]) = G2 at *
    refine ⟨pa, c, _, _, rfl, rfl, s2 _ _ hpa1, e2, small (by rw [List.length_map, List.length_singleton]; omega), fun pp G3 s3 epp => ?_⟩
    have s13 := s2.trans s3
    have hpp : Held G3 (pathD (ar ++ [(i : Int)])) (.ref pp) := held_path (by rw [List.map_append]; exact epp)
    have eya3 := s13 _ _ eya
    have eS3 := s13 _ _ eS1
    have hst3 := hy1.mono s13
    have hSO3 := hSO1.tk (TK.same s13)
    have k3 : ∀ b o, b ≠ sl → H b = some o → G3 b = some o := fun b o hb e => s13 _ _ (k1 b o hb e)
    have hl3 : (os ++ (layL (layS f') os.length (body.take i) ar 0).map some).length = os.length + (layL (layS f') os.length (body.take i) ar 0).length := by rw [List.length_append, List.length_map]
    clear s1 s2 s3 s13 e1 e2 eS1 hy1 hSO1 hpa1 k1 hr' eya epp
    have fin : ∀ G4 ss4, (∀ b o, b ≠ sl → G3 b = some o → G4 b = some o) → G4 sl = some (.lst ss4) → SO G4 ((os ++ (layL (layS f') os.length (body.take i) ar 0).map some) ++ (layS f' (os ++ (layL (layS f') os.length (body.take i) ar 0).map some).length (.tup (.str kd :: r)) (ar ++ [(i : Int)])).map some) ss4 → ∀ σ, σ = [some (.ref sl), some (.ref ba), some (.ref pa), some (.int i), some (.ref ya), some (.ref pp)] → ∃ (u3 u4 u5 : Option V) (ss' : List V), σ = [some (.ref sl), some (.ref ba), some (.ref pa), u3, u4, u5] ∧ (∀ b o, b ≠ sl → H b = some o → G4 b = some o) ∧ G4 sl = some (.lst ss') ∧ SO G4 (os ++ (layL (layS f') os.length (body.take (i + 1)) ar 0).map some) ss' := by
      intro G4 ss4 k4 e4 h4 σ hσ
      refine ⟨_, _, _, ss4, hσ, fun b o hb e => k4 b o hb (k3 b o hb e), e4, ?_⟩
      rw [htake, layL_len, layL_one, List.map_append, ← List.append_assoc, Nat.zero_add, List.length_take, Nat.min_eq_left (by omega)]
      rw [hl3] at h4
      exact h4
    refine ⟨_, rfl, ya, _, _, _, rfl, rfl, SqT.of eya3, at_zero, rfl, _, rfl, ite2 (fun d => ?_) (fun d => ?_)⟩
    · have hk : kd = "if" := by have := of_decide_eq_true d; injection this
      subst hk
      refine ⟨_, rfl, _, rfl, _, rfl, sl, _, _, ss', _, _, r, ar ++ [(i : Int)], rfl, rfl, eS3, hSO3, hst3, hpp, hF, by rw [hl3]; omega, by rw [List.length_append, List.length_singleton]; omega, fun G4 ss4 k4 e4 h4 => ?_⟩
      exact fin G4 ss4 k4 e4 h4 _ rfl
    · have hk1 : kd ≠ "if" := fun e => d (decide_eq_true (by rw [e]))
      refine ⟨_, rfl, ya, _, _, _, rfl, rfl, SqT.of eya3, at_zero, rfl, _, rfl, ite2 (fun d => ?_) (fun d => ?_)⟩
      · have hk : kd = "while" := by have := of_decide_eq_true d; injection this
        subst hk
        refine ⟨_, rfl, _, rfl, _, rfl, sl, _, _, ss', _, _, r, ar ++ [(i : Int)], rfl, rfl, eS3, hSO3, hst3, hpp, hF, by rw [hl3]; omega, by rw [List.length_append, List.length_singleton]; omega, fun G4 ss4 k4 e4 h4 => ?_⟩
        exact fin G4 ss4 k4 e4 h4 _ rfl
      · have hk2 : kd ≠ "while" := fun e => d (decide_eq_true (by rw [e]))
        obtain ⟨f'', rfl⟩ : ∃ f'', f' = f'' + 1 := by
          cases f' with
          | zero => exact hF.elim
          | succ f'' => exact ⟨f'', rfl⟩
        refine ⟨_, rfl, .inl ⟨rfl, _, SqL.of eS3⟩, _, rfl, _, rfl, sm rfl, fun nw hnw => ?_⟩
        have s4 := same_new hnw (.tup [V.str "do", V.ref ya, V.ref pp])
        have e4 : upd G3 nw (.tup [V.str "do", V.ref ya, V.ref pp]) nw = some (.tup [V.str "do", V.ref ya, V.ref pp]) := upd_same
        have eS4 := s4 _ _ eS3
        have hst4 := hst3.mono s4
        have hpp4 := hpp.mono s4
        have hSO4 := hSO3.tk (TK.same s4)
        have hll := hSO3.length
        generalize upd G3 nw (.tup [V.str "do", V.ref ya, V.ref pp]) = G4 at *
        refine ⟨sl, _, _, rfl, rfl, eS4, small1000 (by omega), ?_⟩
        have tk5 : TK G4 (upd G4 sl (.lst (ss' ++ [.ref nw]))) := TK.upd eS4 (fun _ z => by cases z)
        refine fin _ (ss' ++ [.ref nw]) (fun b o hb e => by rw [upd_ne hb]; exact s4 _ _ e) upd_same ?_ _ rfl
        rw [layS_do hk1 hk2]
        refine (hSO4.tk tk5).append (.tree ?_ .nil)
        exact held_tup (tk5 _ _ e4) (heldL_cons held_str (heldL_cons (tk5.held hst4) (heldL_cons (tk5.held hpp4) heldL_nil)))
  · rintro σ G ⟨u3, u4, u5, ss', rfl, kG, eS, hSO⟩
    rw [← hbl, List.take_length] at hSO
    exact q G ss' kG eS hSO
end
end LW
set_option Elab.async false
set_option linter.all false
set_option maxRecDepth 100000
set_option maxHeartbeats 2000000
namespace LW
open PySem L2
theorem set_mid {α : Type} {a b : List α} {x y : α} {n : Nat} (h : n = a.length) : (a ++ x :: b).set n y = a ++ y :: b := by
  subst h
  rw [List.set_append_right _ _ (Nat.le_refl _), Nat.sub_self]
  rfl
theorem fit_if {f : Nat} {r : List D} (h : FitS (f + 1) (.tup (.str "if" :: r))) : ∃ least b o, r = [least, .tup b, .tup o] ∧ (∀ s ∈ b, FitS f s) ∧ ∀ s ∈ o, FitS f s := by
  rcases h with ⟨k, r', e, h1, _⟩ | ⟨l, b, o, e, h1, h2⟩ | ⟨l, ks, b, e, _⟩
  · injection e with e; injection e with e1 e2; injection e1 with e1; exact absurd e1.symm h1
  · injection e with e; injection e with e1 e2; exact ⟨l, b, o, e2, h1, h2⟩
  · injection e with e; injection e with e1 e2; injection e1 with e1; exact absurd e1 (by decide)
theorem fit_while {f : Nat} {r : List D} (h : FitS (f + 1) (.tup (.str "while" :: r))) : ∃ least ks b, r = [least, .tup ks, .tup b] ∧ ∀ s ∈ b, FitS f s := by
  rcases h with ⟨k, r', e, _, h1⟩ | ⟨l, b, o, e, _⟩ | ⟨l, ks, b, e, h1⟩
  · injection e with e; injection e with e1 e2; injection e1 with e1; exact absurd e1.symm h1
  · injection e with e; injection e with e1 e2; injection e1 with e1; exact absurd e1 (by decide)
  · injection e with e; injection e with e1 e2; exact ⟨l, ks, b, e2, h1⟩
theorem held3 {H : Hp} {a b c : D} {xs : List V} (h : HeldL H [a, b, c] xs) : ∃ x y z, xs = [x, y, z] ∧ Held H a x ∧ Held H b y ∧ Held H c z := by
  unfold HeldL at h
  obtain ⟨x, r, rfl, h1, h⟩ := h
  unfold HeldL at h
  obtain ⟨y, r, rfl, h2, h⟩ := h
  unfold HeldL at h
  obtain ⟨z, r, rfl, h3, h⟩ := h
  unfold HeldL at h
  subst h
  exact ⟨x, y, z, rfl, h1, h2, h3⟩
section
variable {P : Program} {w : World} {K : PySem.W.Frag} {mg : Str → Option Value} {base : Heap}
theorem ok_lay_if {k f' : Nat} {f : Addr} {fd : FuncData} (F : Fun K "lay_if" "lay_if" sLay_if f fd) (B : Free0 mg) (hk1 : 1 ≤ k) (F_room : Fn P w K mg base 1 "room" ["steps"] spRoom) (F_lay_body : Fn P w K mg base k "lay_body" ["steps", "body", "around"] (spLayB f')) : FnOk P w K mg base CX0 (k + 1) f fd ["steps", "statement", "path"] (spLayS "if" (f' + 1)) := by
  have sc : FnScope ["steps", "statement", "path", "least", "body", "other", "ask", "go"] ["steps", "statement", "path"] (defScope sLay_if) := ⟨rfl, rfl, rfl, by decide +kernel, rfl, by decide +kernel, by decide +kernel⟩
  refine F.ok sc (fun vs H Q E h => ?_) (fun cdv A outer s H vs Q E hr h => ?_)
  · obtain ⟨sl, vb, va, ss, os, st, r, p, rfl, _⟩ := h
    rfl
  obtain ⟨sl, vb, va, ss, os, st, r, p, rfl, rfl, hs, hO, hb, ha, hF, hlen, hp, q⟩ := h
  obtain ⟨least, b, o, rfl, hfb, hfo⟩ := fit_if hF
  rw [layS_if] at hlen q
  obtain ⟨sa, xs, rfl, esa, hxs⟩ := held_head hb
  obtain ⟨vl, vb, vo, rfl, hl, hvb, hvo⟩ := held3 hxs
  obtain ⟨pa, rfl, epa⟩ := path_held ha
  refine ⟨_, (pss_cons (ps_asg (pe_slice sl_tup (pv 1) (po_some pe_int) po_none) (pg_tup rfl (pgs_cons (pg_name (i := 3) sc.nd rfl (by first | exact Or.inl rfl | exact Or.inr rfl)) (pgs_cons (pg_name (i := 4) sc.nd rfl (by first | exact Or.inl rfl | exact Or.inr rfl)) (pgs_cons (pg_name (i := 5) sc.nd rfl (by first | exact Or.inl rfl | exact Or.inr rfl)) pgs_nil)))))
      (pss_cons (ps_set (i := 6) sc.nd rfl (by first | exact Or.inl rfl | exact Or.inr rfl) (pe_fn F_room hr (pa_c (pv 0) pa_nil) (hk := hk1)))
      (pss_cons (ps_expr (pe_fn F_lay_body hr (pa_c (pv 0) (pa_c (pv 4) (pa_c (pe_op op_catTC (pv 2) (pe_tup (pa_c pe_int pa_nil))) pa_nil))) (hk := Nat.le_refl _)))
      (pss_cons (ps_set (i := 7) sc.nd rfl (by first | exact Or.inl rfl | exact Or.inr rfl) (pe_fn F_room hr (pa_c (pv 0) pa_nil) (hk := hk1)))
      (pss_cons (ps_expr (pe_fn F_lay_body hr (pa_c (pv 0) (pa_c (pv 5) (pa_c (pe_op op_catTC (pv 2) (pe_tup (pa_c pe_int pa_nil))) pa_nil))) (hk := Nat.le_refl _)))
      (pss_cons (ps_asg (pe_tup (pa_c pe_str (pa_c (pv 3) (pa_c (pe_tup pa_nil) (pa_c pe_str (pa_c (pv 2) (pa_c (pe_op op_add (pv 6) pe_int) (pa_c (pe_op op_add (pv 7) pe_int) pa_nil)))))))) (pg_sub (pv 0) (pv 6) set_list))
      (pss_one (ps_asg (pe_tup (pa_c pe_str (pa_c (pe_cB call_len_seq (by rfl) B.len_ bt_len (pa_c (pv 0) pa_nil)) pa_nil))) (pg_sub (pv 0) (pv 7) set_list))))))))), ?_⟩
  have hos := hO.length
  refine ⟨_, rfl, _, rfl, sa, _, rfl, SqT.of esa, (fun h => absurd h.1 (by show ¬ (HT.sIx 4 0 (some 1) = 0); decide)), fun t ht => ?_⟩
  rw [show cutV [V.str "if", vl, vb, vo] (some 1) none = [vl, vb, vo] from rfl]
  have s1 := same_new ht (.tup [vl, vb, vo])
  have e1 : upd H t (.tup [vl, vb, vo]) t = some (.tup [vl, vb, vo]) := upd_same
  have eS1 := s1 _ _ hs
  have hO1 := hO.tk (TK.same s1)
  have epa1 := s1 _ _ epa
  have hl1 := hl.mono s1
  have hvb1 := hvb.mono s1
  have hvo1 := hvo.mono s1
  have k1 : ∀ b o, b ≠ sl → H b = some o → upd H t (.tup [vl, vb, vo]) b = some o := fun b o _ e => s1 _ _ e
  generalize upd H t (.tup [vl, vb, vo]) = H1 at *
  clear s1
  refine ⟨t, _, rfl, SqT.of e1, rfl, _, _, rfl, _, _, rfl, _, _, rfl, rfl, ?_⟩
  clear e1
  refine ⟨_, rfl, sl, ss, rfl, eS1, by omega, ?_⟩
  have tk2 : TK H1 (upd H1 sl (.lst (ss ++ [.non]))) := TK.upd eS1 (fun _ z => by cases z)
  have eS2 : upd H1 sl (.lst (ss ++ [.non])) sl = some (.lst (ss ++ [.non])) := upd_same
  have k2 : ∀ b o, b ≠ sl → H b = some o → upd H1 sl (.lst (ss ++ [.non])) b = some o := fun b o hb e => by rw [upd_ne hb]; exact k1 b o hb e
  have hO2 := (hO1.tk tk2).append (.non .nil)
  have epa2 := tk2 _ _ epa1
  have hl2 := tk2.held hl1
  have hvb2 := tk2.held hvb1
  have hvo2 := tk2.held hvo1
  generalize upd H1 sl (.lst (ss ++ [.non])) = H2 at *
  clear tk2 eS1 hO1 epa1 hl1 hvb1 hvo1 k1
  refine ⟨_, rfl, _, rfl, _, rfl, sm rfl, fun c hc => ?_⟩
  have s3 := same_new hc (.tup [V.int 0])
  have e3 : upd H2 c (.tup [V.int 0]) c = some (.tup [V.int 0]) := upd_same
  generalize upd H2 c (.tup [V.int 0]) = H3 at *
  refine ⟨pa, c, _, _, rfl, rfl, s3 _ _ epa2, e3, small (by rw [List.length_map, List.length_singleton]; omega), fun pp H4 s4 epp => ?_⟩
  have s24 := s3.trans s4
  have hpp : Held H4 (pathD (p ++ [0])) (.ref pp) := held_path (by rw [List.map_append]; exact epp)
  have hlo : (os ++ [none]).length = os.length + 1 := by rw [List.length_append, List.length_singleton]
  have hlif : (layIf (layS f') os.length least b o p).length = 1 + (layL (layS f') (os.length + 1) b (p ++ [0]) 0).length + 1 + (layL (layS f') (os.length + 1 + (layL (layS f') (os.length + 1) b (p ++ [0]) 0).length + 1) o (p ++ [1]) 0).length := by
    unfold layIf
    rw [List.length_append, List.length_cons, List.length_cons]
    omega
  refine ⟨sl, _, _, ss ++ [.non], os ++ [none], b, p ++ [0], rfl, s24 _ _ eS2, hO2.tk (TK.same s24), hvb2.mono s24, hpp, hfb, by rw [hlo]; omega, by rw [List.length_append, List.length_singleton]; omega, fun H5 ss5 k5 eS5 hO5 => ?_⟩
  rw [hlo] at hO5
  have k5' : ∀ b o, b ≠ sl → H2 b = some o → H5 b = some o := fun b o hb e => k5 b o hb (s24 _ _ e)
  have tk5 : TK H2 H5 := fun b xs e => k5' b _ (ne_of e eS2 (by intro z; cases z)) e
  have kH5 : ∀ b o, b ≠ sl → H b = some o → H5 b = some o := fun b o hb e => k5' b o hb (k2 b o hb e)
  have epa5 := tk5 _ _ epa2
  have hl5 := tk5.held hl2
  have hvo5 := tk5.held hvo2
  clear s3 s4 s24 e3 hpp epp k5 k5' tk5 hO2 eS2 epa2 hl2 hvb2 hvo2 k2 hc
  generalize hB : layL (layS f') (os.length + 1) b (p ++ [0]) 0 = Bs at *
  have hl5n := hO5.length
  rw [List.length_append, hlo, List.length_map] at hl5n
  refine ⟨_, rfl, sl, ss5, rfl, eS5, by omega, ?_⟩
  have tk6 : TK H5 (upd H5 sl (.lst (ss5 ++ [.non]))) := TK.upd eS5 (fun _ z => by cases z)
  have eS6 : upd H5 sl (.lst (ss5 ++ [.non])) sl = some (.lst (ss5 ++ [.non])) := upd_same
  have k6 : ∀ b o, b ≠ sl → H b = some o → upd H5 sl (.lst (ss5 ++ [.non])) b = some o := fun b o hb e => by rw [upd_ne hb]; exact kH5 b o hb e
  have hO6 := (hO5.tk tk6).append (.non .nil)
  have epa6 := tk6 _ _ epa5
  have hl6 := tk6.held hl5
  have hvo6 := tk6.held hvo5
  generalize upd H5 sl (.lst (ss5 ++ [.non])) = H6 at *
  clear tk6 eS5 hO5 epa5 hl5 hvo5 kH5
  refine ⟨_, rfl, _, rfl, _, rfl, sm rfl, fun c hc => ?_⟩
  have s7 := same_new hc (.tup [V.int 1])
  have e7 : upd H6 c (.tup [V.int 1]) c = some (.tup [V.int 1]) := upd_same
  generalize upd H6 c (.tup [V.int 1]) = H7 at *
  refine ⟨pa, c, _, _, rfl, rfl, s7 _ _ epa6, e7, small (by rw [List.length_map, List.length_singleton]; omega), fun pp H8 s8 epp => ?_⟩
  have s68 := s7.trans s8
  have hpp : Held H8 (pathD (p ++ [1])) (.ref pp) := held_path (by rw [List.map_append]; exact epp)
  have hlo2 : (os ++ [none] ++ Bs.map some ++ [none]).length = os.length + 1 + Bs.length + 1 := by rw [List.length_append, List.length_append, hlo, List.length_map, List.length_singleton]
  refine ⟨sl, _, _, ss5 ++ [.non], os ++ [none] ++ Bs.map some ++ [none], o, p ++ [1], rfl, s68 _ _ eS6, hO6.tk (TK.same s68), hvo6.mono s68, hpp, hfo, by rw [hlo2]; omega, by rw [List.length_append, List.length_singleton]; omega, fun H9 ss9 k9 eS9 hO9 => ?_⟩
  rw [hlo2] at hO9
  have k9' : ∀ b o, b ≠ sl → H6 b = some o → H9 b = some o := fun b o hb e => k9 b o hb (s68 _ _ e)
  have tk9 : TK H6 H9 := fun b xs e => k9' b _ (ne_of e eS6 (by intro z; cases z)) e
  have kH9 : ∀ b o, b ≠ sl → H b = some o → H9 b = some o := fun b o hb e => k9' b o hb (k6 b o hb e)
  have epa9 := tk9 _ _ epa6
  have hl9 := tk9.held hl6
  clear s7 s8 s68 e7 hpp epp k9 k9' tk9 hO6 eS6 epa6 hl6 hvo6 k6 hc
  generalize hOs : layL (layS f') (os.length + 1 + Bs.length + 1) o (p ++ [1]) 0 = Os at *
  have hl9n := hO9.length
  rw [List.length_append, hlo2, List.length_map] at hl9n
  refine ⟨_, rfl, sm rfl, fun e he => ?_⟩
  have sa1 := same_new he (.tup [])
  have ee : upd H9 e (.tup []) e = some (.tup []) := upd_same
  generalize upd H9 e (.tup []) = G1 at *
  refine ⟨_, rfl, _, rfl, _, _, rfl, rfl, _, rfl, _, _, rfl, rfl, sm rfl, fun nw hnw => ?_⟩
  have sa2 := same_new hnw (.tup [V.str "ask", vl, .ref e, V.str "", .ref pa, V.int (ss.length + 1), V.int (ss5.length + 1)])
  have en : upd G1 nw (.tup [V.str "ask", vl, .ref e, V.str "", .ref pa, V.int (ss.length + 1), V.int (ss5.length + 1)]) nw = some (.tup [V.str "ask", vl, .ref e, V.str "", .ref pa, V.int (ss.length + 1), V.int (ss5.length + 1)]) := upd_same
  generalize upd G1 nw (.tup [V.str "ask", vl, .ref e, V.str "", .ref pa, V.int (ss.length + 1), V.int (ss5.length + 1)]) = G2 at *
  have s92 := sa1.trans sa2
  have eS2 := s92 _ _ eS9
  refine ⟨_, rfl, _, rfl, sl, _, _, ss.length, rfl, rfl, eS2, ix_nat (by omega), ?_⟩
  have hask : Held G2 (askD least (.tup []) "" p (os.length + 1) (os.length + 1 + Bs.length + 1)) (.ref nw) := by
    refine held_tup en (heldL_cons held_str (heldL_cons (hl9.mono s92) (heldL_cons (held_tup (sa2 _ _ ee) heldL_nil) (heldL_cons held_str (heldL_cons (held_path (s92 _ _ epa9)) (heldL_cons ?_ (heldL_cons ?_ heldL_nil)))))))
    · rw [hos]; exact held_int
    · rw [hl5n]; exact held_int
  have tk3 : TK G2 (upd G2 sl (.lst (ss9.set ss.length (.ref nw)))) := TK.upd eS2 (fun _ z => by cases z)
  have eS3 : upd G2 sl (.lst (ss9.set ss.length (.ref nw))) sl = some (.lst (ss9.set ss.length (.ref nw))) := upd_same
  have k3 : ∀ b o, b ≠ sl → H b = some o → upd G2 sl (.lst (ss9.set ss.length (.ref nw))) b = some o := fun b o hb z => by rw [upd_ne hb]; exact s92 _ _ (kH9 b o hb z)
  have hO3 := ((hO9.tk (TK.same s92)).tk tk3).set (tk3.held hask) ss.length
  generalize upd G2 sl (.lst (ss9.set ss.length (.ref nw))) = G3 at *
  clear sa1 sa2 s92 ee en eS2 hask tk3 hO9 eS9 kH9 hl9 epa9
  refine ⟨_, rfl, sl, _, rfl, .inl (SqL.of eS3), sm rfl, fun nw2 hnw2 => ?_⟩
  rw [List.length_set]
  have sa4 := same_new hnw2 (.tup [V.str "go", V.int ss9.length])
  have en4 : upd G3 nw2 (.tup [V.str "go", V.int ss9.length]) nw2 = some (.tup [V.str "go", V.int ss9.length]) := upd_same
  generalize upd G3 nw2 (.tup [V.str "go", V.int ss9.length]) = G4 at *
  have eS4 := sa4 _ _ eS3
  refine ⟨_, rfl, _, rfl, sl, _, _, ss5.length, rfl, rfl, eS4, ix_nat (by rw [List.length_set]; omega), ?_⟩
  have tk5 : TK G4 (upd G4 sl (.lst ((ss9.set ss.length (.ref nw)).set ss5.length (.ref nw2)))) := TK.upd eS4 (fun _ z => by cases z)
  have hgo : Held G4 (.tup [.str "go", .int ((os.length + 1 + Bs.length + 1 + Os.length : Nat) : Int)]) (.ref nw2) := held_tup en4 (heldL_cons held_str (heldL_cons (by rw [hl9n]; exact held_int) heldL_nil))
  have hO5 := ((hO3.tk (TK.same sa4)).tk tk5).set (tk5.held hgo) ss5.length
  refine q _ _ (fun b o hb z => ?_) upd_same ?_
  · rw [upd_ne hb]; exact sa4 _ _ (k3 b o hb z)
  · unfold layIf
    rw [hB]
    dsimp only
    rw [hOs]
    have e1 : os ++ [none] ++ Bs.map some ++ [none] ++ Os.map some = os ++ none :: (Bs.map some ++ none :: Os.map some) := by simp
    rw [e1, set_mid hos.symm] at hO5
    have e2 : ∀ x : Option D, os ++ x :: (Bs.map some ++ none :: Os.map some) = (os ++ x :: Bs.map some) ++ none :: Os.map some := fun x => by simp
    rw [e2, set_mid (by rw [List.length_append, List.length_cons, List.length_map]; omega)] at hO5
    rw [List.map_append, List.map_cons, List.map_cons, ← List.append_assoc]
    exact hO5
end
end LW
set_option Elab.async false
set_option linter.all false
set_option maxRecDepth 100000
set_option maxHeartbeats 2000000
namespace LW
open PySem L2
section
variable {P : Program} {w : World} {K : PySem.W.Frag} {mg : Str → Option Value} {base : Heap}
theorem ok_lay_while {k f' : Nat} {f : Addr} {fd : FuncData} (F : Fun K "lay_while" "lay_while" sLay_while f fd) (B : Free0 mg) (hk1 : 1 ≤ k) (F_room : Fn P w K mg base 1 "room" ["steps"] spRoom) (F_lay_body : Fn P w K mg base k "lay_body" ["steps", "body", "around"] (spLayB f')) : FnOk P w K mg base CX0 (k + 1) f fd ["steps", "statement", "path"] (spLayS "while" (f' + 1)) := by
  have sc : FnScope ["steps", "statement", "path", "least", "keeps", "body", "enter", "again"] ["steps", "statement", "path"] (defScope sLay_while) := ⟨rfl, rfl, rfl, by decide +kernel, rfl, by decide +kernel, by decide +kernel⟩
  refine F.ok sc (fun vs H Q E h => ?_) (fun cdv A outer s H vs Q E hr h => ?_)
  · obtain ⟨sl, vb, va, ss, os, st, r, p, rfl, _⟩ := h
    rfl
  obtain ⟨sl, vb, va, ss, os, st, r, p, rfl, rfl, hs, hO, hb, ha, hF, hlen, hp, q⟩ := h
  obtain ⟨least, ks, b, rfl, hfb⟩ := fit_while hF
  rw [layS_wh] at hlen q
  obtain ⟨sa, xs, rfl, esa, hxs⟩ := held_head hb
  obtain ⟨vl, vk, vb, rfl, hl, hvk, hvb⟩ := held3 hxs
  obtain ⟨pa, rfl, epa⟩ := path_held ha
  refine ⟨_, (pss_cons (ps_asg (pe_slice sl_tup (pv 1) (po_some pe_int) po_none) (pg_tup rfl (pgs_cons (pg_name (i := 3) sc.nd rfl (by first | exact Or.inl rfl | exact Or.inr rfl)) (pgs_cons (pg_name (i := 4) sc.nd rfl (by first | exact Or.inl rfl | exact Or.inr rfl)) (pgs_cons (pg_name (i := 5) sc.nd rfl (by first | exact Or.inl rfl | exact Or.inr rfl)) pgs_nil)))))
      (pss_cons (ps_expr (pe_bm PySem.F.plainAttrs_list PySem.F.slot_list_append PySem.F.type_list_append mt_append (pv 0) (pa_c (pe_tup (pa_c pe_str pa_nil)) pa_nil)))
      (pss_cons (ps_set (i := 6) sc.nd rfl (by first | exact Or.inl rfl | exact Or.inr rfl) (pe_fn F_room hr (pa_c (pv 0) pa_nil) (hk := hk1)))
      (pss_cons (ps_expr (pe_fn F_lay_body hr (pa_c (pv 0) (pa_c (pv 5) (pa_c (pe_op op_catTC (pv 2) (pe_tup (pa_c pe_int pa_nil))) pa_nil))) (hk := Nat.le_refl _)))
      (pss_cons (ps_set (i := 7) sc.nd rfl (by first | exact Or.inl rfl | exact Or.inr rfl) (pe_fn F_room hr (pa_c (pv 0) pa_nil) (hk := hk1)))
      (pss_cons (ps_asg (pe_tup (pa_c pe_str (pa_c (pv 3) (pa_c (pv 4) (pa_c pe_str (pa_c (pv 2) (pa_c (pe_op op_add (pv 6) pe_int) (pa_c (pe_op op_add (pv 7) pe_int) pa_nil)))))))) (pg_sub (pv 0) (pv 6) set_list))
      (pss_one (ps_asg (pe_tup (pa_c pe_str (pa_c (pv 3) (pa_c (pv 4) (pa_c pe_str (pa_c (pv 2) (pa_c (pe_op op_add (pv 6) pe_int) (pa_c (pe_op op_add (pv 7) pe_int) pa_nil)))))))) (pg_sub (pv 0) (pv 7) set_list))))))))), ?_⟩
  have hos := hO.length
  have h3 : 3 ≤ (layWh (layS f') os.length least (.tup ks) b p).length := by
    unfold layWh
    rw [List.length_append, List.length_cons, List.length_cons, List.length_singleton]
    omega
  refine ⟨_, rfl, _, rfl, sa, _, rfl, SqT.of esa, (fun h => absurd h.1 (by show ¬ (HT.sIx 4 0 (some 1) = 0); decide)), fun t ht => ?_⟩
  rw [show cutV [V.str "while", vl, vk, vb] (some 1) none = [vl, vk, vb] from rfl]
  have s1 := same_new ht (.tup [vl, vk, vb])
  have e1 : upd H t (.tup [vl, vk, vb]) t = some (.tup [vl, vk, vb]) := upd_same
  have eS1 := s1 _ _ hs
  have hO1 := hO.tk (TK.same s1)
  have epa1 := s1 _ _ epa
  have hl1 := hl.mono s1
  have hvk1 := hvk.mono s1
  have hvb1 := hvb.mono s1
  have k1 : ∀ b o, b ≠ sl → H b = some o → upd H t (.tup [vl, vk, vb]) b = some o := fun b o _ e => s1 _ _ e
  generalize upd H t (.tup [vl, vk, vb]) = H1 at *
  clear s1
  refine ⟨t, _, rfl, SqT.of e1, rfl, _, _, rfl, _, _, rfl, _, _, rfl, rfl, ?_⟩
  clear e1
  refine ⟨_, rfl, .inl ⟨rfl, _, SqL.of eS1⟩, sm rfl, fun cm hcm => ?_⟩
  have sc1 := same_new hcm (.tup [V.str "come"])
  have ecm : upd H1 cm (.tup [V.str "come"]) cm = some (.tup [V.str "come"]) := upd_same
  generalize upd H1 cm (.tup [V.str "come"]) = G1 at *
  have eSc := sc1 _ _ eS1
  refine ⟨sl, _, _, rfl, rfl, eSc, small1000 (by omega), ?_⟩
  have tkc : TK G1 (upd G1 sl (.lst (ss ++ [.ref cm]))) := TK.upd eSc (fun _ z => by cases z)
  have tkc2 : TK H1 (upd G1 sl (.lst (ss ++ [.ref cm]))) := (TK.same sc1).trans tkc
  have eS1' : upd G1 sl (.lst (ss ++ [.ref cm])) sl = some (.lst (ss ++ [.ref cm])) := upd_same
  have k1' : ∀ b o, b ≠ sl → H b = some o → upd G1 sl (.lst (ss ++ [.ref cm])) b = some o := fun b o hb e => by rw [upd_ne hb]; exact sc1 _ _ (k1 b o hb e)
  have hO1' := (hO1.tk tkc2).append (.tree (held_tup (tkc _ _ ecm) (heldL_cons (held_str (x := "come")) heldL_nil)) .nil)
  have epa1' := tkc2 _ _ epa1
  have hl1' := tkc2.held hl1
  have hvk1' := tkc2.held hvk1
  have hvb1' := tkc2.held hvb1
  generalize upd G1 sl (.lst (ss ++ [.ref cm])) = G2 at *
  clear sc1 ecm eSc tkc tkc2 eS1 hO1 epa1 hl1 hvk1 hvb1 k1
  have hls1 : (ss ++ [V.ref cm]).length = ss.length + 1 := by rw [List.length_append, List.length_singleton]
  refine ⟨_, rfl, sl, _, rfl, eS1', by rw [hls1]; omega, ?_⟩
  have tk2 : TK G2 (upd G2 sl (.lst (ss ++ [.ref cm] ++ [.non]))) := TK.upd eS1' (fun _ z => by cases z)
  have eS2 : upd G2 sl (.lst (ss ++ [.ref cm] ++ [.non])) sl = some (.lst (ss ++ [.ref cm] ++ [.non])) := upd_same
  have k2 : ∀ b o, b ≠ sl → H b = some o → upd G2 sl (.lst (ss ++ [.ref cm] ++ [.non])) b = some o := fun b o hb e => by rw [upd_ne hb]; exact k1' b o hb e
  have hO2 := (hO1'.tk tk2).append (.non .nil)
  have epa2 := tk2 _ _ epa1'
  have hl2 := tk2.held hl1'
  have hvk2 := tk2.held hvk1'
  have hvb2 := tk2.held hvb1'
  generalize upd G2 sl (.lst (ss ++ [.ref cm] ++ [.non])) = H2 at *
  clear tk2 eS1' hO1' epa1' hl1' hvk1' hvb1' k1'
  refine ⟨_, rfl, _, rfl, _, rfl, sm rfl, fun c hc => ?_⟩
  have s3 := same_new hc (.tup [V.int 0])
  have e3 : upd H2 c (.tup [V.int 0]) c = some (.tup [V.int 0]) := upd_same
  generalize upd H2 c (.tup [V.int 0]) = H3 at *
  refine ⟨pa, c, _, _, rfl, rfl, s3 _ _ epa2, e3, small (by rw [List.length_map, List.length_singleton]; omega), fun pp H4 s4 epp => ?_⟩
  have s24 := s3.trans s4
  have hpp : Held H4 (pathD (p ++ [0])) (.ref pp) := held_path (by rw [List.map_append]; exact epp)
  have hlo : (os ++ [some (D.tup [.str "come"])] ++ [none]).length = os.length + 2 := by rw [List.length_append, List.length_append, List.length_singleton, List.length_singleton]
  have hlwh : (layWh (layS f') os.length least (.tup ks) b p).length = 2 + (layL (layS f') (os.length + 2) b (p ++ [0]) 0).length + 1 := by
    unfold layWh
    rw [List.length_append, List.length_cons, List.length_cons, List.length_singleton]
    omega
  refine ⟨sl, _, _, _, os ++ [some (D.tup [.str "come"])] ++ [none], b, p ++ [0], rfl, s24 _ _ eS2, hO2.tk (TK.same s24), hvb2.mono s24, hpp, hfb, by rw [hlo]; omega, by rw [List.length_append, List.length_singleton]; omega, fun H5 ss5 k5 eS5 hO5 => ?_⟩
  rw [hlo] at hO5
  have k5' : ∀ b o, b ≠ sl → H2 b = some o → H5 b = some o := fun b o hb e => k5 b o hb (s24 _ _ e)
  have tk5 : TK H2 H5 := fun b xs e => k5' b _ (ne_of e eS2 (by intro z; cases z)) e
  have kH5 : ∀ b o, b ≠ sl → H b = some o → H5 b = some o := fun b o hb e => k5' b o hb (k2 b o hb e)
  have epa5 := tk5 _ _ epa2
  have hl5 := tk5.held hl2
  have hvk5 := tk5.held hvk2
  clear s3 s4 s24 e3 hpp epp k5 k5' tk5 hO2 eS2 epa2 hl2 hvb2 hvk2 k2 hc
  generalize hB : layL (layS f') (os.length + 2) b (p ++ [0]) 0 = Bs at *
  have hl5n := hO5.length
  rw [List.length_append, hlo, List.length_map] at hl5n
  refine ⟨_, rfl, sl, ss5, rfl, eS5, by omega, ?_⟩
  have tk6 : TK H5 (upd H5 sl (.lst (ss5 ++ [V.non]))) := TK.upd eS5 (fun _ z => by cases z)
  have eS9 : upd H5 sl (.lst (ss5 ++ [V.non])) sl = some (.lst (ss5 ++ [V.non])) := upd_same
  have kH9 : ∀ b o, b ≠ sl → H b = some o → upd H5 sl (.lst (ss5 ++ [V.non])) b = some o := fun b o hb e => by rw [upd_ne hb]; exact kH5 b o hb e
  have hO9 := (hO5.tk tk6).append (.non .nil)
  have epa9 := tk6 _ _ epa5
  have hl9 := tk6.held hl5
  have hvk9 := tk6.held hvk5
  generalize upd H5 sl (.lst (ss5 ++ [V.non])) = H9 at *
  clear tk6 eS5 hO5 epa5 hl5 hvk5 kH5
  have hl9n : (ss5 ++ [V.non]).length = ss5.length + 1 := by rw [List.length_append, List.length_singleton]
  refine ⟨_, rfl, _, rfl, _, rfl, _, rfl, _, _, rfl, rfl, _, rfl, _, _, rfl, rfl, sm rfl, fun nw hnw => ?_⟩
  rw [hls1]
  have sa2 := same_new hnw (.tup [V.str "ask", vl, vk, V.str "enter", .ref pa, V.int (((ss.length + 1 : Nat) : Int) + 1), V.int (ss5.length + 1)])
  have en : upd H9 nw (.tup [V.str "ask", vl, vk, V.str "enter", .ref pa, V.int (((ss.length + 1 : Nat) : Int) + 1), V.int (ss5.length + 1)]) nw = some (.tup [V.str "ask", vl, vk, V.str "enter", .ref pa, V.int (((ss.length + 1 : Nat) : Int) + 1), V.int (ss5.length + 1)]) := upd_same
  generalize upd H9 nw (.tup [V.str "ask", vl, vk, V.str "enter", .ref pa, V.int (((ss.length + 1 : Nat) : Int) + 1), V.int (ss5.length + 1)]) = G2 at *
  have eS2 := sa2 _ _ eS9
  refine ⟨_, rfl, _, rfl, sl, _, _, ss.length + 1, rfl, rfl, eS2, ix_nat (by rw [hl9n]; omega), ?_⟩
  have hask : Held G2 (askD least (.tup ks) "enter" p (os.length + 2) (os.length + 2 + Bs.length + 1)) (.ref nw) := by
    refine held_tup en (heldL_cons held_str (heldL_cons (hl9.mono sa2) (heldL_cons (hvk9.mono sa2) (heldL_cons held_str (heldL_cons (held_path (sa2 _ _ epa9)) (heldL_cons ?_ (heldL_cons ?_ heldL_nil)))))))
    · rw [hos]; exact held_int
    · rw [hl5n]; exact held_int
  have tk3 : TK G2 (upd G2 sl (.lst ((ss5 ++ [V.non]).set (ss.length + 1) (.ref nw)))) := TK.upd eS2 (fun _ z => by cases z)
  have eS3 : upd G2 sl (.lst ((ss5 ++ [V.non]).set (ss.length + 1) (.ref nw))) sl = some (.lst ((ss5 ++ [V.non]).set (ss.length + 1) (.ref nw))) := upd_same
  have k3 : ∀ b o, b ≠ sl → H b = some o → upd G2 sl (.lst ((ss5 ++ [V.non]).set (ss.length + 1) (.ref nw))) b = some o := fun b o hb z => by rw [upd_ne hb]; exact sa2 _ _ (kH9 b o hb z)
  have hO3 := ((hO9.tk (TK.same sa2)).tk tk3).set (tk3.held hask) (ss.length + 1)
  have tk93 := (TK.same sa2).trans tk3
  have hl3 := tk93.held hl9
  have hvk3 := tk93.held hvk9
  have epa3 := tk93 _ _ epa9
  generalize upd G2 sl (.lst ((ss5 ++ [V.non]).set (ss.length + 1) (.ref nw))) = G3 at *
  clear sa2 en eS2 hask tk3 tk93 hO9 eS9 kH9 hl9 hvk9 epa9
  refine ⟨_, rfl, _, rfl, _, rfl, _, rfl, _, _, rfl, rfl, _, rfl, _, _, rfl, rfl, sm rfl, fun nw2 hnw2 => ?_⟩
  have sa4 := same_new hnw2 (.tup [V.str "ask", vl, vk, V.str "keep", .ref pa, V.int (((ss.length + 1 : Nat) : Int) + 1), V.int (ss5.length + 1)])
  have en4 : upd G3 nw2 (.tup [V.str "ask", vl, vk, V.str "keep", .ref pa, V.int (((ss.length + 1 : Nat) : Int) + 1), V.int (ss5.length + 1)]) nw2 = some (.tup [V.str "ask", vl, vk, V.str "keep", .ref pa, V.int (((ss.length + 1 : Nat) : Int) + 1), V.int (ss5.length + 1)]) := upd_same
  generalize upd G3 nw2 (.tup [V.str "ask", vl, vk, V.str "keep", .ref pa, V.int (((ss.length + 1 : Nat) : Int) + 1), V.int (ss5.length + 1)]) = G4 at *
  have eS4 := sa4 _ _ eS3
  refine ⟨_, rfl, _, rfl, sl, _, _, ss5.length, rfl, rfl, eS4, ix_nat (by rw [List.length_set, hl9n]; omega), ?_⟩
  have tk5 : TK G4 (upd G4 sl (.lst (((ss5 ++ [V.non]).set (ss.length + 1) (.ref nw)).set ss5.length (.ref nw2)))) := TK.upd eS4 (fun _ z => by cases z)
  have hkeep : Held G4 (askD least (.tup ks) "keep" p (os.length + 2) (os.length + 2 + Bs.length + 1)) (.ref nw2) := by
    refine held_tup en4 (heldL_cons held_str (heldL_cons (hl3.mono sa4) (heldL_cons (hvk3.mono sa4) (heldL_cons held_str (heldL_cons (held_path (sa4 _ _ epa3)) (heldL_cons ?_ (heldL_cons ?_ heldL_nil)))))))
    · rw [hos]; exact held_int
    · rw [hl5n]; exact held_int
  have hO5 := ((hO3.tk (TK.same sa4)).tk tk5).set (tk5.held hkeep) ss5.length
  refine q _ _ (fun b o hb z => ?_) upd_same ?_
  · rw [upd_ne hb]; exact sa4 _ _ (k3 b o hb z)
  · unfold layWh
    rw [hB]
    dsimp only
    have e1 : os ++ [some (D.tup [.str "come"])] ++ [none] ++ Bs.map some ++ [none] = (os ++ [some (D.tup [.str "come"])]) ++ none :: (Bs.map some ++ [none]) := by simp
    have e2 : ∀ x : Option D, (os ++ [some (D.tup [.str "come"])]) ++ x :: (Bs.map some ++ [none]) = (os ++ some (D.tup [.str "come"]) :: x :: Bs.map some) ++ none :: [] := fun x => by simp
    have eD : ∀ x y : Option D, ((os ++ [some (D.tup [.str "come"])] ++ [none] ++ Bs.map some ++ [none]).set (ss.length + 1) x).set ss5.length y = (os ++ some (D.tup [.str "come"]) :: x :: Bs.map some) ++ y :: [] := fun x y => by
      rw [e1, set_mid (by rw [List.length_append, List.length_singleton]; omega), e2, set_mid (by rw [List.length_append, List.length_cons, List.length_cons, List.length_map]; omega)]
    rw [eD] at hO5
    rw [List.map_append, List.map_cons, List.map_cons, ← List.append_assoc]
    exact hO5
end
end LW
set_option Elab.async false
set_option linter.all false
set_option maxRecDepth 100000
set_option maxHeartbeats 2000000
namespace LW
open PySem L2
def spSteps (f : Nat) : Sp := fun vs H Q _ => ∃ (pr : Addr) (x0 x1 x2 x3 x4 x5 vb : V) (body : List D), vs = [.ref pr] ∧ H pr = some (.tup [x0, x1, x2, x3, x4, x5, vb]) ∧ Held H (.tup body) vb ∧ (∀ st ∈ body, FitS f st) ∧ (layL (layS f) 0 body [] 0).length ≤ 900 ∧ 2 * f ≤ 500 ∧
  ∀ sl ss H', Same H H' → H sl = none → H' sl = some (.lst ss) → HeldL H' (layL (layS f) 0 body [] 0) ss → Q (.ref sl) H'
section
variable {P : Program} {w : World} {K : PySem.W.Frag} {mg : Str → Option Value} {base : Heap}
theorem ok_steps_of {k f' : Nat} {f : Addr} {fd : FuncData} (F : Fun K "steps_of" "steps_of" sSteps_of f fd) (F_lay_body : Fn P w K mg base k "lay_body" ["steps", "body", "around"] (spLayB f')) : FnOk P w K mg base CX0 (k + 1) f fd ["proc"] (spSteps f') := by
  have sc : FnScope ["proc", "steps"] ["proc"] (defScope sSteps_of) := ⟨rfl, rfl, rfl, by decide +kernel, rfl, by decide +kernel, by decide +kernel⟩
  refine F.ok sc (fun vs H Q E h => ?_) (fun cdv A outer s H vs Q E hr h => ?_)
  · obtain ⟨pr, x0, x1, x2, x3, x4, x5, vb, body, rfl, _⟩ := h
    rfl
  obtain ⟨pr, x0, x1, x2, x3, x4, x5, vb, body, rfl, epr, hb, hf, hlen, h2, q⟩ := h
  refine ⟨_, (pss_cons (ps_set (i := 1) sc.nd rfl (by first | exact Or.inl rfl | exact Or.inr rfl) (pe_lst pa_nil))
      (pss_cons (ps_expr (pe_fn F_lay_body hr (pa_c (pv 1) (pa_c (pe_ix ix_tup (pv 0) pe_int (fun _ _ => rfl)) (pa_c (pe_tup pa_nil) pa_nil))) (hk := Nat.le_refl _)))
      (pss_one (ps_ret (pv 1))))), ?_⟩
  refine ⟨sm rfl, fun sl hsl => ?_⟩
  have s1 := same_new hsl (.lst [])
  have e1 : upd H sl (.lst []) sl = some (.lst []) := upd_same
  generalize upd H sl (.lst []) = H1 at *
  refine ⟨_, rfl, _, rfl, pr, _, _, _, rfl, rfl, SqT.of (s1 _ _ epr), rfl, sm rfl, fun e he => ?_⟩
  have s2 := same_new he (.tup [])
  have e2 : upd H1 e (.tup []) e = some (.tup []) := upd_same
  generalize upd H1 e (.tup []) = H2 at *
  refine ⟨sl, _, _, [], [], body, [], rfl, s2 _ _ e1, .nil, (hb.mono s1).mono s2, held_path e2, hf, by rw [List.length_nil, Nat.zero_add]; exact hlen, by rw [List.length_nil, Nat.zero_add]; exact h2, fun H3 ss k3 e3 h3 => ?_⟩
  exact ⟨_, rfl, q sl ss H3 (fun b o z => k3 b o (ne_of_none z hsl) (s2 _ _ (s1 _ _ z))) hsl e3 h3.heldL⟩
theorem ok_lay_if0 {f : Addr} {fd : FuncData} (F : Fun K "lay_if" "lay_if" sLay_if f fd) : FnOk P w K mg base CX0 1 f fd ["steps", "statement", "path"] (spLayS "if" 0) := by
  have sc : FnScope ["steps", "statement", "path", "least", "body", "other", "ask", "go"] ["steps", "statement", "path"] (defScope sLay_if) := ⟨rfl, rfl, rfl, by decide +kernel, rfl, by decide +kernel, by decide +kernel⟩
  refine F.ok sc (fun vs H Q E h => ?_) (fun cdv A outer s H vs Q E hr h => ?_)
  · obtain ⟨sl, vb, va, ss, os, st, r, p, rfl, _⟩ := h
    rfl
  obtain ⟨sl, vb, va, ss, os, st, r, p, rfl, rfl, hs, hO, hb, ha, hF, _⟩ := h
  exact hF.elim
theorem ok_lay_while0 {f : Addr} {fd : FuncData} (F : Fun K "lay_while" "lay_while" sLay_while f fd) : FnOk P w K mg base CX0 1 f fd ["steps", "statement", "path"] (spLayS "while" 0) := by
  have sc : FnScope ["steps", "statement", "path", "least", "keeps", "body", "enter", "again"] ["steps", "statement", "path"] (defScope sLay_while) := ⟨rfl, rfl, rfl, by decide +kernel, rfl, by decide +kernel, by decide +kernel⟩
  refine F.ok sc (fun vs H Q E h => ?_) (fun cdv A outer s H vs Q E hr h => ?_)
  · obtain ⟨sl, vb, va, ss, os, st, r, p, rfl, _⟩ := h
    rfl
  obtain ⟨sl, vb, va, ss, os, st, r, p, rfl, rfl, hs, hO, hb, ha, hF, _⟩ := h
  exact hF.elim
theorem lay_tower {f1 f2 f3 : Addr} {fd1 fd2 fd3 : FuncData} (B : Free0 mg) (Z_enumerate : mg "enumerate" = none) (U1 : Fun K "lay_body" "lay_body" sLay_body f1 fd1) (b1 : Binds K fd1 ["steps", "body", "around"] []) (m1 : mg "lay_body" = some (.ref f1))
    (U2 : Fun K "lay_if" "lay_if" sLay_if f2 fd2) (b2 : Binds K fd2 ["steps", "statement", "path"] []) (m2 : mg "lay_if" = some (.ref f2)) (U3 : Fun K "lay_while" "lay_while" sLay_while f3 fd3) (b3 : Binds K fd3 ["steps", "statement", "path"] []) (m3 : mg "lay_while" = some (.ref f3))
    (F_room : Fn P w K mg base 1 "room" ["steps"] spRoom) : ∀ n, Fn P w K mg base (2 * n + 2) "lay_body" ["steps", "body", "around"] (spLayB n)
  | 0 => Fn.mk' U1 b1 m1 (ok_lay_body U1 B Z_enumerate (Fn.mk' U2 b2 m2 (ok_lay_if0 U2)) (Fn.mk' U3 b3 m3 (ok_lay_while0 U3)))
  | n + 1 => Fn.mk' U1 b1 m1 (ok_lay_body U1 B Z_enumerate (Fn.mk' U2 b2 m2 (ok_lay_if U2 B (by omega) F_room (lay_tower B Z_enumerate U1 b1 m1 U2 b2 m2 U3 b3 m3 F_room n))) (Fn.mk' U3 b3 m3 (ok_lay_while U3 B (by omega) F_room (lay_tower B Z_enumerate U1 b1 m1 U2 b2 m2 U3 b3 m3 F_room n))))
end
end LW
set_option Elab.async false
set_option linter.all false
set_option maxRecDepth 100000
set_option maxHeartbeats 2000000
namespace LW
open PySem L2
abbrev sNumber_at : Stmt := top 10
abbrev sTerm_at : Stmt := top 8
abbrev sLeast_holds : Stmt := top 12
abbrev sHolds : Stmt := top 9
abbrev sFirst_untrue : Stmt := top 32
abbrev sLook : Stmt := top 33
def spNumber_at : Sp := fun vs H Q _ => ∃ (x : Str) (m : Addr) (N : List (Str × Int)), vs = [.str x, .ref m] ∧ H m = some (.dK (nKV N)) ∧ Q (.int (numA N x)) H
def spTerm_at : Sp := fun vs H Q _ => ∃ (a : Addr) (x : Str) (m : Addr) (vn : V) (N : List (Str × Int)), vs = [.ref a, .ref m, vn] ∧ H a = some (.tup [.str "is", .str x]) ∧ H m = some (.dK (nKV N)) ∧ Q (.int (numA N x)) H
def spHolds : Sp := fun vs H Q _ => ∃ (v : V) (x y : Str) (c : Int) (m : Addr) (vn : V) (N : List (Str × Int)), vs = [v, .ref m, vn] ∧ Held H (leD x y c) v ∧ H m = some (.dK (nKV N)) ∧ ∀ H', Same H H' → Q (.bl (leT N x y c)) H'
section
variable {P : Program} {w : World} {K : PySem.W.Frag} {mg : Str → Option Value} {base : Heap}
theorem ok_number_at {f : Addr} {fd : FuncData} (F : Fun K "number_at" "number_at" sNumber_at f fd) : FnOk P w K mg base CX0 1 f fd ["x", "numbers"] spNumber_at := by
  have sc : FnScope ["x", "numbers"] ["x", "numbers"] (defScope sNumber_at) := ⟨rfl, rfl, rfl, by decide +kernel, rfl, by decide +kernel, by decide +kernel⟩
  refine F.ok sc (fun vs H Q E h => ?_) (fun cdv A outer s H vs Q E hr h => ?_)
  · obtain ⟨x, m, N, rfl, _⟩ := h
    rfl
  obtain ⟨x, m, N, rfl, hm, q⟩ := h
  have hu := hu_of hr
  refine ⟨_, (pss_cons (ps_if (pt_cmpR op_eq (pv 0) pe_str (nomark _)) (pss_one (ps_ret pe_int)) pss_nil)
      (pss_one (ps_ret (pe_dget2 hu (pv 1) (pv 0) pe_int ⟨rfl, rfl, rfl, rfl⟩)))), ?_⟩
  unfold numA at q
  refine ⟨_, rfl, rfl, _, rfl, ite2 (fun c => ?_) (fun c => ?_)⟩
  · have c' : x = "" := by
      have := of_decide_eq_true c
      injection this
    rw [if_pos c'] at q
    exact q
  · rw [if_neg (fun e => c (decide_eq_true (congrArg V.str e)))] at q
    refine ⟨_, rfl, m, rfl, .inl ⟨_, .inl hm⟩, _, rfl, _, DGet.k (k := Sum.inr x) hm, ?_⟩
    rw [nkv_val]
    cases e : lkA N x with
    | none => rw [e] at q; exact q
    | some z => rw [e] at q; exact q
theorem ok_term_at {f : Addr} {fd : FuncData} (F : Fun K "term_at" "term_at" sTerm_at f fd) (F_number_at : Fn P w K mg base 1 "number_at" ["x", "numbers"] spNumber_at) : FnOk P w K mg base CX0 2 f fd ["term", "numbers", "rows"] spTerm_at := by
  have sc : FnScope ["term", "numbers", "rows"] ["term", "numbers", "rows"] (defScope sTerm_at) := ⟨rfl, rfl, rfl, by decide +kernel, rfl, by decide +kernel, by decide +kernel⟩
  refine F.ok sc (fun vs H Q E h => ?_) (fun cdv A outer s H vs Q E hr h => ?_)
  · obtain ⟨a, x, m, vn, N, rfl, _⟩ := h
    rfl
  obtain ⟨a, x, m, vn, N, rfl, ha, hm, q⟩ := h
  refine ⟨_, (pss_cons (ps_if (pt_cmpR op_eq (pe_ix ix_tup (pv 0) pe_int (fun _ _ => rfl)) pe_str (nomark _)) (pss_one (ps_ret (pe_fn F_number_at hr (pa_c (pe_ix ix_tup (pv 0) pe_int (fun _ _ => rfl)) (pa_c (pv 1) pa_nil))))) pss_nil)
      (pss_one (ps_ret pe_never))), ?_⟩
  refine ⟨_, rfl, a, _, _, _, rfl, rfl, SqT.of ha, rfl, rfl, _, rfl, ?_⟩
  rw [decide_eq_true rfl]
  refine iteT ?_
  exact ⟨_, rfl, a, _, _, _, rfl, rfl, SqT.of ha, rfl, _, rfl, x, m, N, rfl, hm, q⟩
theorem ok_least_holds {f : Addr} {fd : FuncData} (F : Fun K "least_holds" "least_holds" sLeast_holds f fd) (F_term_at : Fn P w K mg base 2 "term_at" ["term", "numbers", "rows"] spTerm_at) : FnOk P w K mg base CX0 3 f fd ["claim", "numbers", "rows"] spHolds := by
  have sc : FnScope ["claim", "numbers", "rows", "a", "b", "c"] ["claim", "numbers", "rows"] (defScope sLeast_holds) := ⟨rfl, rfl, rfl, by decide +kernel, rfl, by decide +kernel, by decide +kernel⟩
  refine F.ok sc (fun vs H Q E h => ?_) (fun cdv A outer s H vs Q E hr h => ?_)
  · obtain ⟨v, x, y, c, m, vn, N, rfl, _⟩ := h
    rfl
  obtain ⟨v, x, y, c, m, vn, N, rfl, hv, hm, q⟩ := h
  obtain ⟨a, b, d, rfl, ha, hb, hd⟩ := le_inv hv
  refine ⟨_, (pss_cons (ps_asg (pe_slice sl_tup (pv 0) (po_some pe_int) po_none) (pg_tup rfl (pgs_cons (pg_name (i := 3) sc.nd rfl (by first | exact Or.inl rfl | exact Or.inr rfl)) (pgs_cons (pg_name (i := 4) sc.nd rfl (by first | exact Or.inl rfl | exact Or.inr rfl)) (pgs_cons (pg_name (i := 5) sc.nd rfl (by first | exact Or.inl rfl | exact Or.inr rfl)) pgs_nil)))))
      (pss_one (ps_ret (pe_cmpR op_ge (pe_fn F_term_at hr (pa_c (pv 3) (pa_c (pv 1) (pa_c (pv 2) pa_nil)))) (pe_op op_add (pe_fn F_term_at hr (pa_c (pv 4) (pa_c (pv 1) (pa_c (pv 2) pa_nil)))) (pv 5)) (nomark _))))), ?_⟩
  refine ⟨_, rfl, _, rfl, a, _, rfl, SqT.of ha, (fun h => absurd h.1 (by show ¬ (HT.sIx 4 0 (some 1) = 0); decide)), fun t ht => ?_⟩
  rw [show cutV [V.str "least", V.ref b, V.ref d, V.int c] (some 1) none = [V.ref b, V.ref d, V.int c] from rfl]
  have s1 := same_new ht (.tup [V.ref b, V.ref d, V.int c])
  have e1 : upd H t (.tup [V.ref b, V.ref d, V.int c]) t = some (.tup [V.ref b, V.ref d, V.int c]) := upd_same
  generalize upd H t (.tup [V.ref b, V.ref d, V.int c]) = H1 at *
  refine ⟨t, _, rfl, SqT.of e1, rfl, _, _, rfl, _, _, rfl, _, _, rfl, rfl, ?_⟩
  refine ⟨_, rfl, _, rfl, _, rfl, b, x, m, vn, N, rfl, s1 _ _ hb, s1 _ _ hm, ?_⟩
  refine ⟨_, rfl, _, rfl, _, rfl, d, y, m, vn, N, rfl, s1 _ _ hd, s1 _ _ hm, _, rfl, _, _, rfl, rfl, _, _, rfl, rfl, ?_⟩
  exact q H1 s1
theorem ok_holds {f : Addr} {fd : FuncData} (F : Fun K "holds" "holds" sHolds f fd) (F_least_holds : Fn P w K mg base 3 "least_holds" ["claim", "numbers", "rows"] spHolds) : FnOk P w K mg base CX0 4 f fd ["claim", "numbers", "rows"] spHolds := by
  have sc : FnScope ["claim", "numbers", "rows"] ["claim", "numbers", "rows"] (defScope sHolds) := ⟨rfl, rfl, rfl, by decide +kernel, rfl, by decide +kernel, by decide +kernel⟩
  refine F.ok sc (fun vs H Q E h => ?_) (fun cdv A outer s H vs Q E hr h => ?_)
  · obtain ⟨v, x, y, c, m, vn, N, rfl, _⟩ := h
    rfl
  obtain ⟨v, x, y, c, m, vn, N, rfl, hv, hm, q⟩ := h
  obtain ⟨a, b, d, rfl, ha, hb, hd⟩ := le_inv hv
  refine ⟨_, (pss_cons (ps_if (pt_cmpR op_eq (pe_ix ix_tup (pv 0) pe_int (fun _ _ => rfl)) pe_str (nomark _)) (pss_one (ps_ret (pe_fn F_least_holds hr (pa_c (pv 0) (pa_c (pv 1) (pa_c (pv 2) pa_nil)))))) pss_nil)
      (pss_cons (ps_if (pt_cmpR op_eq (pe_ix ix_tup (pv 0) pe_int (fun _ _ => rfl)) pe_str (nomark _)) (pss_one (ps_ret pe_never)) pss_nil)
      (pss_one (ps_ret pe_never)))), ?_⟩
  refine ⟨_, rfl, a, _, _, _, rfl, rfl, SqT.of ha, rfl, rfl, _, rfl, ?_⟩
  rw [decide_eq_true rfl]
  refine iteT ?_
  exact ⟨_, rfl, _, rfl, _, rfl, _, x, y, c, m, vn, N, rfl, hv, hm, q⟩
end
end LW
set_option Elab.async false
set_option linter.all false
set_option maxRecDepth 100000
set_option maxHeartbeats 2000000
namespace LW
open PySem L2
abbrev sAsk : Stmt := top 36
abbrev sDo : Stmt := top 37
structure ClsF (K : PySem.W.Frag) (C : Addr) : Prop where
  c : Cls K C
  n1 : NoAttr K C "proc"
  n2 : NoAttr K C "called_by"
  n3 : NoAttr K C "numbers"
  n4 : NoAttr K C "rows"
  n5 : NoAttr K C "at"
def frFs (pr : Addr) (cb : V) (nm rw : Addr) (i : Nat) : List (Str × V) := [("proc", .ref pr), ("called_by", cb), ("numbers", .ref nm), ("rows", .ref rw), ("at", .int i)]
abbrev Lc := Str × Str × Int
def lcD (c : Lc) : D := leD c.1 c.2.1 c.2.2
def lcT (N : List (Str × Int)) (c : Lc) : Bool := leT N c.1 c.2.1 c.2.2
def untrueAt (N : List (Str × Int)) (cs : List Lc) : Option Nat := cs.findIdx? fun c => !lcT N c
def optV : Option Nat → V
  | none => .non
  | some k => .int k
def spFirst (C : Addr) : Sp := fun vs H Q _ => ∃ (vc : V) (cs : List Lc) (fa dx pr nm rw : Addr) (cb : V) (i : Nat) (N : List (Str × Int)), vs = [vc, .ref fa] ∧ Held H (.tup (cs.map lcD)) vc ∧ H fa = some (.ins C dx (frFs pr cb nm rw i)) ∧ H nm = some (.dK (nKV N)) ∧ ∀ H', Same H H' → Q (optV (untrueAt N cs)) H'
def spLook (C : Addr) : Sp := fun vs H Q _ => ∃ (vf vk vp vc : V) (cs : List Lc) (fa dx pr nm rw : Addr) (cb : V) (i : Nat) (N : List (Str × Int)), vs = [vf, vk, vp, vc, .ref fa] ∧ Held H (.tup (cs.map lcD)) vc ∧ H fa = some (.ins C dx (frFs pr cb nm rw i)) ∧ H nm = some (.dK (nKV N)) ∧
  (untrueAt N cs = none → ∀ H', Same H H' → Q .non H') ∧ ∀ k, untrueAt N cs = some k → ∀ t H', Same H H' → H' t = some (.tup [.str "untrue", vf, vk, vp, .int k]) → Q (.ref t) H'
section
variable {P : Program} {w : World} {K : PySem.W.Frag} {mg : Str → Option Value} {base : Heap}
theorem ok_first_untrue {C : Addr} {f : Addr} {fd : FuncData} (T : ClsF K C) (Z_enumerate : mg "enumerate" = none) (F : Fun K "first_untrue" "first_untrue" sFirst_untrue f fd) (F_holds : Fn P w K mg base 4 "holds" ["claim", "numbers", "rows"] spHolds) : FnOk P w K mg base CX0 5 f fd ["claims", "frame"] (spFirst C) := by
  have sc : FnScope ["claims", "frame", "k", "claim"] ["claims", "frame"] (defScope sFirst_untrue) := ⟨rfl, rfl, rfl, by decide +kernel, rfl, by decide +kernel, by decide +kernel⟩
  refine F.ok sc (fun vs H Q E h => ?_) (fun cdv A outer s H vs Q E hr h => ?_)
  · obtain ⟨vc, cs, fa, dx, pr, nm, rw, cb, i, N, rfl, _⟩ := h
    rfl
  obtain ⟨vc, cs, fa, dx, pr, nm, rw, cb, i, N, rfl, hc, hf, hn, q⟩ := h
  obtain ⟨ca, xs, rfl, eca, hxs⟩ := held_tup_inv hc
  have hl := hxs.length
  rw [List.length_map] at hl
  refine ⟨_, (pss_cons (ps_for PassesOwn.never rfl (pi_enumT (by rfl) Z_enumerate (pa_c (pv 0) pa_nil)) (pg_tup rfl (pgs_cons (pg_name (i := 2) sc.nd rfl (by first | exact Or.inl rfl | exact Or.inr rfl)) (pgs_cons (pg_name (i := 3) sc.nd rfl (by first | exact Or.inl rfl | exact Or.inr rfl)) pgs_nil))) (pss_one (ps_if (pt_not (pt_val (pe_fn F_holds hr (pa_c (pv 3) (pa_c (pe_fld (pv 1) rfl) (pa_c (pe_fld (pv 1) rfl) pa_nil)))))) (pss_one (ps_ret (pv 2))) pss_nil)))
      (pss_one (ps_ret pe_non))), ?_⟩
  refine ⟨_, rfl, ca, rfl, ⟨_, SqT.of eca⟩, ?_⟩
  refine for_enumT (xs := xs) (fun j σ G => ∃ u2 u3, σ = [some (.ref ca), some (.ref fa), u2, u3] ∧ Same H G ∧ ∀ j' c, j' < j → cs[j']? = some c → lcT N c = true) ⟨none, none, rfl, Same.refl _, fun j' c h => absurd h (Nat.not_lt_zero _)⟩ ?_ ?_ ?_
  · rintro j σ G _ ⟨u2, u3, rfl, sG, _⟩
    exact SqT.of (sG _ _ eca)
  · rintro j y σ G t hy ⟨u2, u3, rfl, sG, hall⟩ ht
    have hj : j < cs.length := by have := (List.getElem?_eq_some_iff.mp hy).1; omega
    have hcj : cs[j]? = some cs[j] := List.getElem?_eq_getElem hj
    obtain ⟨y', hy', hyH⟩ := hxs.get (show (cs.map lcD)[j]? = some (lcD cs[j]) by rw [List.getElem?_map, hcj]; rfl)
    rw [hy] at hy'
    cases hy'
    have s1 := same_new ht (.tup [V.int j, y])
    have e1 : upd G t (.tup [V.int j, y]) t = some (.tup [V.int j, y]) := upd_same
    have sG1 := sG.trans s1
    generalize upd G t (.tup [V.int j, y]) = G1 at *
    refine ⟨t, _, rfl, SqT.of e1, rfl, _, _, rfl, _, _, rfl, rfl, ?_⟩
    have hf1 := sG1 _ _ hf
    refine ⟨_, rfl, _, rfl, fa, C, dx, _, _, rfl, hf1, T.c, T.n3, rfl, _, rfl, fa, C, dx, _, _, rfl, hf1, T.c, T.n4, rfl, ?_⟩
    refine ⟨y, cs[j].1, cs[j].2.1, cs[j].2.2, nm, .ref rw, N, rfl, hyH.mono sG1, sG1 _ _ hn, fun G2 s2 => ⟨_, rfl, ?_⟩⟩
    refine ite2 (fun d => ?_) (fun d => ?_)
    · have hfalse : lcT N cs[j] = false := by
        have : (!leT N cs[j].1 cs[j].2.1 cs[j].2.2) = true := d
        show leT _ _ _ _ = false
        simpa using this
      have hfi : untrueAt N cs = some j := by
        unfold untrueAt
        rw [List.findIdx?_eq_some_iff_getElem]
        refine ⟨hj, by rw [hfalse]; rfl, fun j' hj' => ?_⟩
        rw [hall j' cs[j'] hj' (List.getElem?_eq_getElem (by omega))]
        simp
      refine ⟨_, rfl, ?_⟩
      have := q G2 (sG1.trans s2)
      rw [hfi] at this
      exact this
    · have htrue : lcT N cs[j] = true := by
        have : ¬ (!leT N cs[j].1 cs[j].2.1 cs[j].2.2) = true := d
        show leT _ _ _ _ = true
        simpa using this
      refine ⟨_, _, rfl, sG1.trans s2, fun j' c h1 h2 => ?_⟩
      rcases Nat.lt_or_ge j' j with g | g
      · exact hall j' c g h2
      · have : j' = j := by omega
        subst this
        rw [hcj] at h2
        cases h2
        exact htrue
  · rintro σ G ⟨u2, u3, rfl, sG, hall⟩
    have hfi : untrueAt N cs = none := by
      unfold untrueAt
      rw [List.findIdx?_eq_none_iff]
      intro c hc
      obtain ⟨j, hj⟩ := List.mem_iff_getElem?.mp hc
      rw [hall j c (by have := (List.getElem?_eq_some_iff.mp hj).1; omega) hj]
      rfl
    have := q G sG
    rw [hfi] at this
    exact this
theorem ok_look {C : Addr} {f : Addr} {fd : FuncData} (F : Fun K "look" "look" sLook f fd) (F_first_untrue : Fn P w K mg base 5 "first_untrue" ["claims", "frame"] (spFirst C)) : FnOk P w K mg base CX0 6 f fd ["f", "kind", "path", "claims", "frame"] (spLook C) := by
  have sc : FnScope ["f", "kind", "path", "claims", "frame", "k"] ["f", "kind", "path", "claims", "frame"] (defScope sLook) := ⟨rfl, rfl, rfl, by decide +kernel, rfl, by decide +kernel, by decide +kernel⟩
  refine F.ok sc (fun vs H Q E h => ?_) (fun cdv A outer s H vs Q E hr h => ?_)
  · obtain ⟨vf, vk, vp, vc, cs, fa, dx, pr, nm, rw, cb, i, N, rfl, _⟩ := h
    rfl
  obtain ⟨vf, vk, vp, vc, cs, fa, dx, pr, nm, rw, cb, i, N, rfl, hc, hf, hn, q1, q2⟩ := h
  refine ⟨_, (pss_cons (ps_set (i := 5) sc.nd rfl (by first | exact Or.inl rfl | exact Or.inr rfl) (pe_fn F_first_untrue hr (pa_c (pv 3) (pa_c (pv 4) pa_nil))))
      (pss_cons (ps_if (pt_cmpR op_isN (pv 5) pe_non (nomark _)) (pss_one (ps_ret pe_non)) pss_nil)
      (pss_one (ps_ret (pe_tup (pa_c pe_str (pa_c (pv 0) (pa_c (pv 1) (pa_c (pv 2) (pa_c (pv 5) pa_nil)))))))))), ?_⟩
  refine ⟨_, rfl, _, rfl, vc, cs, fa, dx, pr, nm, rw, cb, i, N, rfl, hc, hf, hn, fun G sG => ?_⟩
  cases hu : untrueAt N cs with
  | none =>
    refine ⟨_, rfl, rfl, _, rfl, ite2 (fun d => ?_) (fun d => absurd (decide_eq_true (show optV none = V.non from rfl)) d)⟩
    exact q1 hu G sG
  | some k =>
    refine ⟨_, rfl, rfl, _, rfl, ite2 (fun d => ?_) (fun d => ?_)⟩
    · have := of_decide_eq_true d
      cases this
    · exact ⟨_, rfl, _, rfl, _, rfl, _, rfl, sm rfl, fun t ht => q2 k hu t _ (sG.trans (same_new ht _)) upd_same⟩
end
end LW
set_option Elab.async false
set_option linter.all false
set_option maxRecDepth 100000
set_option maxHeartbeats 2000000
namespace LW
open PySem L2
theorem putF_at {pr nm rw : Addr} {cb : V} {i j : Nat} : putF "at" (.int j) (frFs pr cb nm rw i) = frFs pr cb nm rw j := by
  unfold frFs
  simp only [putF]
  rw [if_neg (by decide), if_neg (by decide), if_neg (by decide), if_neg (by decide)]
  rfl
def spAsk (C : Addr) : Sp := fun vs H Q _ => ∃ (fa dx pr nm rw : Addr) (cb : V) (i : Nat) (N : List (Str × Int)) (p0 p1 p2 p3 p4 p5 p6 : V) (st : Addr) (vl vk vp : V) (kd : Str) (le : Lc) (cs : List Lc) (yes no : Nat), vs = [.ref fa, .ref st] ∧ H fa = some (.ins C dx (frFs pr cb nm rw i)) ∧ H nm = some (.dK (nKV N)) ∧ H pr = some (.tup [p0, p1, p2, p3, p4, p5, p6]) ∧
  H st = some (.tup [.str "ask", vl, vk, .str kd, vp, .int yes, .int no]) ∧ Held H (lcD le) vl ∧ Held H (.tup (cs.map lcD)) vk ∧
  (untrueAt N cs = none → ∀ H', (∀ b o, b ≠ fa → H b = some o → H' b = some o) → H' fa = some (.ins C dx (frFs pr cb nm rw (if lcT N le = true then yes else no))) → Q .non H') ∧
  ∀ k, untrueAt N cs = some k → ∀ t H', Same H H' → H' t = some (.tup [.str "untrue", p1, .str kd, vp, .int k]) → Q (.ref t) H'
def spDo (C : Addr) : Sp := fun vs H Q _ => ∃ (vc vp : V) (fa dx pr nm rw : Addr) (cb : V) (i : Nat) (N : List (Str × Int)) (st va : Addr) (x y : Str) (c : Int), vs = [vc, .ref fa, .ref st, vp] ∧ H fa = some (.ins C dx (frFs pr cb nm rw i)) ∧ H nm = some (.dK (nKV N)) ∧ N.length ≤ 900 ∧
  H st = some (.tup [.str "set", .str x, .ref va, .int c]) ∧ H va = some (.tup [.str "is", .str y]) ∧ ∀ H', (∀ b o, b ≠ nm → H b = some o → H' b = some o) → H' nm = some (.dK (nKV (putA N x (numA N y + c)))) → Q .non H'
section
variable {P : Program} {w : World} {K : PySem.W.Frag} {mg : Str → Option Value} {base : Heap}
theorem ok_ask {C : Addr} {f : Addr} {fd : FuncData} (T : ClsF K C) (F : Fun K "ask" "ask" sAsk f fd) (F_look : Fn P w K mg base 6 "look" ["f", "kind", "path", "claims", "frame"] (spLook C)) (F_holds : Fn P w K mg base 4 "holds" ["claim", "numbers", "rows"] spHolds) : FnOk P w K mg base CX0 7 f fd ["frame", "step"] (spAsk C) := by
  have sc : FnScope ["frame", "step", "least", "claims", "kind", "path", "yes", "no", "end"] ["frame", "step"] (defScope sAsk) := ⟨rfl, rfl, rfl, by decide +kernel, rfl, by decide +kernel, by decide +kernel⟩
  refine F.ok sc (fun vs H Q E h => ?_) (fun cdv A outer s H vs Q E hr h => ?_)
  · obtain ⟨fa, dx, pr, nm, rw, cb, i, N, p0, p1, p2, p3, p4, p5, p6, st, vl, vk, vp, kd, le, cs, yes, no, rfl, _⟩ := h
    rfl
  obtain ⟨fa, dx, pr, nm, rw, cb, i, N, p0, p1, p2, p3, p4, p5, p6, st, vl, vk, vp, kd, le, cs, yes, no, rfl, hf, hn, hpr, hst, hl, hk, q1, q2⟩ := h
  refine ⟨_, (pss_cons (ps_asg (pe_slice sl_tup (pv 1) (po_some pe_int) po_none) (pg_tup rfl (pgs_cons (pg_name (i := 2) sc.nd rfl (by first | exact Or.inl rfl | exact Or.inr rfl)) (pgs_cons (pg_name (i := 3) sc.nd rfl (by first | exact Or.inl rfl | exact Or.inr rfl)) (pgs_cons (pg_name (i := 4) sc.nd rfl (by first | exact Or.inl rfl | exact Or.inr rfl)) (pgs_cons (pg_name (i := 5) sc.nd rfl (by first | exact Or.inl rfl | exact Or.inr rfl)) (pgs_cons (pg_name (i := 6) sc.nd rfl (by first | exact Or.inl rfl | exact Or.inr rfl)) (pgs_cons (pg_name (i := 7) sc.nd rfl (by first | exact Or.inl rfl | exact Or.inr rfl)) pgs_nil))))))))
      (pss_cons (ps_set (i := 8) sc.nd rfl (by first | exact Or.inl rfl | exact Or.inr rfl) (pe_fn F_look hr (pa_c (pe_ix ix_tup (pe_fld (pv 0) rfl) pe_int (fun _ _ => rfl)) (pa_c (pv 4) (pa_c (pv 5) (pa_c (pv 3) (pa_c (pv 0) pa_nil)))))))
      (pss_cons (ps_if (pt_cmpR op_notN (pv 8) pe_non (nomark _)) (pss_one (ps_ret (pv 8))) pss_nil)
      (pss_cons (ps_fld (pv 0) (pv 7) rfl)
      (pss_cons (ps_if (pt_val (pe_fn F_holds hr (pa_c (pv 2) (pa_c (pe_fld (pv 0) rfl) (pa_c (pe_fld (pv 0) rfl) pa_nil))))) (pss_one (ps_fld (pv 0) (pv 6) rfl)) pss_nil)
      (pss_one (ps_ret pe_non))))))), ?_⟩
  refine ⟨_, rfl, _, rfl, st, _, rfl, SqT.of hst, (fun h => absurd h.1 (by show ¬ (HT.sIx 7 0 (some 1) = 0); decide)), fun t ht => ?_⟩
  rw [show cutV [V.str "ask", vl, vk, V.str kd, vp, V.int yes, V.int no] (some 1) none = [vl, vk, V.str kd, vp, V.int yes, V.int no] from rfl]
  have s1 := same_new ht (.tup [vl, vk, V.str kd, vp, V.int yes, V.int no])
  have e1 : upd H t (.tup [vl, vk, V.str kd, vp, V.int yes, V.int no]) t = some (.tup [vl, vk, V.str kd, vp, V.int yes, V.int no]) := upd_same
  generalize upd H t (.tup [vl, vk, V.str kd, vp, V.int yes, V.int no]) = H1 at *
  refine ⟨t, _, rfl, SqT.of e1, rfl, _, _, rfl, _, _, rfl, _, _, rfl, _, _, rfl, _, _, rfl, _, _, rfl, rfl, ?_⟩
  refine ⟨_, rfl, fa, C, dx, _, _, rfl, s1 _ _ hf, T.c, T.n1, rfl, pr, _, _, _, rfl, rfl, SqT.of (s1 _ _ hpr), rfl, _, rfl, _, rfl, _, rfl, _, rfl, ?_⟩
  refine ⟨p1, .str kd, vp, vk, cs, fa, dx, pr, nm, rw, cb, i, N, rfl, hk.mono s1, s1 _ _ hf, s1 _ _ hn, fun hu G sG => ?_, fun k hu t2 G sG ht2 => ?_⟩
  · have sHG := s1.trans sG
    refine ⟨_, rfl, rfl, _, rfl, ite2 (fun d => absurd d (by show ¬ ((!decide (V.non = V.non)) = true); simp)) (fun _ => ?_)⟩
    have hfG := sHG _ _ hf
    refine ⟨_, rfl, _, rfl, fa, C, dx, _, rfl, hfG, T.c, T.n5, by show 5 < 1000; decide, ?_⟩
    rw [putF_at]
    have e2 : upd G fa (.ins C dx (frFs pr cb nm rw no)) fa = some (.ins C dx (frFs pr cb nm rw no)) := upd_same
    have k2 : ∀ b o, b ≠ fa → H b = some o → upd G fa (.ins C dx (frFs pr cb nm rw no)) b = some o := fun b o hb e => by rw [upd_ne hb]; exact sHG _ _ e
    have tk2 : TK H (upd G fa (.ins C dx (frFs pr cb nm rw no))) := fun b xs e => k2 _ _ (ne_of e hf (by intro z; cases z)) e
    have hn2 := k2 _ _ (ne_of hn hf (by intro z; cases z)) hn
    generalize upd G fa (.ins C dx (frFs pr cb nm rw no)) = G2 at *
    refine ⟨_, rfl, _, rfl, fa, C, dx, _, _, rfl, e2, T.c, T.n3, rfl, _, rfl, fa, C, dx, _, _, rfl, e2, T.c, T.n4, rfl, ?_⟩
    refine ⟨vl, le.1, le.2.1, le.2.2, nm, .ref rw, N, rfl, tk2.held hl, hn2, fun G3 s3 => ⟨_, rfl, ?_⟩⟩
    refine ite2 (fun d => ?_) (fun d => ?_)
    · refine ⟨_, rfl, _, rfl, fa, C, dx, _, rfl, s3 _ _ e2, T.c, T.n5, by show 5 < 1000; decide, ?_⟩
      rw [putF_at]
      have hd : lcT N le = true := d
      refine q1 hu _ (fun b o hb e => by rw [upd_ne hb]; exact s3 _ _ (k2 b o hb e)) ?_
      rw [if_pos hd]
      exact upd_same
    · have hd : ¬ lcT N le = true := d
      refine q1 hu _ (fun b o hb e => s3 _ _ (k2 b o hb e)) ?_
      rw [if_neg hd]
      exact s3 _ _ e2
  · refine ⟨_, rfl, rfl, _, rfl, ite2 (fun _ => ?_) (fun d => absurd (show (!decide (V.ref t2 = V.non)) = true by simp) d)⟩
    exact ⟨_, rfl, q2 k hu t2 G (s1.trans sG) ht2⟩
theorem ok_do {C : Addr} {f : Addr} {fd : FuncData} (T : ClsF K C) (F : Fun K "do" "do" sDo f fd) (F_term_at : Fn P w K mg base 2 "term_at" ["term", "numbers", "rows"] spTerm_at) : FnOk P w K mg base CX0 3 f fd ["course", "frame", "statement", "path"] (spDo C) := by
  have sc : FnScope ["course", "frame", "statement", "path", "kind", "a", "c", "value", "r", "place"] ["course", "frame", "statement", "path"] (defScope sDo) := ⟨rfl, rfl, rfl, by decide +kernel, rfl, by decide +kernel, by decide +kernel⟩
  refine F.ok sc (fun vs H Q E h => ?_) (fun cdv A outer s H vs Q E hr h => ?_)
  · obtain ⟨vc, vp, fa, dx, pr, nm, rw, cb, i, N, st, va, x, y, c, rfl, _⟩ := h
    rfl
  obtain ⟨vc, vp, fa, dx, pr, nm, rw, cb, i, N, st, va, x, y, c, rfl, hf, hn, hN, hst, hva, q⟩ := h
  have hu := hu_of hr
  refine ⟨_, (pss_cons (ps_set (i := 4) sc.nd rfl (by first | exact Or.inl rfl | exact Or.inr rfl) (pe_ix ix_tup (pv 2) pe_int (fun _ _ => rfl)))
      (pss_cons (ps_if (pt_cmpR op_eq (pv 4) pe_str (nomark _)) (pss_one (ps_ret pe_never)) pss_nil)
      (pss_cons (ps_if (pt_cmpR op_eq (pv 4) pe_str (nomark _)) (pss_one (ps_ret pe_never)) pss_nil)
      (pss_cons (ps_if (pt_cmpR op_eq (pv 4) pe_str (nomark _)) (pss_one (ps_ret pe_never)) pss_nil)
      (pss_cons (ps_asg (pe_slice sl_tup (pv 2) (po_some (pe_un un_neg pe_int)) po_none) (pg_tup rfl (pgs_cons (pg_name (i := 5) sc.nd rfl (by first | exact Or.inl rfl | exact Or.inr rfl)) (pgs_cons (pg_name (i := 6) sc.nd rfl (by first | exact Or.inl rfl | exact Or.inr rfl)) pgs_nil))))
      (pss_cons (ps_set (i := 7) sc.nd rfl (by first | exact Or.inl rfl | exact Or.inr rfl) (pe_op op_add (pe_fn F_term_at hr (pa_c (pv 5) (pa_c (pe_fld (pv 1) rfl) (pa_c (pe_fld (pv 1) rfl) pa_nil)))) (pv 6)))
      (pss_cons (ps_if (pt_cmpR op_eq (pv 4) pe_str (nomark _)) (pss_one (ps_dput hu (pe_fld (pv 1) rfl) (pe_ix ix_tup (pv 2) pe_int (fun _ _ => rfl)) (pv 7) rfl)) (pss_cons ps_never
      (pss_one ps_never)))
      (pss_one (ps_ret pe_non))))))))), ?_⟩
  refine ⟨_, rfl, st, _, _, _, rfl, rfl, SqT.of hst, rfl, ?_⟩
  refine ⟨_, rfl, rfl, _, rfl, ite2 (fun d => absurd (of_decide_eq_true d) (by decide)) (fun _ => ?_)⟩
  refine ⟨_, rfl, rfl, _, rfl, ite2 (fun d => absurd (of_decide_eq_true d) (by decide)) (fun _ => ?_)⟩
  refine ⟨_, rfl, rfl, _, rfl, ite2 (fun d => absurd (of_decide_eq_true d) (by decide)) (fun _ => ?_)⟩
  refine ⟨_, rfl, _, rfl, _, rfl, st, _, rfl, SqT.of hst, (fun h => absurd h.1 (by show ¬ (HT.sIx 4 0 (some (-2)) = 0); decide)), fun t ht => ?_⟩
  rw [show cutV [V.str "set", V.str x, V.ref va, V.int c] (some (-2)) none = [V.ref va, V.int c] from rfl]
  have s1 := same_new ht (.tup [V.ref va, V.int c])
  have e1 : upd H t (.tup [V.ref va, V.int c]) t = some (.tup [V.ref va, V.int c]) := upd_same
  generalize upd H t (.tup [V.ref va, V.int c]) = H1 at *
  refine ⟨t, _, rfl, SqT.of e1, rfl, _, _, rfl, _, _, rfl, rfl, ?_⟩
  have hf1 := s1 _ _ hf
  have hn1 := s1 _ _ hn
  refine ⟨_, rfl, _, rfl, fa, C, dx, _, _, rfl, hf1, T.c, T.n3, rfl, _, rfl, fa, C, dx, _, _, rfl, hf1, T.c, T.n4, rfl, va, y, nm, .ref rw, N, rfl, s1 _ _ hva, hn1, _, rfl, _, _, rfl, rfl, ?_⟩
  refine ⟨_, rfl, rfl, _, rfl, ite2 (fun _ => ?_) (fun d => absurd (decide_eq_true rfl) d)⟩
  refine ⟨_, rfl, _, rfl, fa, C, dx, _, _, rfl, hf1, T.c, T.n3, rfl, _, rfl, st, _, _, _, rfl, rfl, SqT.of (s1 _ _ hst), rfl, nm, _, rfl, DPut.k (k := Sum.inr x) hn1 (small1000 (by unfold nKV; rw [List.length_map]; omega)), ?_⟩
  rw [nkv_put]
  exact q _ (fun b o hb e => by rw [upd_ne hb]; exact s1 _ _ e) upd_same
end
end LW
set_option Elab.async false
set_option linter.all false
set_option maxRecDepth 100000
namespace L2
open PySem PySem.Spec PyProof.Rows
variable {X : Cx} {pos : Pos}
def tPar3 (i j l : Nat) (ta : TA) : TS := fun D σ H => ta σ H fun vs H1 => ∃ v w u, vs = [v, w, u] ∧ D.nx (((σ.set i (some v)).set j (some w)).set l (some u)) H1
theorem ps_par3 {i j l : Nat} {x y z : Str} {a b c : Expr} {ta : TA} {px py pz pt : Pos} {kt k2 pt2} (hc : X.calm = true) (hN : X.N.Nodup) (hi : X.N[i]? = some x) (hj : X.N[j]? = some y) (hl : X.N[l]? = some z) (hij : i ≠ j) (hil : i ≠ l) (hjl : j ≠ l)
    (hx : Loc X.env.scope x) (hy : Loc X.env.scope y) (hz : Loc X.env.scope z) (ha : PA X [a, b, c] ta)
    (hw : swappedStores [.Tuple [.Name x px, .Name y py, .Name z pz] kt pt] (.Tuple [a, b, c] k2 pt2) X.env = pure (some [x, y, z]))
    (fx : X.fn x = true ∨ X.env.scope.names.lookup x = some .local) (fy : X.fn y = true ∨ X.env.scope.names.lookup y = some .local) (fz : X.fn z = true ∨ X.env.scope.names.lookup z = some .local)
    (hs : swapsWithSole [.Tuple [.Name x px, .Name y py, .Name z pz] kt pt] (.Tuple [a, b, c] k2 pt2) pos.line X.env = pure false := by rfl) :
    PS X (.Assign [.Tuple [.Name x px, .Name y py, .Name z pz] kt pt] (.Tuple [a, b, c] k2 pt2) pos) (tPar3 i j l ta) := by
  intro pins s σ H D I h
  rw [exec_Assign_arm]
  refine wpAny_bind (wpAny_standAt ?_)
  rw [hs]
  refine wpAny_bind (wpAny_pure ?_)
  rw [if_neg (by decide)]
  refine wpAny_bind (Tuple_ (thn (ha _ pins s σ H _ I h) fun us s1 ⟨vs, H1, I1, r1, q1⟩ => ?_))
  obtain ⟨v, w, u, e1, q1⟩ := q1
  subst e1
  obtain ⟨u1, u2, u3, rfl, rv, rw', ru⟩ : ∃ u1 u2 u3, us = [u1, u2, u3] ∧ RelV v u1 ∧ RelV w u2 ∧ RelV u u3 := by
    cases r1 with
    | cons p q =>
      cases q with
      | cons p' q' =>
        cases q' with
        | cons p2 q2 =>
          cases q2
          exact ⟨_, _, _, rfl, p, p', p2⟩
  refine wpAny_newObj_type ?_ (by show 3 ≤ sizeLine; decide)
  have I2 : Inv X pins σ H1 { s1 with heap := s1.heap.push { cls := .type "tuple", data := .seq [u1, u2, u3].toArray } } := I1.kept (t' := s1.toks) fun b o e => Heap.get?_push_of_some _ e
  rw [hw]
  refine wpAny_bind (wpAny_pure ?_)
  show wpAny (model X.prog X.w) X.A (do rule "assign.swapped-stores"; let items ← unpackItems (.ref s1.heap.objs.size) 3 none; assignInOrder [fun v => bindName X.env z v, fun v => bindName X.env y v, fun v => bindName X.env x v] items.reverse; pure Flow.next) _ _ _
  refine wpAny_bind (wpAny_rule (wpAny_bind (unpackItems_tuple (items := #[u1, u2, u3]) (I.ok.hd hc) (IsTup.new s1.heap _) fun h' hx' => ?_)))
  have I3 := I2.kept (h' := h') (t' := s1.toks) fun b o e => hx' b o (Nat.ne_of_lt (Heap.lt_size e)) e
  show wpAny _ _ (assignInOrder [fun v => bindName X.env z v, fun v => bindName X.env y v, fun v => bindName X.env x v] [u3, u2, u1] >>= fun _ => pure Flow.next) _ _ _
  refine wpAny_bind (assignInOrder_cons (wpAny_bindName (store_ok I3 hN hl hz ru (fun s2 I4 => ?_) fz)))
  refine assignInOrder_cons (wpAny_bindName (store_ok I4 hN hj hy rw' (fun s3 I5 => ?_) fy))
  refine assignInOrder_cons (wpAny_bindName (store_ok I5 hN hi hx rv (fun s4 I6 => assignInOrder_nil (wpAny_pure ?_)) fx))
  have e : ((σ.set l (some u)).set j (some w)).set i (some v) = ((σ.set i (some v)).set j (some w)).set l (some u) := by
    rw [List.set_comm _ _ (Ne.symm hjl), List.set_comm _ _ (Ne.symm hil), List.set_comm _ _ (Ne.symm hij)]
  rw [e] at I6
  exact ⟨_, H1, I6, q1⟩
end L2
set_option Elab.async false
set_option linter.all false
set_option maxRecDepth 100000
set_option maxHeartbeats 2000000
namespace LW
open PySem L2
abbrev sCome_back : Stmt := top 34
abbrev sGone_on : Stmt := top 31
structure ClsC (K : PySem.W.Frag) (C : Addr) : Prop where
  c : Cls K C
  n1 : NoAttr K C "procs"
  n2 : NoAttr K C "steps"
  n3 : NoAttr K C "inputs"
  n4 : NoAttr K C "taken"
  n5 : NoAttr K C "most"
  n6 : NoAttr K C "used"
  n7 : NoAttr K C "frames"
def coFs (d1 d2 : Addr) (vi : V) (tk : Int) (most used : Int) (fl : Addr) : List (Str × V) := [("procs", .ref d1), ("steps", .ref d2), ("inputs", vi), ("taken", .int tk), ("most", .int most), ("used", .int used), ("frames", .ref fl)]
theorem putF_used {d1 d2 fl : Addr} {vi : V} {tk most u u' : Int} : putF "used" (.int u') (coFs d1 d2 vi tk most u fl) = coFs d1 d2 vi tk most u' fl := by
  unfold coFs
  simp only [putF]
  rw [if_neg (by decide), if_neg (by decide), if_neg (by decide), if_neg (by decide), if_neg (by decide)]
  rfl
inductive Sx where
  | go (n : Nat) | ask (le : Lc) (cs : List Lc) (kd : Str) (p : List Int) (yes no : Nat) | set (x y : Str) (c : Int) (p : List Int) | come
def Sx.toD : Sx → D
  | .go n => .tup [.str "go", .int n]
  | .ask le cs kd p yes no => askD (lcD le) (.tup (cs.map lcD)) kd p yes no
  | .set x y c p => .tup [.str "do", .tup [.str "set", .str x, .tup [.str "is", .str y], .int c], pathD p]
  | .come => .tup [.str "come"]
structure Mc where
  N : List (Str × Int)
  i : Nat
  used : Nat
inductive En where
  | done (out : Int) | spent | untrue (kd : Str) (p : List Int) (k : Nat)
def mstep (sx : List Sx) (most : Int) (m : Mc) : (En × Nat) ⊕ Mc :=
  match sx[m.i]? with
  | none => .inl (.done (numA m.N "out"), m.used)
  | some (.go n) => .inr { m with i := n }
  | some s => if (m.used : Int) = most then .inl (.spent, m.used) else match s with
    | .ask le cs kd p yes no => match untrueAt m.N cs with
      | some k => .inl (.untrue kd p k, m.used + 1)
      | none => .inr ⟨m.N, if lcT m.N le = true then yes else no, m.used + 1⟩
    | .set x y c _ => .inr ⟨putA m.N x (numA m.N y + c), m.i + 1, m.used + 1⟩
    | _ => .inr ⟨m.N, m.i + 1, m.used + 1⟩
def EndAt (H : Hp) (fn : Str) : En → V → Prop
  | .done out, v => ∃ t hl, v = .ref t ∧ H t = some (.tup [.str "done", .int out, .ref hl]) ∧ H hl = some (.lst [])
  | .spent, v => ∃ t, v = .ref t ∧ H t = some (.tup [.str "spent"])
  | .untrue kd p k, v => ∃ t vp, v = .ref t ∧ H t = some (.tup [.str "untrue", .str fn, .str kd, vp, .int k]) ∧ Held H (pathD p) vp
structure Cst (H : Hp) (fn : Str) (pr d2 sl fl fa : Addr) (sx : List Sx) : Prop where
  pr : ∃ p0 p2 e3 p4 e5 p6, H pr = some (.tup [p0, .str fn, p2, .ref e3, p4, .ref e5, p6]) ∧ H e3 = some (.tup []) ∧ H e5 = some (.tup [])
  d2 : H d2 = some (.dK [(Sum.inr fn, .ref sl)])
  sl : ∃ ss, H sl = some (.lst ss) ∧ HeldL H (sx.map Sx.toD) ss
  fl : H fl = some (.lst [.ref fa])
structure Var (H : Hp) (CC CF co dc fa dx : Addr) (pr d1 d2 : Addr) (vi : V) (tk most : Int) (fl nm rw : Addr) (m : Mc) : Prop where
  co : H co = some (.ins CC dc (coFs d1 d2 vi tk most m.used fl))
  fa : H fa = some (.ins CF dx (frFs pr .non nm rw m.i))
  nm : H nm = some (.dK (nKV m.N))
def spBack (CC CF : Addr) : Sp := fun vs H Q _ => ∃ (fn : Str) (co dc fa dx pr d1 d2 sl fl nm rw : Addr) (vi : V) (tk most : Int) (sx : List Sx) (m : Mc), vs = [.ref co] ∧ Cst H fn pr d2 sl fl fa sx ∧ Var H CC CF co dc fa dx pr d1 d2 vi tk most fl nm rw m ∧
  ∀ v H', Same H H' → EndAt H' fn (.done (numA m.N "out")) v → Q v H'
section
variable {P : Program} {w : World} {K : PySem.W.Frag} {mg : Str → Option Value} {base : Heap}
theorem ok_come_back {CC CF : Addr} {f : Addr} {fd : FuncData} (TC : ClsC K CC) (T : ClsF K CF) (F : Fun K "come_back" "come_back" sCome_back f fd) (F_look : Fn P w K mg base 6 "look" ["f", "kind", "path", "claims", "frame"] (spLook CF)) (F_number_at : Fn P w K mg base 1 "number_at" ["x", "numbers"] spNumber_at) : FnOk P w K mg base CX0 7 f fd ["course"] (spBack CC CF) := by
  have sc : FnScope ["course", "frame", "f", "rows", "gives", "end", "out", "held"] ["course"] (defScope sCome_back) := ⟨rfl, rfl, rfl, by decide +kernel, rfl, by decide +kernel, by decide +kernel⟩
  refine F.ok sc (fun vs H Q E h => ?_) (fun cdv A outer s H vs Q E hr h => ?_)
  · obtain ⟨fn, co, dc, fa, dx, pr, d1, d2, sl, fl, nm, rw, vi, tk, most, sx, m, rfl, _⟩ := h
    rfl
  obtain ⟨fn, co, dc, fa, dx, pr, d1, d2, sl, fl, nm, rw, vi, tk, most, sx, m, rfl, hC, hV, q⟩ := h
  obtain ⟨p0, p2, e3, p4, e5, p6, hpr, he3, he5⟩ := hC.pr
  refine ⟨_, (pss_cons (ps_set (i := 1) sc.nd rfl (by first | exact Or.inl rfl | exact Or.inr rfl) (pe_ix ix_list (pe_fld (pv 0) rfl) (pe_un un_neg pe_int) (fun _ _ => rfl)))
      (pss_cons (ps_par3 (i := 2) (j := 3) (l := 4) rfl sc.nd rfl rfl rfl (by decide) (by decide) (by decide) (by first | exact Or.inl rfl | exact Or.inr rfl) (by first | exact Or.inl rfl | exact Or.inr rfl) (by first | exact Or.inl rfl | exact Or.inr rfl) (pa_c (pe_ix ix_tup (pe_fld (pv 1) rfl) pe_int (fun _ _ => rfl)) (pa_c (pe_ix ix_tup (pe_fld (pv 1) rfl) pe_int (fun _ _ => rfl)) (pa_c (pe_ix ix_tup (pe_fld (pv 1) rfl) pe_int (fun _ _ => rfl)) pa_nil))) (by rfl) (by first | exact Or.inl rfl | exact Or.inr rfl) (by first | exact Or.inl rfl | exact Or.inr rfl) (by first | exact Or.inl rfl | exact Or.inr rfl))
      (pss_cons (ps_set (i := 5) sc.nd rfl (by first | exact Or.inl rfl | exact Or.inr rfl) (pe_fn F_look hr (pa_c (pv 2) (pa_c pe_str (pa_c (pe_tup pa_nil) (pa_c (pv 4) (pa_c (pv 1) pa_nil)))))))
      (pss_cons (ps_if (pt_cmpR op_notN (pv 5) pe_non (nomark _)) (pss_one (ps_ret (pv 5))) pss_nil)
      (pss_cons (ps_set (i := 6) sc.nd rfl (by first | exact Or.inl rfl | exact Or.inr rfl) (pe_fn F_number_at hr (pa_c pe_str (pa_c (pe_fld (pv 1) rfl) pa_nil))))
      (pss_cons (ps_setcomp (i := 7) sc.nd rfl (by first | exact Or.inl rfl | exact Or.inr rfl) ["r"] [1] rfl (comp_ok (sc := defScope sCome_back) (N := ["course", "frame", "f", "rows", "gives", "end", "out", "held"]) rfl rfl (by decide +kernel)) (pi_tup (pv 3)) (fun s H ex => ⟨(pg_name (i := 0) (show List.Nodup (["r", "frame"] : List Str) by decide +kernel) rfl (by first | exact Or.inl rfl | exact Or.inr rfl)), pts_nil, pe_never⟩))
      (pss_cons (ps_if (pt_cmpR op_isN (pe_fld (pv 1) rfl) pe_non (nomark _)) (pss_one (ps_ret (pe_tup (pa_c pe_str (pa_c (pv 6) (pa_c (pv 7) pa_nil)))))) pss_nil)
      (pss_cons ps_never
      (pss_cons ps_never
      (pss_one ps_never)))))))))), ?_⟩
  refine ⟨_, rfl, co, CC, dc, _, _, rfl, hV.co, TC.c, TC.n7, rfl, _, rfl, fl, _, _, _, rfl, rfl, SqL.of hC.fl, rfl, ?_⟩
  have hfa := hV.fa
  refine ⟨_, rfl, fa, CF, dx, _, _, rfl, hfa, T.c, T.n1, rfl, pr, _, _, _, rfl, rfl, SqT.of hpr, rfl, _, rfl, fa, CF, dx, _, _, rfl, hfa, T.c, T.n1, rfl, pr, _, _, _, rfl, rfl, SqT.of hpr, rfl, _, rfl, fa, CF, dx, _, _, rfl, hfa, T.c, T.n1, rfl, pr, _, _, _, rfl, rfl, SqT.of hpr, rfl, _, _, _, rfl, ?_⟩
  refine ⟨_, rfl, sm rfl, fun e he => ?_⟩
  have s1 := same_new he (.tup [])
  generalize upd H e (.tup []) = H1 at *
  refine ⟨_, rfl, _, rfl, _, _, _, _, [], fa, dx, pr, nm, rw, .non, m.i, m.N, rfl, held_tup (s1 _ _ he5) heldL_nil, s1 _ _ hfa, s1 _ _ hV.nm, fun _ H2 s2 => ?_, fun k hk => by cases hk⟩
  have s12 := s1.trans s2
  refine ⟨_, rfl, rfl, _, rfl, ite2 (fun d => absurd d (by show ¬ ((!decide (V.non = V.non)) = true); simp)) (fun _ => ?_)⟩
  have hfa2 := s12 _ _ hfa
  refine ⟨_, rfl, fa, CF, dx, _, _, rfl, hfa2, T.c, T.n3, rfl, "out", nm, m.N, rfl, s12 _ _ hV.nm, ?_⟩
  refine ⟨_, rfl, e3, rfl, ⟨_, SqT.of (s12 _ _ he3)⟩, fun hl hhl => ?_⟩
  refine comp_tup (xs := []) (fun i σ' G => G = upd H2 hl (.lst [])) rfl ?_ ?_ ?_
  · rintro i σ' G _ rfl
    exact SqT.of (same_new hhl _ _ _ (s12 _ _ he3))
  · rintro i x σ' G hx _
    simp at hx
  rintro σ' G rfl
  have s3 := same_new hhl (.lst [])
  have e3' : upd H2 hl (.lst []) hl = some (.lst []) := upd_same
  generalize upd H2 hl (.lst []) = H3 at *
  refine ⟨_, rfl, fa, CF, dx, _, _, rfl, s3 _ _ hfa2, T.c, T.n2, rfl, rfl, _, rfl, ite2 (fun _ => ?_) (fun d => absurd (decide_eq_true rfl) d)⟩
  refine ⟨_, rfl, _, rfl, sm rfl, fun t ht => ?_⟩
  exact q _ _ ((s12.trans s3).trans (same_new ht _)) ⟨t, hl, rfl, upd_same, same_new ht _ _ _ e3'⟩
end
end LW
set_option Elab.async false
set_option linter.all false
set_option maxRecDepth 100000
set_option maxHeartbeats 2000000
namespace LW
open PySem L2
def spGo (CC CF : Addr) : Sp := fun vs H Q _ => ∃ (fn : Str) (co dc fa dx pr d1 d2 sl fl nm rw : Addr) (vi : V) (tk most : Int) (sx : List Sx) (m : Mc), vs = [.ref co] ∧ co ≠ fa ∧ Cst H fn pr d2 sl fl fa sx ∧ Var H CC CF co dc fa dx pr d1 d2 vi tk most fl nm rw m ∧ m.N.length ≤ 900 ∧ m.i ≤ sx.length ∧ sx.length ≤ 900 ∧
  (∀ e u, mstep sx most m = .inl (e, u) → ∀ v H', (∀ b o, b ≠ co → H b = some o → H' b = some o) → H' co = some (.ins CC dc (coFs d1 d2 vi tk most u fl)) → EndAt H' fn e v → Q v H') ∧
  (∀ m', mstep sx most m = .inr m' → ∀ H', (∀ b o, b ≠ co → b ≠ fa → b ≠ nm → H b = some o → H' b = some o) → Var H' CC CF co dc fa dx pr d1 d2 vi tk most fl nm rw m' → Q .non H')
theorem ask_inv {H : Hp} {le : Lc} {cs : List Lc} {kd : Str} {p : List Int} {yes no : Nat} {v : V} (h : Held H (Sx.ask le cs kd p yes no).toD v) : ∃ st vl vk pa, v = .ref st ∧ H st = some (.tup [.str "ask", vl, vk, .str kd, .ref pa, .int yes, .int no]) ∧ Held H (lcD le) vl ∧ Held H (.tup (cs.map lcD)) vk ∧ H pa = some (.tup (p.map V.int)) := by
  obtain ⟨a, xs, rfl, ha, h1⟩ := held_tup_inv h
  obtain ⟨v1, r1, rfl, e1, h2⟩ := heldL_cons_inv h1
  obtain ⟨v2, r2, rfl, e2, h3⟩ := heldL_cons_inv h2
  obtain ⟨v3, r3, rfl, e3, h4⟩ := heldL_cons_inv h3
  obtain ⟨v4, r4, rfl, e4, h5⟩ := heldL_cons_inv h4
  obtain ⟨v5, r5, rfl, e5, h6⟩ := heldL_cons_inv h5
  obtain ⟨v6, r6, rfl, e6, h7⟩ := heldL_cons_inv h6
  obtain ⟨v7, r7, rfl, e7, h8⟩ := heldL_cons_inv h7
  cases heldL_nil_inv h8
  cases held_str_inv e1
  cases held_str_inv e4
  cases held_int_inv e6
  cases held_int_inv e7
  obtain ⟨pa, rfl, hpa⟩ := path_held e5
  exact ⟨a, v2, v3, pa, rfl, ha, e2, e3, hpa⟩
theorem set_inv {H : Hp} {x y : Str} {c : Int} {p : List Int} {v : V} (h : Held H (Sx.set x y c p).toD v) : ∃ st sta va vp, v = .ref st ∧ H st = some (.tup [.str "do", .ref sta, vp]) ∧ H sta = some (.tup [.str "set", .str x, .ref va, .int c]) ∧ H va = some (.tup [.str "is", .str y]) := by
  obtain ⟨a, xs, rfl, ha, h1⟩ := held_tup_inv h
  obtain ⟨v1, r1, rfl, e1, h2⟩ := heldL_cons_inv h1
  obtain ⟨v2, r2, rfl, e2, h3⟩ := heldL_cons_inv h2
  obtain ⟨v3, r3, rfl, e3, h4⟩ := heldL_cons_inv h3
  cases heldL_nil_inv h4
  cases held_str_inv e1
  obtain ⟨b, ys, rfl, hb, g1⟩ := held_tup_inv e2
  obtain ⟨w1, q1, rfl, f1, g2⟩ := heldL_cons_inv g1
  obtain ⟨w2, q2, rfl, f2, g3⟩ := heldL_cons_inv g2
  obtain ⟨w3, q3, rfl, f3, g4⟩ := heldL_cons_inv g3
  obtain ⟨w4, q4, rfl, f4, g5⟩ := heldL_cons_inv g4
  cases heldL_nil_inv g5
  cases held_str_inv f1
  cases held_str_inv f2
  cases held_int_inv f4
  obtain ⟨va, rfl, hva⟩ := is_inv f3
  exact ⟨a, b, va, v3, rfl, ha, hb, hva⟩
section
variable {P : Program} {w : World} {K : PySem.W.Frag} {mg : Str → Option Value} {base : Heap}
theorem ok_gone_on {CC CF : Addr} {f : Addr} {fd : FuncData} (B : Free0 mg) (TC : ClsC K CC) (T : ClsF K CF) (F : Fun K "gone_on" "gone_on" sGone_on f fd) (F_come_back : Fn P w K mg base 7 "come_back" ["course"] (spBack CC CF)) (F_ask : Fn P w K mg base 7 "ask" ["frame", "step"] (spAsk CF)) (F_do : Fn P w K mg base 3 "do" ["course", "frame", "statement", "path"] (spDo CF)) : FnOk P w K mg base CX0 8 f fd ["course"] (spGo CC CF) := by
  have sc : FnScope ["course", "frame", "steps", "step"] ["course"] (defScope sGone_on) := ⟨rfl, rfl, rfl, by decide +kernel, rfl, by decide +kernel, by decide +kernel⟩
  refine F.ok sc (fun vs H Q E h => ?_) (fun cdv A outer s H vs Q E hr h => ?_)
  · obtain ⟨fn, co, dc, fa, dx, pr, d1, d2, sl, fl, nm, rw, vi, tk, most, sx, m, rfl, _⟩ := h
    rfl
  obtain ⟨fn, co, dc, fa, dx, pr, d1, d2, sl, fl, nm, rw, vi, tk, most, sx, m, rfl, ncf, hC, hV, hN, hi, hsx, q1, q2⟩ := h
  have hu := hu_of hr
  obtain ⟨p0, p2, e3, p4, e5, p6, hpr, he3, he5⟩ := hC.pr
  obtain ⟨ss, hss, hheld⟩ := hC.sl
  have hl := hheld.length
  rw [List.length_map] at hl
  have hco := hV.co
  have hfa := hV.fa
  refine ⟨_, (pss_cons (ps_set (i := 1) sc.nd rfl (by first | exact Or.inl rfl | exact Or.inr rfl) (pe_ix ix_list (pe_fld (pv 0) rfl) (pe_un un_neg pe_int) (fun _ _ => rfl)))
      (pss_cons (ps_set (i := 2) sc.nd rfl (by first | exact Or.inl rfl | exact Or.inr rfl) (pe_dget hu (pe_fld (pv 0) rfl) (pe_ix ix_tup (pe_fld (pv 1) rfl) pe_int (fun _ _ => rfl)) (fun _ _ => rfl)))
      (pss_cons (ps_if (pt_cmpR op_eq (pe_fld (pv 1) rfl) (pe_cB call_len_seq (by rfl) B.len_ bt_len (pa_c (pv 2) pa_nil)) (nomark _)) (pss_one (ps_ret (pe_fn F_come_back hr (pa_c (pv 0) pa_nil)))) pss_nil)
      (pss_cons (ps_set (i := 3) sc.nd rfl (by first | exact Or.inl rfl | exact Or.inr rfl) (pe_ix ix_list (pv 2) (pe_fld (pv 1) rfl) (fun _ _ => rfl)))
      (pss_cons (ps_if (pt_cmpR op_eq (pe_ix ix_tup (pv 3) pe_int (fun _ _ => rfl)) pe_str (nomark _)) (pss_cons (ps_fld (pv 1) (pe_ix ix_tup (pv 3) pe_int (fun _ _ => rfl)) rfl)
      (pss_one (ps_ret pe_non))) pss_nil)
      (pss_cons (ps_if (pt_cmpR op_eq (pe_fld (pv 0) rfl) (pe_fld (pv 0) rfl) (nomark _)) (pss_one (ps_ret (pe_tup (pa_c pe_str pa_nil)))) pss_nil)
      (pss_cons (ps_fldaug (pv 0) pe_int in_add)
      (pss_cons (ps_if (pt_cmpR op_eq (pe_ix ix_tup (pv 3) pe_int (fun _ _ => rfl)) pe_str (nomark _)) (pss_one (ps_ret (pe_fn F_ask hr (pa_c (pv 1) (pa_c (pv 3) pa_nil))))) pss_nil)
      (pss_cons (ps_fldaug (pv 1) pe_int in_add)
      (pss_cons (ps_if (pt_cmpR op_eq (pe_ix ix_tup (pv 3) pe_int (fun _ _ => rfl)) pe_str (nomark _)) (pss_one (ps_ret (pe_fn F_do hr (pa_c (pv 0) (pa_c (pv 1) (pa_c (pe_ix ix_tup (pv 3) pe_int (fun _ _ => rfl)) (pa_c (pe_ix ix_tup (pv 3) pe_int (fun _ _ => rfl)) pa_nil))))))) pss_nil)
      (pss_one (ps_ret pe_non)))))))))))), ?_⟩
  refine ⟨_, rfl, co, CC, dc, _, _, rfl, hco, TC.c, TC.n7, rfl, _, rfl, fl, _, _, _, rfl, rfl, SqL.of hC.fl, rfl, ?_⟩
  refine ⟨_, rfl, co, CC, dc, _, _, rfl, hco, TC.c, TC.n2, rfl, _, rfl, fa, CF, dx, _, _, rfl, hfa, T.c, T.n1, rfl, pr, _, _, _, rfl, rfl, SqT.of hpr, rfl, ?_⟩
  have hg : DGet H d2 (kV (Sum.inr fn)) (some (.ref sl)) := by
    have h := DGet.k (k := Sum.inr fn) hC.d2
    rw [show valV [((Sum.inr fn : Key), V.ref sl)] (Sum.inr fn) = some (.ref sl) by simp [valV]] at h
    exact h
  refine ⟨d2, .ref sl, rfl, hg, ?_⟩
  refine ⟨_, rfl, fa, CF, dx, _, _, rfl, hfa, T.c, T.n5, rfl, _, rfl, sl, _, rfl, .inl (SqL.of hss), rfl, _, rfl, ite2 (fun d => ?_) (fun d => ?_)⟩
  · have he : m.i = sx.length := by
      have := of_decide_eq_true d
      injection this with this
      omega
    have hms : mstep sx most m = .inl (.done (numA m.N "out"), m.used) := by
      unfold mstep
      rw [List.getElem?_eq_none (by omega)]
    exact ⟨_, rfl, fn, co, dc, fa, dx, pr, d1, d2, sl, fl, nm, rw, vi, tk, most, sx, m, rfl, hC, hV, fun v H' s' e' => q1 _ _ hms v H' (fun b o _ e => s' b o e) (s' _ _ hco) e'⟩
  · have hlt : m.i < sx.length := by
      rcases Nat.lt_or_ge m.i sx.length with g | g
      · exact g
      · exfalso
        apply d
        apply decide_eq_true
        rw [show m.i = ss.length by omega]
    have hsi : sx[m.i]? = some sx[m.i] := List.getElem?_eq_getElem hlt
    obtain ⟨v, hv, hvH⟩ := hheld.get (show (sx.map Sx.toD)[m.i]? = some (sx[m.i].toD) by rw [List.getElem?_map, hsi]; rfl)
    refine ⟨_, rfl, _, rfl, fa, CF, dx, _, _, rfl, hfa, T.c, T.n5, rfl, sl, _, _, _, rfl, rfl, SqL.of hss, atI_nat hv, ?_⟩
    have nnf : nm ≠ fa := fun e => by have h := hV.nm; rw [e, hfa] at h; cases h
    have nnc : nm ≠ co := fun e => by have h := hV.nm; rw [e, hco] at h; cases h
    generalize hs : sx[m.i] = s0 at *
    cases s0 with
    | go n =>
      obtain ⟨st, xs, rfl, est, hx1⟩ := held_tup_inv hvH
      obtain ⟨v1, r1, rfl, e1, hx2⟩ := heldL_cons_inv hx1
      obtain ⟨v2, r2, rfl, e2, hx3⟩ := heldL_cons_inv hx2
      cases heldL_nil_inv hx3
      cases held_str_inv e1
      cases held_int_inv e2
      have hms : mstep sx most m = .inr { m with i := n } := by
        unfold mstep
        rw [hsi]
      refine ⟨_, rfl, st, _, _, _, rfl, rfl, SqT.of est, rfl, rfl, _, rfl, ite2 (fun _ => ?_) (fun d => absurd (decide_eq_true rfl) d)⟩
      refine ⟨_, rfl, st, _, _, _, rfl, rfl, SqT.of est, rfl, _, rfl, fa, CF, dx, _, rfl, hfa, T.c, T.n5, by show 5 < 1000; decide, ?_⟩
      rw [putF_at]
      exact q2 _ hms _ (fun b o h1 h2 _ e => by rw [upd_ne h2]; exact e) ⟨by rw [upd_ne ncf]; exact hco, upd_same, by rw [upd_ne nnf]; exact hV.nm⟩
    | ask le cs kd p yes no =>
      obtain ⟨st, vl, vk, pa, rfl, est, hle, hcs, hpa⟩ := ask_inv hvH
      refine ⟨_, rfl, st, _, _, _, rfl, rfl, SqT.of est, rfl, rfl, _, rfl, ite2 (fun d => absurd (of_decide_eq_true d) (by decide)) (fun _ => ?_)⟩
      refine ⟨_, rfl, co, CC, dc, _, _, rfl, hco, TC.c, TC.n6, rfl, _, rfl, co, CC, dc, _, _, rfl, hco, TC.c, TC.n5, rfl, rfl, _, rfl, ite2 (fun d => ?_) (fun d => ?_)⟩
      · have hms : mstep sx most m = .inl (.spent, m.used) := by
          unfold mstep
          rw [hsi]
          dsimp only
          rw [if_pos (by have := of_decide_eq_true d; injection this)]
        exact ⟨sm rfl, fun t ht => q1 _ _ hms _ _ (fun b o _ e => same_new ht _ _ _ e) (same_new ht _ _ _ hco) ⟨t, rfl, upd_same⟩⟩
      · have hne : ¬ ((m.used : Int) = most) := fun e => d (decide_eq_true (by rw [e]))
        refine ⟨_, rfl, co, CC, dc, _, _, rfl, hco, TC.c, TC.n6, rfl, _, _, rfl, rfl, dc, _, hco, by show 7 < 1000; decide, ?_⟩
        rw [putF_used, show ((m.used : Int) + 1) = ((m.used + 1 : Nat) : Int) by omega]
        have gco : upd H co (.ins CC dc (coFs d1 d2 vi tk most ((m.used + 1 : Nat) : Int) fl)) co = some (.ins CC dc (coFs d1 d2 vi tk most ((m.used + 1 : Nat) : Int) fl)) := upd_same
        have gk : ∀ b o, b ≠ co → H b = some o → upd H co (.ins CC dc (coFs d1 d2 vi tk most ((m.used + 1 : Nat) : Int) fl)) b = some o := fun b o hb e => by rw [upd_ne hb]; exact e
        have gtk : TK H (upd H co (.ins CC dc (coFs d1 d2 vi tk most ((m.used + 1 : Nat) : Int) fl))) := fun b xs e => gk _ _ (ne_of e hco (by intro z; cases z)) e
        generalize upd H co (.ins CC dc (coFs d1 d2 vi tk most ((m.used + 1 : Nat) : Int) fl)) = G at *
        have gfa := gk _ _ (Ne.symm ncf) hfa
        have gnm := gk _ _ nnc hV.nm
        have gst := gtk _ _ est
        refine ⟨_, rfl, st, _, _, _, rfl, rfl, SqT.of gst, rfl, rfl, _, rfl, ite2 (fun _ => ?_) (fun d => absurd (decide_eq_true rfl) d)⟩
        refine ⟨_, rfl, _, rfl, fa, dx, pr, nm, rw, .non, m.i, m.N, p0, .str fn, p2, .ref e3, p4, .ref e5, p6, st, vl, vk, .ref pa, kd, le, cs, yes, no, rfl, gfa, gnm, gtk _ _ hpr, gst, gtk.held hle, gtk.held hcs, fun hun H' kH hfa' => ?_, fun k hun t H' sH ht => ?_⟩
        · have hms : mstep sx most m = .inr ⟨m.N, if lcT m.N le = true then yes else no, m.used + 1⟩ := by
            unfold mstep
            rw [hsi]
            dsimp only
            rw [if_neg hne, hun]
          exact q2 _ hms H' (fun b o h1 h2 _ e => kH b o h2 (gk b o h1 e)) ⟨kH _ _ ncf gco, hfa', kH _ _ nnf gnm⟩
        · have hms : mstep sx most m = .inl (.untrue kd p k, m.used + 1) := by
            unfold mstep
            rw [hsi]
            dsimp only
            rw [if_neg hne, hun]
          exact q1 _ _ hms _ H' (fun b o h1 e => sH _ _ (gk b o h1 e)) (sH _ _ gco) ⟨t, .ref pa, rfl, ht, held_path (sH _ _ (gtk _ _ hpa))⟩
    | set x y c p =>
      obtain ⟨st, sta, va, vp, rfl, est, hsta, hva⟩ := set_inv hvH
      refine ⟨_, rfl, st, _, _, _, rfl, rfl, SqT.of est, rfl, rfl, _, rfl, ite2 (fun d => absurd (of_decide_eq_true d) (by decide)) (fun _ => ?_)⟩
      refine ⟨_, rfl, co, CC, dc, _, _, rfl, hco, TC.c, TC.n6, rfl, _, rfl, co, CC, dc, _, _, rfl, hco, TC.c, TC.n5, rfl, rfl, _, rfl, ite2 (fun d => ?_) (fun d => ?_)⟩
      · have hms : mstep sx most m = .inl (.spent, m.used) := by
          unfold mstep
          rw [hsi]
          dsimp only
          rw [if_pos (by have := of_decide_eq_true d; injection this)]
        exact ⟨sm rfl, fun t ht => q1 _ _ hms _ _ (fun b o _ e => same_new ht _ _ _ e) (same_new ht _ _ _ hco) ⟨t, rfl, upd_same⟩⟩
      · have hne : ¬ ((m.used : Int) = most) := fun e => d (decide_eq_true (by rw [e]))
        refine ⟨_, rfl, co, CC, dc, _, _, rfl, hco, TC.c, TC.n6, rfl, _, _, rfl, rfl, dc, _, hco, by show 7 < 1000; decide, ?_⟩
        rw [putF_used, show ((m.used : Int) + 1) = ((m.used + 1 : Nat) : Int) by omega]
        have gco : upd H co (.ins CC dc (coFs d1 d2 vi tk most ((m.used + 1 : Nat) : Int) fl)) co = some (.ins CC dc (coFs d1 d2 vi tk most ((m.used + 1 : Nat) : Int) fl)) := upd_same
        have gk : ∀ b o, b ≠ co → H b = some o → upd H co (.ins CC dc (coFs d1 d2 vi tk most ((m.used + 1 : Nat) : Int) fl)) b = some o := fun b o hb e => by rw [upd_ne hb]; exact e
        have gtk : TK H (upd H co (.ins CC dc (coFs d1 d2 vi tk most ((m.used + 1 : Nat) : Int) fl))) := fun b xs e => gk _ _ (ne_of e hco (by intro z; cases z)) e
        generalize upd H co (.ins CC dc (coFs d1 d2 vi tk most ((m.used + 1 : Nat) : Int) fl)) = G at *
        have gfa := gk _ _ (Ne.symm ncf) hfa
        have gnm := gk _ _ nnc hV.nm
        have gst := gtk _ _ est
        have hms : mstep sx most m = .inr ⟨putA m.N x (numA m.N y + c), m.i + 1, m.used + 1⟩ := by
          unfold mstep
          rw [hsi]
          dsimp only
          rw [if_neg hne]
        refine ⟨_, rfl, st, _, _, _, rfl, rfl, SqT.of gst, rfl, rfl, _, rfl, ite2 (fun d => absurd (of_decide_eq_true d) (by decide)) (fun _ => ?_)⟩
        refine ⟨_, rfl, fa, CF, dx, _, _, rfl, gfa, T.c, T.n5, rfl, _, _, rfl, rfl, dx, _, gfa, by show 5 < 1000; decide, ?_⟩
        rw [show ((m.i : Int) + 1) = ((m.i + 1 : Nat) : Int) by omega, putF_at]
        have g2fa : upd G fa (.ins CF dx (frFs pr .non nm rw (m.i + 1))) fa = some (.ins CF dx (frFs pr .non nm rw (m.i + 1))) := upd_same
        have g2k : ∀ b o, b ≠ fa → G b = some o → upd G fa (.ins CF dx (frFs pr .non nm rw (m.i + 1))) b = some o := fun b o hb e => by rw [upd_ne hb]; exact e
        have g2tk : TK G (upd G fa (.ins CF dx (frFs pr .non nm rw (m.i + 1)))) := fun b xs e => g2k _ _ (ne_of e gfa (by intro z; cases z)) e
        generalize upd G fa (.ins CF dx (frFs pr .non nm rw (m.i + 1))) = G2 at *
        have g2st := g2tk _ _ gst
        refine ⟨_, rfl, st, _, _, _, rfl, rfl, SqT.of g2st, rfl, rfl, _, rfl, ite2 (fun _ => ?_) (fun d => absurd (decide_eq_true rfl) d)⟩
        refine ⟨_, rfl, _, rfl, _, rfl, st, _, _, _, rfl, rfl, SqT.of g2st, rfl, _, rfl, st, _, _, _, rfl, rfl, SqT.of g2st, rfl, ?_⟩
        exact ⟨.ref co, vp, fa, dx, pr, nm, rw, .non, m.i + 1, m.N, sta, va, x, y, c, rfl, g2fa, g2k _ _ nnf gnm, hN, g2tk _ _ (gtk _ _ hsta), g2tk _ _ (gtk _ _ hva), fun H' kH hnm => q2 _ hms H' (fun b o h1 h2 h3 e => kH b o h3 (g2k b o h2 (gk b o h1 e))) ⟨kH _ _ (Ne.symm nnc) (g2k _ _ ncf gco), kH _ _ (Ne.symm nnf) g2fa, hnm⟩⟩
    | come =>
      obtain ⟨st, xs, rfl, est, hx1⟩ := held_tup_inv hvH
      obtain ⟨v1, r1, rfl, e1, hx2⟩ := heldL_cons_inv hx1
      cases heldL_nil_inv hx2
      cases held_str_inv e1
      refine ⟨_, rfl, st, _, _, _, rfl, rfl, SqT.of est, rfl, rfl, _, rfl, ite2 (fun d => absurd (of_decide_eq_true d) (by decide)) (fun _ => ?_)⟩
      refine ⟨_, rfl, co, CC, dc, _, _, rfl, hco, TC.c, TC.n6, rfl, _, rfl, co, CC, dc, _, _, rfl, hco, TC.c, TC.n5, rfl, rfl, _, rfl, ite2 (fun d => ?_) (fun d => ?_)⟩
      · have hms : mstep sx most m = .inl (.spent, m.used) := by
          unfold mstep
          rw [hsi]
          dsimp only
          rw [if_pos (by have := of_decide_eq_true d; injection this)]
        exact ⟨sm rfl, fun t ht => q1 _ _ hms _ _ (fun b o _ e => same_new ht _ _ _ e) (same_new ht _ _ _ hco) ⟨t, rfl, upd_same⟩⟩
      · have hne : ¬ ((m.used : Int) = most) := fun e => d (decide_eq_true (by rw [e]))
        refine ⟨_, rfl, co, CC, dc, _, _, rfl, hco, TC.c, TC.n6, rfl, _, _, rfl, rfl, dc, _, hco, by show 7 < 1000; decide, ?_⟩
        rw [putF_used, show ((m.used : Int) + 1) = ((m.used + 1 : Nat) : Int) by omega]
        have gco : upd H co (.ins CC dc (coFs d1 d2 vi tk most ((m.used + 1 : Nat) : Int) fl)) co = some (.ins CC dc (coFs d1 d2 vi tk most ((m.used + 1 : Nat) : Int) fl)) := upd_same
        have gk : ∀ b o, b ≠ co → H b = some o → upd H co (.ins CC dc (coFs d1 d2 vi tk most ((m.used + 1 : Nat) : Int) fl)) b = some o := fun b o hb e => by rw [upd_ne hb]; exact e
        have gtk : TK H (upd H co (.ins CC dc (coFs d1 d2 vi tk most ((m.used + 1 : Nat) : Int) fl))) := fun b xs e => gk _ _ (ne_of e hco (by intro z; cases z)) e
        generalize upd H co (.ins CC dc (coFs d1 d2 vi tk most ((m.used + 1 : Nat) : Int) fl)) = G at *
        have gfa := gk _ _ (Ne.symm ncf) hfa
        have gnm := gk _ _ nnc hV.nm
        have gst := gtk _ _ est
        have hms : mstep sx most m = .inr ⟨m.N, m.i + 1, m.used + 1⟩ := by
          unfold mstep
          rw [hsi]
          dsimp only
          rw [if_neg hne]
        refine ⟨_, rfl, st, _, _, _, rfl, rfl, SqT.of gst, rfl, rfl, _, rfl, ite2 (fun d => absurd (of_decide_eq_true d) (by decide)) (fun _ => ?_)⟩
        refine ⟨_, rfl, fa, CF, dx, _, _, rfl, gfa, T.c, T.n5, rfl, _, _, rfl, rfl, dx, _, gfa, by show 5 < 1000; decide, ?_⟩
        rw [show ((m.i : Int) + 1) = ((m.i + 1 : Nat) : Int) by omega, putF_at]
        have g2k : ∀ b o, b ≠ fa → G b = some o → upd G fa (.ins CF dx (frFs pr .non nm rw (m.i + 1))) b = some o := fun b o hb e => by rw [upd_ne hb]; exact e
        have g2fa : upd G fa (.ins CF dx (frFs pr .non nm rw (m.i + 1))) fa = some (.ins CF dx (frFs pr .non nm rw (m.i + 1))) := upd_same
        have g2tk : TK G (upd G fa (.ins CF dx (frFs pr .non nm rw (m.i + 1)))) := fun b xs e => g2k _ _ (ne_of e gfa (by intro z; cases z)) e
        generalize upd G fa (.ins CF dx (frFs pr .non nm rw (m.i + 1))) = G2 at *
        refine ⟨_, rfl, st, _, _, _, rfl, rfl, SqT.of (g2tk _ _ gst), rfl, rfl, _, rfl, ite2 (fun d => absurd (of_decide_eq_true d) (by decide)) (fun _ => ?_)⟩
        exact q2 _ hms G2 (fun b o h1 h2 _ e => g2k b o h2 (gk b o h1 e)) ⟨g2k _ _ ncf gco, g2fa, g2k _ _ nnf gnm⟩
end
end LW
set_option Elab.async false
set_option linter.all false
set_option maxRecDepth 100000
namespace L2
open PySem PySem.Spec PyProof.Rows
theorem eval_DictComp' {env : Env} (kx vx gens scope pos) : eval (.DictComp kx vx gens scope pos) env = comprehension (.DictComp kx vx gens scope pos) scope env (firstIterPos gens pos) newDict (firstAsync gens) (firstIter gens env) := rfl
theorem dcompLoop_gen {prog : Program} {w : World} {A : Around} {s : Shared} {kx vx target iter : Expr} {ifs : List Expr} {scope : Scope} {pos : Pos} {it : Value} {D : Addr} {env : Env} {R : Result → Shared → Prop} (I : Nat → Shared → Prop)
    (turn : ∀ n s, I n s → wpAny (model prog w) A (pyNext it) (fun r s1 => match r with
      | none => R (.ok .next) s1
      | some v => wpAny (model prog w) A (letOwnedTupleGo target it v) (fun _ s1' => wpAny (model prog w) A (assign target env v) (fun _ s2 =>
          wpAny (model prog w) A (forIn ifs true fun c r => if r = true then do let ok ← isTrue c env (eval c env); pure (ForInStep.yield ok) else pure (ForInStep.yield r)) (fun ok s3 =>
            if ok = true then wpAny (model prog w) A (eval kx env) (fun kv s4 => wpAny (model prog w) A (eval vx env) (fun vv s5 =>
              wpAny (model prog w) A (dictSet D kv vv) (fun _ s6 => ∃ m, m < n ∧ I m s6) (fun _ _ => False) s5) (fun _ _ => False) s4) (fun _ _ => False) s3
            else ∃ m, m < n ∧ I m s3) (fun _ _ => False) s2) (fun _ _ => False) s1') (fun _ _ => False) s1) (fun _ _ => False) s)
    (n : Nat) (h : I n s) : codeAny (model prog w) A (.compLoop (.DictComp kx vx [⟨target, iter, ifs, 0⟩] scope pos) 0 it (.ref D) env) R s := by
  have no : ∀ (x : Value) (s' : Shared), False → notedBy (model prog w) A env (fun e s' => R (.error e) s') x s' := fun _ _ z => z.elim
  refine codeAny_loop rfl I (fun n s hI => ?_) n h
  show wpAny _ A ((compTurn (.DictComp kx vx [⟨target, iter, ifs, 0⟩] scope pos) 0 it (.ref D) env).onRaise (fun x => do noteFrame x env; theTreesLotGoes x)) _ _ s
  refine wpAny_noted ?_
  rw [compTurn_dict]
  refine wpAny_bind (wpAny_standAt (wpAny_bind (wpAny_mono (turn n s hI) (fun r s1 h1 => ?_) no)))
  cases r with
  | none => exact wpAny_pure h1
  | some v =>
    refine wpAny_bind (wpAny_mono h1 (fun _ s1' h1' => ?_) no)
    refine wpAny_bind (wpAny_mono h1' (fun _ s2 h2 => wpAny_bind (wpAny_mono h2 (fun ok s3 h3 => ?_) no)) no)
    cases ok with
    | false => exact wpAny_pure ⟨rfl, h3⟩
    | true =>
      exact wpAny_bind (wpAny_bind (wpAny_mono h3 (fun kv s4 h4 => wpAny_bind (wpAny_holding (wpAny_mono h4 (fun vv s5 h5 => wpAny_bind (wpAny_standAt (wpAny_holding (wpAny_mono h5 (fun _ s6 h6 => wpAny_pure ⟨rfl, h6⟩) no)))) no))) no))
def DCompGo (J : It) (p : Addr) (g : TG) (tt : TT) (tk tv : TE) (Q : VK) (σ : St) (H : Hp) : Prop := ∃ W : Nat → Nat → St → Hp → Prop, (∃ m, W 0 m σ H) ∧
  ∀ i m σ' H', W i m σ' H' → (J.stop i H' ∧ Q (.ref p) H') ∨ (J.go i H' ∧ ∃ N : St → Hp → Prop, (∀ σ3 H3, N σ3 H3 → ∃ m', m' < m ∧ W (i + 1) m' σ3 H3) ∧ ∀ x H2, J.yld i H' x H2 → g x σ' H2 fun σ3 H3 => tt σ3 H3 fun c H4 =>
    if c = true then tk σ3 H4 fun ky H5 => tv σ3 H5 fun y H6 => ∃ kvs k, ky = kV k ∧ H6 p = some (.dK kvs) ∧ kvs.length < sizeLine ∧ N σ3 (upd H6 p (.dK (putK kvs k y))) else N σ3 H4)
def tDComp (own : List Str) (fr : List Nat) (wi : TI) (g : TG) (tt : TT) (tk tv : TE) : TE := fun σ H Q => wi σ H fun J H1 => ∀ p, H1 p = none → DCompGo J p g tt tk tv Q (blkS own fr σ) (upd H1 p (.dK []))
theorem dcomp_run {X : Cx} {scope : Scope} {own : List Str} {fr : List Nat} {kx vx tg iter : Expr} {ifs : List Expr} {pos : Pos} {wi : TI} {g : TG} {tt : TT} {tk tv : TE} {use : Option (Value → Sem Unit)} (hc : X.calm = true) (O : CompOk X scope fr) (hi : PI X tg iter wi)
    (hb : ∀ s H ex, PG (blk X scope own fr s H ex) tg g ∧ PTs (blk X scope own fr s H ex) ifs tt ∧ PE (blk X scope own fr s H ex) kx tk ∧ PE (blk X scope own fr s H ex) vx tv)
    (hs : ∀ x, foldedSetIterable iter X.env x = pure x) {pins : List (Addr × Obj)} {s : Shared} {σ : St} {H : Hp} {Q : VK} {R : Value → Shared → Prop} (I : Inv X pins σ H s) (h : tDComp own fr wi g tt tk tv σ H Q) (hx : ∀ e s', X.xe e s' ↔ False)
    (fin : ∀ (p C : Addr) (H' : Hp) (s' : Shared) (m : Str → Option Value), s'.heap.Ns C m → H' C = none → C ≠ X.env.locals → (∀ x c, X.env.cells.lookup x = some c → c ≠ C) → Inv X pins σ H' s' → (∀ h', Heap.SameBut C s'.heap h' → Inv X pins σ H' { s' with heap := h' }) → Q (.ref p) H' →
      compPost (model X.prog X.w) X.A X.xe use R (.ref p) C (.ok .next) s') :
    wpAny (model X.prog X.w) X.A (comprehension (.DictComp kx vx [⟨tg, iter, ifs, 0⟩] scope pos) scope X.env (firstIterPos [⟨tg, iter, ifs, 0⟩] pos) newDict false (eval iter X.env) use) R X.xe s := by
  have hsome : ∀ x ∈ scope.names, x.2 = .free → (X.env.cells.lookup x.1).isSome = true := fun x hx' e => by
    obtain ⟨c, hc⟩ := I.ok.has x.1 (O.frees x hx' e)
    rw [hc]; rfl
  have no : ∀ (E : Value → Shared → Prop) (x : Value) (s' : Shared), X.xe x s' → E x s' := fun E x s' z => ((hx x s').mp z).elim
  refine wpAny_comprehension_free (cl := clOf X.env.cells scope.names []) rfl hs (closure_cl hsome) O.kind O.loc ?_
  refine thn (hi pins s σ H _ I h) fun v s1 h1 => thn h1 fun itv s2 h2 => ?_
  obtain ⟨it, fp, tn, J, H2, e, I2, T, st2, f2, q2⟩ := h2
  subst e
  unfold newDict
  refine wpAny_newObj_type ?_
  have nw : H2 s2.heap.objs.size = none := I2.fresh
  obtain ⟨W, ⟨m0, w0⟩, turn⟩ := q2 _ nw
  generalize hp : s2.heap.objs.size = p at *
  have I3 : Inv X pins σ (upd H2 p (.dK [])) { s2 with heap := s2.heap.push { cls := .type "dict", data := .dict #[] } } := by
    have := I2.laid (a := s2.heap.objs.size) (o := .dK []) (t' := s2.toks) (fun _ _ q => Heap.get?_push_of_some { cls := .type "dict", data := .dict #[] } q) (Nat.le_refl _) (dk_empty s2.heap I2.big)
    rw [hp] at this
    exact this
  have lt2 : ∀ b ∈ fp, b < s2.heap.objs.size := fun b hb => by
    obtain ⟨o, ho, _⟩ := T.obj _ _ st2 b hb
    exact Heap.lt_size ho
  have fpn : ∀ b ∈ fp, (upd H2 p (.dK [])) b = none := fun b hb => by
    rw [upd_ne (by rw [← hp]; exact Nat.ne_of_lt (lt2 b hb))]
    exact (f2 b hb).1
  generalize hs3 : ({ s2 with heap := s2.heap.push { cls := .type "dict", data := .dict #[] } } : Shared) = s3 at *
  have sz3 : s3.heap.objs.size = p + 1 := by
    rw [← hs3]
    show (s2.heap.push _).objs.size = _
    rw [Heap.size_push, hp]
  have st3 : tn 0 s3.heap := T.keep 0 _ _ st2 fun b hb o e => by
    rw [← hs3]
    exact Heap.get?_push_of_some _ e
  refine wpAny_newFunctionEnv O.nocell (by intro y hy; simp at hy) (fun h4 hns4 hsb4 => ?_) O.kind
  have k4 : ∀ b o, s3.heap.get? b = some o → h4.get? b = some o := fun b o e => hsb4.extBut b o (Nat.ne_of_lt (Heap.lt_size e)) (Heap.get?_push_of_some _ e)
  have hns4' : h4.Ns s3.heap.objs.size fun _ => none := by
    have z : (fun x : Str => ([] : List (Str × Value)).reverse.lookup x) = fun _ => none := by funext x; rfl
    rw [z] at hns4
    exact hns4
  have fo : ∀ b ∈ fp, FpOk X pins (upd H2 p (.dK [])) b ∧ b < s3.heap.objs.size := fun b hb => ⟨⟨fpn b hb, (f2 b hb).2⟩, by rw [sz3, ← hp]; exact Nat.lt_succ_of_lt (lt2 b hb)⟩
  have I4 := inv_blk (own := own) (fr := fr) (t1 := s3.toks + ([] : List (Str × Value)).length) I3 O fo hns4' k4
  have st4 : tn 0 h4 := T.keep 0 _ _ st3 fun b hb o e => k4 b o e
  obtain ⟨hg, ht, hk', hv'⟩ := hb s3 (upd H2 p (.dK [])) fp
  have stat : ∀ {H' : Hp} {pn : List (Addr × Obj)} {s' : Shared} {σ' : St}, Inv (blk X scope own fr s3 (upd H2 p (.dK [])) fp) [] σ' H' s' → (∀ b ∈ fp, H' b = none) → ∀ b ∈ fp, FpOk (blk X scope own fr s3 (upd H2 p (.dK [])) fp) [] H' b := fun {H' pn s' σ'} J hn b hb' =>
    ⟨hn b hb', (J.ok.exf b hb').1, J.ok.exfs b hb', .inl hb', (J.ok.exf b hb').2, fun p hp => absurd hp (by simp [blk])⟩
  have nocells : ∀ x c, X.env.cells.lookup x = some c → c ≠ s3.heap.objs.size := fun x c e => by
    obtain ⟨v, q⟩ := I3.cell x c e
    exact Nat.ne_of_lt q.lt
  have loop : ∀ s5 : Shared, s5 = { s3 with heap := h4, toks := s3.toks + ([] : List (Str × Value)).length } →
      codeAny (model X.prog X.w) X.A (.compLoop (.DictComp kx vx [⟨tg, iter, ifs, 0⟩] scope pos) 0 (.ref it) (.ref p) (blk X scope own fr s3 (upd H2 p (.dK [])) fp).env) (compPost (model X.prog X.w) X.A X.xe use R (.ref p) s3.heap.objs.size) s5 := by
    rintro s5 rfl
    refine dcompLoop_gen (fun n s' => ∃ i σ' H', Inv (blk X scope own fr s3 (upd H2 p (.dK [])) fp) [] σ' H' s' ∧ tn i s'.heap ∧ (∀ b ∈ fp, H' b = none) ∧ W i n σ' H') ?_ m0 ⟨0, _, _, I4, st4, fpn, w0⟩
    rintro n s6 ⟨i, σ6, H6, I6, st6, fr6, w6⟩
    rcases turn i n σ6 H6 w6 with ⟨stop, qn⟩ | ⟨go, N, hN, step⟩
    · refine thn (T.done (blk X scope own fr s3 (upd H2 p (.dK [])) fp) rfl rfl rfl hc i [] s6 σ6 H6 _ I6 (stat (pn := []) I6 fr6) st6 stop) fun r s7 ⟨hr, I7⟩ => ?_
      subst hr
      obtain ⟨m, hm, _⟩ := I7.loc
      exact fin p _ H6 s7 m hm I7.free (Nat.ne_of_gt I3.lt) nocells (blk_back I3 fo I7 (Heap.SameBut.refl ..)) (fun h' hs' => blk_back I3 fo I7 hs') qn
    · refine thn (T.item (blk X scope own fr s3 (upd H2 p (.dK [])) fp) rfl rfl rfl hc i [] s6 σ6 H6 _ I6 (stat (pn := []) I6 fr6) st6 go) fun r s7 ⟨u, hr, h7⟩ => ?_
      subst hr
      refine thn h7 fun _ s8 ⟨x, H8, I8, r8, y8, st8, fr8⟩ => ?_
      have I8' := I8.pinned (stat (pn := []) I8 fr8) (T.obj _ _ st8)
      refine thn (hg _ s8 σ6 H8 x u _ I8' r8 (step x H8 y8)) fun _ s9 ⟨σ9, H9, I9, q9⟩ => ?_
      refine thn (ht _ s9 σ9 H9 _ I9 q9) fun ok s10 ⟨H10, I10, q10⟩ => ?_
      have again : ∀ {H11 : Hp} {s11 : Shared}, Inv (blk X scope own fr s3 (upd H2 p (.dK [])) fp) ([] ++ pinsAt fp s8.heap) σ9 H11 s11 → (∃ m', m' < n ∧ W (i + 1) m' σ9 H11) →
          ∃ m, m < n ∧ ∃ i σ' H', Inv (blk X scope own fr s3 (upd H2 p (.dK [])) fp) [] σ' H' s11 ∧ tn i s11.heap ∧ (∀ b ∈ fp, H' b = none) ∧ W i m σ' H' := fun {H11 s11} I11 ⟨m', hm, w11⟩ => by
        refine ⟨m', hm, i + 1, σ9, H11, I11.unpinned, T.keep _ _ _ st8 fun b hb' o e => (I11.pin (b, o) (List.mem_append_right _ (List.mem_append_right _ (mem_pinsAt hb' e)))).1, fun b hb' => ?_, w11⟩
        obtain ⟨o, e, d⟩ := T.obj _ _ st8 b hb'
        exact (I11.pin (b, o) (List.mem_append_right _ (List.mem_append_right _ (mem_pinsAt hb' e)))).2.1
      cases ok with
      | false =>
        rw [if_neg Bool.false_ne_true] at q10 ⊢
        exact again I10 (hN _ _ q10)
      | true =>
        rw [if_pos rfl] at q10 ⊢
        refine thn (hk' _ s10 σ9 H10 _ I10 q10) fun kv s11 ⟨ky, H11, I11, r11, q11⟩ => ?_
        refine thn (hv' _ s11 σ9 H11 _ I11 q11) fun vv s12 ⟨y, H12, I12, r12, kvs, k, ek, hkv, hlen, q12⟩ => ?_
        subst ek
        obtain ⟨z, hd, vs, rel, dd⟩ := dk_of I12.hok hkv
        have hl : (putK kvs k y).length ≤ sizeLine := by have := length_putK kvs k y; omega
        refine wpAny_dictSet_pairs (kV_is r11) dd (fun h' dd' hs' => ?_) (by rw [← rel.length]; exact z)
        have hex' : ∃ q, h'.get? p = some q := let ⟨q, _, _, hq, _⟩ := dd'; ⟨q, hq⟩
        exact again (d_write (t' := s12.toks + 1) I12 (by rw [hkv]; exact True.intro) hs' hex' (dk_new hl hd (rel.put k r12) dd')) (hN _ _ q12)
  refine codeAny_compStart_dict (loop _ rfl) (T.self X.A 0 _ _ _ st4 (loop _ rfl))
theorem pe_dcomp {X : Cx} {scope : Scope} {kx vx tg iter : Expr} {ifs : List Expr} {pos : Pos} {wi : TI} {g : TG} {tt : TT} {tk tv : TE} (own : List Str) (fr : List Nat) (hc : X.calm = true) (O : CompOk X scope fr) (hi : PI X.nox tg iter wi)
    (hb : ∀ s H ex, PG (blk X.nox scope own fr s H ex) tg g ∧ PTs (blk X.nox scope own fr s H ex) ifs tt ∧ PE (blk X.nox scope own fr s H ex) kx tk ∧ PE (blk X.nox scope own fr s H ex) vx tv)
    (hs : ∀ x, foldedSetIterable iter X.env x = pure x := by intro _; rfl) : PE X.nox (.DictComp kx vx [⟨tg, iter, ifs, 0⟩] scope pos) (tDComp own fr wi g tt tk tv) := by
  intro pins s σ H Q I h
  rw [eval_DictComp']
  refine dcomp_run (X := X.nox) (use := none) (Q := Q) hc ⟨O.kind, O.nocell, O.loc, O.frees, O.fr⟩ hi hb hs I h (fun _ _ => Iff.rfl) fun p C H' s' m hm hC _ _ I' back q => ?_
  exact ⟨m, hm, fun h' hs' => ⟨.ref p, H', back h' hs', rfl, q⟩⟩
section
variable {p : Addr} {g : TG} {tt : TT} {tk tv : TE} {σ : St} {H : Hp} {Q : VK}
theorem dcomp_tup {K : PySem.W.Frag} {a : Addr} {xs : List V} (Pv : Nat → St → Hp → Prop) (h0 : Pv 0 σ H) (hl : ∀ i σ' H', i ≤ xs.length → Pv i σ' H' → SqT K H' a xs)
    (hs : ∀ i x σ' H', xs[i]? = some x → Pv i σ' H' → g x σ' H' fun σ3 H3 => tt σ3 H3 fun c H4 => if c = true then tk σ3 H4 fun ky H5 => tv σ3 H5 fun y H6 => ∃ kvs k, ky = kV k ∧ H6 p = some (.dK kvs) ∧ kvs.length < sizeLine ∧ Pv (i + 1) σ3 (upd H6 p (.dK (putK kvs k y))) else Pv (i + 1) σ3 H4)
    (hd : ∀ σ' H', Pv xs.length σ' H' → Q (.ref p) H') : DCompGo (Itt K a) p g tt tk tv Q σ H := by
  refine ⟨fun i m σ H => m = xs.length - i ∧ i ≤ xs.length ∧ Pv i σ H, ⟨xs.length, by simp, Nat.zero_le _, h0⟩, ?_⟩
  rintro i m σ1 H1 ⟨rfl, hi, pv⟩
  have q := hl i σ1 H1 hi pv
  by_cases hlt : i < xs.length
  · refine .inr ⟨⟨xs, xs[i], q, by simp [hlt]⟩, Pv (i + 1), fun σ3 H3 q => ⟨xs.length - (i + 1), by omega, rfl, hlt, q⟩, fun x H2 y => ?_⟩
    obtain ⟨e1, e2⟩ := y
    subst e1
    exact hs i x σ1 _ (e2 xs q) pv
  · have e : i = xs.length := by omega
    subst e
    exact .inl ⟨⟨xs, q, Nat.le_refl _⟩, hd σ1 H1 pv⟩
end
end L2
set_option Elab.async false
set_option linter.all false
set_option maxRecDepth 100000
set_option maxHeartbeats 2000000
namespace LW
open PySem L2
abbrev sProcs_by_name : Stmt := top 19
abbrev s__init__ : Stmt := inClass (top 28) 0
def spProcs : Sp := fun vs H Q _ => ∃ (pg pr : Addr) (fn : Str) (p0 p2 p3 p4 p5 p6 : V), vs = [.ref pg] ∧ H pg = some (.tup [.ref pr]) ∧ H pr = some (.tup [p0, .str fn, p2, p3, p4, p5, p6]) ∧ ∀ d H', Same H H' → H d = none → H' d = some (.dK [(Sum.inr fn, .ref pr)]) → Q (.ref d) H'
section
variable {P : Program} {w : World} {K : PySem.W.Frag} {mg : Str → Option Value} {base : Heap}
theorem ok_procs {f : Addr} {fd : FuncData} (F : Fun K "procs_by_name" "procs_by_name" sProcs_by_name f fd) : FnOk P w K mg base CX0 1 f fd ["program"] spProcs := by
  have sc : FnScope ["program"] ["program"] (defScope sProcs_by_name) := ⟨rfl, rfl, rfl, by decide +kernel, rfl, by decide +kernel, by decide +kernel⟩
  refine F.ok sc (fun vs H Q E h => ?_) (fun cdv A outer s H vs Q E hr h => ?_)
  · obtain ⟨pg, pr, fn, p0, p2, p3, p4, p5, p6, rfl, _⟩ := h
    rfl
  obtain ⟨pg, pr, fn, p0, p2, p3, p4, p5, p6, rfl, hpg, hpr, q⟩ := h
  refine ⟨_, (pss_one (ps_ret (pe_dcomp ["proc"] [] rfl (comp_ok (sc := defScope sProcs_by_name) (N := ["program"]) rfl rfl (by decide +kernel)) (pi_tup (pv 0)) (fun s H ex => ⟨(pg_name (i := 0) (show List.Nodup (["proc"] : List Str) by decide +kernel) rfl (by first | exact Or.inl rfl | exact Or.inr rfl)), pts_nil, (pe_ix (ix_tupK (K := K)) (pv 0) pe_int (fun _ _ => rfl)), (pv 0)⟩)))), ?_⟩
  refine ⟨_, rfl, pg, rfl, ⟨_, SqT.of hpg⟩, fun d hd => ?_⟩
  refine dcomp_tup (xs := [.ref pr]) (fun i σ' G => (∃ u, σ' = [u]) ∧ Same H G ∧ G d = some (.dK (if i = 0 then [] else [(Sum.inr fn, .ref pr)]))) ⟨⟨none, rfl⟩, same_new hd _, upd_same⟩ ?_ ?_ ?_
  · rintro i σ' G _ ⟨_, sG, _⟩
    exact SqT.of (sG _ _ hpg)
  · rintro i x σ' G hx ⟨⟨u, rfl⟩, sG, eG⟩
    have hi : i = 0 := by
      have := (List.getElem?_eq_some_iff.mp hx).1
      simp at this
      exact this
    subst hi
    have hx' : x = .ref pr := by simpa using hx.symm
    subst hx'
    unfold gName tYes
    refine iteT ?_
    refine ⟨_, rfl, pr, _, _, _, rfl, rfl, SqT.of (sG _ _ hpr), rfl, _, rfl, [], Sum.inr fn, rfl, eG, small1000 (by decide), ⟨_, rfl⟩, fun b o e => ?_, ?_⟩
    · rw [upd_ne (ne_of_none e hd)]; exact sG _ _ e
    · rw [upd_same]; rfl
  · rintro σ' G ⟨_, sG, eG⟩
    exact q d G sG hd eG
end
end LW
set_option Elab.async false
set_option linter.all false
set_option maxRecDepth 100000
set_option maxHeartbeats 2000000
namespace LW
open PySem L2
def spCourse (CC : Addr) (f' : Nat) : Sp := fun vs H Q _ => ∃ (co dc pg pr : Addr) (fn : Str) (p0 p2 p3 p4 p5 vb vi : V) (body : List D) (most : Int), vs = [.ref co, .ref pg, vi, .int most] ∧ H co = some (.ins CC dc []) ∧ H pg = some (.tup [.ref pr]) ∧ H pr = some (.tup [p0, .str fn, p2, p3, p4, p5, vb]) ∧ Held H (.tup body) vb ∧ (∀ st ∈ body, FitS f' st) ∧ (layL (layS f') 0 body [] 0).length ≤ 900 ∧ 2 * f' ≤ 500 ∧
  ∀ d1 d2 sl fl ss H', (∀ b o, b ≠ co → H b = some o → H' b = some o) → H d1 = none → H d2 = none → H sl = none → H fl = none → H' co = some (.ins CC dc (coFs d1 d2 vi 0 most 0 fl)) → H' d1 = some (.dK [(Sum.inr fn, .ref pr)]) → H' d2 = some (.dK [(Sum.inr fn, .ref sl)]) → H' sl = some (.lst ss) → HeldL H' (layL (layS f') 0 body [] 0) ss → H' fl = some (.lst []) → sl ≠ fl → Q .non H'
theorem co_fields {d1 d2 fl : Addr} {vi : V} {most : Int} : putF "frames" (.ref fl) (putF "used" (.int 0) (putF "most" (.int most) (putF "taken" (.int 0) (putF "inputs" vi (putF "steps" (.ref d2) (putF "procs" (.ref d1) [])))))) = coFs d1 d2 vi 0 most 0 fl := by
  unfold coFs
  simp only [putF]
  repeat rw [if_neg (by decide)]
  simp only [putF]
  repeat rw [if_neg (by decide)]
  simp only [putF]
  repeat rw [if_neg (by decide)]
  simp only [putF]
  repeat rw [if_neg (by decide)]
  simp only [putF]
  repeat rw [if_neg (by decide)]
  simp only [putF]
  repeat rw [if_neg (by decide)]
section
variable {P : Program} {w : World} {K : PySem.W.Frag} {mg : Str → Option Value} {base : Heap}
theorem ok_course {CC : Addr} {k f' : Nat} {f : Addr} {fd : FuncData} (TC : ClsC K CC) (F : Fun K "__init__" "Course.__init__" s__init__ f fd) (hk1 : 1 ≤ k) (F_procs_by_name : Fn P w K mg base 1 "procs_by_name" ["program"] spProcs) (F_steps_of : Fn P w K mg base k "steps_of" ["proc"] (spSteps f')) : FnOk P w K mg base CX0 (k + 1) f fd ["self", "program", "inputs", "most"] (spCourse CC f') := by
  have sc : FnScope ["self", "program", "inputs", "most"] ["self", "program", "inputs", "most"] (defScope s__init__) := ⟨rfl, rfl, rfl, by decide +kernel, rfl, by decide +kernel, by decide +kernel⟩
  refine F.ok sc (fun vs H Q E h => ?_) (fun cdv A outer s H vs Q E hr h => ?_)
  · obtain ⟨co, dc, pg, pr, fn, p0, p2, p3, p4, p5, vb, vi, body, most, rfl, _⟩ := h
    rfl
  obtain ⟨co, dc, pg, pr, fn, p0, p2, p3, p4, p5, vb, vi, body, most, rfl, hco, hpg, hpr, hb, hfit, hlen, h2, q⟩ := h
  refine ⟨_, (pss_cons (ps_fld (pv 0) (pe_fn F_procs_by_name hr (pa_c (pv 1) pa_nil) (hk := hk1)) rfl)
      (pss_cons (ps_fld (pv 0) (pe_dcomp ["proc"] [] rfl (comp_ok (sc := defScope s__init__) (N := ["self", "program", "inputs", "most"]) rfl rfl (by decide +kernel)) (pi_tup (pv 1)) (fun s H ex => ⟨(pg_name (i := 0) (show List.Nodup (["proc"] : List Str) by decide +kernel) rfl (by first | exact Or.inl rfl | exact Or.inr rfl)), pts_nil, (pe_ix (ix_tupK (K := K)) (pv 0) pe_int (fun _ _ => rfl)), (pe_fn F_steps_of hr (pa_c (pv 0) pa_nil) (hk := Nat.le_refl _))⟩)) rfl)
      (pss_cons (ps_fld (pv 0) (pv 2) rfl)
      (pss_cons (ps_fld (pv 0) pe_int rfl)
      (pss_cons (ps_fld (pv 0) (pv 3) rfl)
      (pss_cons (ps_fld (pv 0) pe_int rfl)
      (pss_one (ps_fld (pv 0) (pe_lst pa_nil) rfl)))))))), ?_⟩
  refine ⟨_, rfl, pg, pr, fn, p0, p2, p3, p4, p5, vb, rfl, hpg, hpr, fun d1 H1 s1 hd1 e1 => ?_⟩
  refine ⟨_, rfl, co, CC, dc, [], rfl, s1 _ _ hco, TC.c, TC.n1, by show 0 < 1000; decide, ?_⟩
  have nd1 : d1 ≠ co := fun z => by rw [z, hco] at hd1; cases hd1
  have k2 : ∀ b o, b ≠ co → H b = some o → upd H1 co (.ins CC dc (putF "procs" (.ref d1) [])) b = some o := fun b o hb z => by rw [upd_ne hb]; exact s1 _ _ z
  have c2 : upd H1 co (.ins CC dc (putF "procs" (.ref d1) [])) co = some (.ins CC dc (putF "procs" (.ref d1) [])) := upd_same
  have ed2 : upd H1 co (.ins CC dc (putF "procs" (.ref d1) [])) d1 = some (.dK [(Sum.inr fn, .ref pr)]) := by rw [upd_ne nd1]; exact e1
  generalize upd H1 co (.ins CC dc (putF "procs" (.ref d1) [])) = H2 at *
  have tk2 : TK H H2 := fun b xs z => k2 _ _ (ne_of z hco (by intro y; cases y)) z
  have free2 : ∀ b, H2 b = none → H b = none := fun b hb => by
    rcases hh : H b with _ | o
    · rfl
    · by_cases z : b = co
      · rw [z, c2] at hb; cases hb
      · rw [k2 b o z hh] at hb; cases hb
  refine ⟨_, rfl, pg, rfl, ⟨_, SqT.of (tk2 _ _ hpg)⟩, fun d2 hd2 => ?_⟩
  have hd20 := free2 d2 hd2
  refine dcomp_tup (xs := [.ref pr]) (fun i σ' G => (∃ u, σ' = [u]) ∧ Same H2 G ∧ ((i = 0 ∧ G d2 = some (.dK [])) ∨ (i = 1 ∧ ∃ sl ss, H2 sl = none ∧ G d2 = some (.dK [(Sum.inr fn, .ref sl)]) ∧ G sl = some (.lst ss) ∧ HeldL G (layL (layS f') 0 body [] 0) ss))) ⟨⟨none, rfl⟩, same_new hd2 _, .inl ⟨rfl, upd_same⟩⟩ ?_ ?_ ?_
  · rintro i σ' G _ ⟨_, sG, _⟩
    exact SqT.of (sG _ _ (tk2 _ _ hpg))
  · rintro i x σ' G hx ⟨⟨u, rfl⟩, sG, hG⟩
    have hi : i = 0 := by
      have := (List.getElem?_eq_some_iff.mp hx).1
      simp at this
      exact this
    subst hi
    have hx' : x = .ref pr := by simpa using hx.symm
    subst hx'
    rcases hG with ⟨_, eG⟩ | ⟨z, _⟩
    · unfold gName tYes
      refine iteT ?_
      have hprG := sG _ _ (tk2 _ _ hpr)
      refine ⟨_, rfl, pr, _, _, _, rfl, rfl, SqT.of hprG, rfl, _, rfl, pr, p0, .str fn, p2, p3, p4, p5, vb, body, rfl, hprG, (tk2.held hb).mono sG, hfit, hlen, h2, fun sl ss G2 s2 hsl e2 hH => ?_⟩
      refine ⟨[], Sum.inr fn, rfl, s2 _ _ eG, small1000 (by decide), ⟨_, rfl⟩, fun b o z => ?_, .inr ⟨rfl, sl, ss, sG.free hsl, ?_, ?_, ?_⟩⟩
      · rw [upd_ne (ne_of_none z hd2)]; exact s2 _ _ (sG _ _ z)
      · rw [upd_same]; rfl
      · rw [upd_ne (fun z => by rw [z, eG] at hsl; cases hsl)]; exact e2
      · exact (TK.upd (s2 _ _ eG) (fun _ z => by cases z)).heldL hH
    · cases z
  rintro σ' G ⟨_, sG, hG⟩
  rcases hG with ⟨z, _⟩ | ⟨_, sl, ss, hsl, ed, es, hH⟩
  · cases z
  have hsl0 := free2 sl hsl
  have c3 := sG _ _ c2
  have ed1 := sG _ _ ed2
  have k3 : ∀ b o, b ≠ co → H b = some o → G b = some o := fun b o hb z => sG _ _ (k2 b o hb z)
  have nd2 : d2 ≠ co := fun z => by rw [z, c2] at hd2; cases hd2
  have nsl : sl ≠ co := fun z => by rw [z, c2] at hsl; cases hsl
  clear sG c2 ed2 k2 tk2 e1 s1
  refine ⟨_, rfl, co, CC, dc, _, rfl, c3, TC.c, TC.n2, by show 1 < 1000; decide, ?_⟩
  refine ⟨_, rfl, _, rfl, co, CC, dc, _, rfl, upd_same, TC.c, TC.n3, by show 2 < 1000; decide, ?_⟩
  refine ⟨_, rfl, co, CC, dc, _, rfl, upd_same, TC.c, TC.n4, by show 3 < 1000; decide, ?_⟩
  refine ⟨_, rfl, _, rfl, co, CC, dc, _, rfl, upd_same, TC.c, TC.n5, by show 4 < 1000; decide, ?_⟩
  refine ⟨_, rfl, co, CC, dc, _, rfl, upd_same, TC.c, TC.n6, by show 5 < 1000; decide, ?_⟩
  refine ⟨sm rfl, fun fl hfl => ?_⟩
  have nfc : fl ≠ co := fun z => by rw [z, upd_same] at hfl; cases hfl
  have inX : ∀ b o, b ≠ co → G b = some o → b ≠ fl := fun b o hb z y => by
    rw [y] at z hb
    rw [upd_ne hb, upd_ne hb, upd_ne hb, upd_ne hb, upd_ne hb, z] at hfl
    cases hfl
  have hfl0 : H fl = none := by
    rcases hh : H fl with _ | o
    · rfl
    · exact absurd rfl (inX fl o nfc (k3 fl o nfc hh))
  refine ⟨_, rfl, co, CC, dc, _, rfl, (by rw [upd_ne (Ne.symm nfc)]; exact upd_same), TC.c, TC.n7, by show 6 < 1000; decide, ?_⟩
  rw [co_fields]
  have inY : ∀ (A1 A2 A3 A4 A5 : HO) b o, b ≠ co → G b = some o → upd (upd (upd (upd (upd (upd (upd G co A1) co A2) co A3) co A4) co A5) fl (.lst [])) co (.ins CC dc (coFs d1 d2 vi 0 most 0 fl)) b = some o := fun A1 A2 A3 A4 A5 b o hb z => by
    rw [upd_ne hb, upd_ne (inX b o hb z), upd_ne hb, upd_ne hb, upd_ne hb, upd_ne hb, upd_ne hb]; exact z
  refine q d1 d2 sl fl ss _ (fun b o hb z => inY _ _ _ _ _ b o hb (k3 b o hb z)) hd1 hd20 hsl0 hfl0 upd_same (inY _ _ _ _ _ _ _ nd1 ed1) (inY _ _ _ _ _ _ _ nd2 ed) (inY _ _ _ _ _ _ _ nsl es) ?_ ?_ ?_
  · exact heldL_tk (fun b xs z => inY _ _ _ _ _ b _ (ne_of z c3 (by intro y; cases y)) z) hH
  · rw [upd_ne nfc, upd_same]
  · exact inX sl _ nsl es
end
end LW
set_option Elab.async false
set_option linter.all false
set_option maxRecDepth 100000
set_option maxHeartbeats 1000000
namespace LW
open PySem L2
inductive Runs (sx : List Sx) (most : Int) : Nat → Mc → En × Nat → Prop where
  | stop {m : Mc} {r : En × Nat} (h : mstep sx most m = .inl r) : Runs sx most 0 m r
  | more {k : Nat} {m m' : Mc} {r : En × Nat} (h : mstep sx most m = .inr m') (t : Runs sx most k m' r) : Runs sx most (k + 1) m r
def RunsTo (sx : List Sx) (most : Int) (m : Mc) (r : En × Nat) : Prop := ∃ k, Runs sx most k m r
theorem RunsTo.more {sx : List Sx} {most : Int} {m m' : Mc} {r : En × Nat} (h : mstep sx most m = .inr m') (t : RunsTo sx most m' r) : RunsTo sx most m r := by
  obtain ⟨k, t⟩ := t
  exact ⟨k + 1, .more h t⟩
theorem RunsTo.stop {sx : List Sx} {most : Int} {m : Mc} {r : En × Nat} (h : mstep sx most m = .inl r) : RunsTo sx most m r := ⟨0, .stop h⟩
theorem mstep_free {sx : List Sx} {most : Int} {m : Mc} (h : (m.used : Int) ≠ most) : mstep sx most m = mstep sx (-1) m := by
  unfold mstep
  split
  · rfl
  · rfl
  · rw [if_neg h, if_neg (by omega)]
theorem mstep_used {sx : List Sx} {m m' : Mc} (h : mstep sx (-1) m = .inr m') : m'.used = m.used ∨ m'.used = m.used + 1 := by
  unfold mstep at h
  split at h
  · cases h
  · cases h; exact .inl rfl
  · rw [if_neg (by omega)] at h
    split at h
    · split at h
      · cases h
      · cases h; exact .inr rfl
    · cases h; exact .inr rfl
    · cases h; exact .inr rfl
theorem mstep_used_end {sx : List Sx} {m : Mc} {e : En} {u : Nat} (h : mstep sx (-1) m = .inl (e, u)) : (u = m.used ∧ ∀ most, mstep sx most m = .inl (e, u)) ∨ u = m.used + 1 := by
  unfold mstep at h ⊢
  split at h
  · rename_i hn
    cases h
    exact .inl ⟨rfl, fun most => rfl⟩
  · cases h
  · rw [if_neg (by omega)] at h
    split at h
    · split at h
      · cases h; exact .inr rfl
      · cases h
    · cases h
    · cases h
theorem mstep_spent {sx : List Sx} {m : Mc} : mstep sx (m.used : Int) m = .inl (.spent, m.used) ∨ (mstep sx (m.used : Int) m = mstep sx (-1) m ∧ (∀ m', mstep sx (-1) m = .inr m' → m'.used = m.used) ∧ ∀ e u, mstep sx (-1) m = .inl (e, u) → u = m.used) := by
  unfold mstep
  split
  · exact .inr ⟨rfl, fun m' h => (by cases h), fun e u h => (by cases h; rfl)⟩
  · exact .inr ⟨rfl, fun m' h => (by cases h; rfl), fun e u h => (by cases h)⟩
  · left
    rw [if_pos rfl]
theorem runs_used {sx : List Sx} {k : Nat} {m : Mc} {r : En × Nat} (h : Runs sx (-1) k m r) : m.used ≤ r.2 := by
  induction h with
  | @stop m r h =>
    obtain ⟨e, u⟩ := r
    rcases mstep_used_end h with ⟨g, _⟩ | g
    · exact Nat.le_of_eq g.symm
    · show m.used ≤ u; omega
  | @more k m m' r h t ih =>
    rcases mstep_used h with g | g <;> omega
theorem runs_limit {sx : List Sx} {most : Nat} {k : Nat} {m : Mc} {r : En × Nat} (h : Runs sx (-1) k m r) : m.used ≤ most → (r.2 ≤ most → RunsTo sx most m r) ∧ (most < r.2 → RunsTo sx most m (.spent, most)) := by
  induction h with
  | @stop m r h =>
    intro hm
    obtain ⟨e, u⟩ := r
    rcases Nat.lt_or_ge m.used most with g | g
    · have hf := mstep_free (sx := sx) (m := m) (most := most) (by omega)
      refine ⟨fun _ => .stop (by rw [hf]; exact h), fun hu => ?_⟩
      exfalso
      rcases mstep_used_end h with ⟨g', _⟩ | g'
      · have : most < u := hu; omega
      · have : most < u := hu; omega
    · have e1 : most = m.used := by omega
      subst e1
      rcases mstep_spent (sx := sx) (m := m) with g' | ⟨g1, g2, g3⟩
      · refine ⟨fun hu => ?_, fun _ => .stop g'⟩
        have hu' : u ≤ m.used := hu
        rcases mstep_used_end h with ⟨_, g2⟩ | g2
        · exact .stop (g2 _)
        · omega
      · refine ⟨fun _ => .stop (by rw [g1]; exact h), fun hu => ?_⟩
        have : m.used < u := hu
        have := g3 e u h
        omega
  | @more k m m' r h t ih =>
    intro hm
    rcases Nat.lt_or_ge m.used most with g | g
    · have hf := mstep_free (sx := sx) (m := m) (most := most) (by omega)
      have hm' : m'.used ≤ most := by rcases mstep_used h with g' | g' <;> omega
      obtain ⟨i1, i2⟩ := ih hm'
      exact ⟨fun hu => .more (by rw [hf]; exact h) (i1 hu), fun hu => .more (by rw [hf]; exact h) (i2 hu)⟩
    · have e1 : most = m.used := by omega
      subst e1
      have hge := runs_used t
      rcases mstep_spent (sx := sx) (m := m) with g' | ⟨g1, g2, g3⟩
      · refine ⟨fun hu => ?_, fun _ => .stop g'⟩
        rcases mstep_used h with g2 | g2
        · exfalso
          unfold mstep at h g'
          split at h
          · cases h
          · rename_i n hn
            rw [hn] at g'
            cases g'
          · rw [if_neg (by omega)] at h
            split at h
            · split at h
              · cases h
              · cases h; simp at g2
            · cases h; simp at g2
            · cases h; simp at g2
        · omega
      · have hm' := g2 m' h
        obtain ⟨i1, i2⟩ := ih (by omega)
        exact ⟨fun hu => .more (by rw [g1]; exact h) (i1 hu), fun hu => .more (by rw [g1]; exact h) (i2 hu)⟩
end LW
set_option Elab.async false
set_option linter.all false
set_option maxRecDepth 100000
set_option maxHeartbeats 1000000
namespace LW
open PySem L2
structure Nm where
  n : Str
  t : Str
  a : Str
  b : Str
  c : Str
  i : Str
  x : Str
structure Nm.Ok (w : Nm) : Prop where
  ec : w.c ≠ ""
  ei : w.i ≠ ""
  ex : w.x ≠ ""
  cn : w.n ≠ w.c
  ct : w.t ≠ w.c
  ca : w.a ≠ w.c
  cb : w.b ≠ w.c
  ci : w.i ≠ w.c
  cx : w.x ≠ w.c
  inn : w.n ≠ w.i
  it : w.t ≠ w.i
  ia : w.a ≠ w.i
  ib : w.b ≠ w.i
  ix : w.x ≠ w.i
  xn : w.n ≠ w.x
  xt : w.t ≠ w.x
  xa : w.a ≠ w.x
  xb : w.b ≠ w.x
structure Sv (w : Nm) (near : Int) (R T A B : Nat) (N : List (Str × Int)) (c i x : Nat) : Prop where
  n : numA N w.n = near + R
  t : numA N w.t = near + T
  a : numA N w.a = near + A
  b : numA N w.b = near + B
  c : numA N w.c = near + c
  i : numA N w.i = near + i
  x : numA N w.x = near + x
section
variable {w : Nm} {near : Int} {R T A B : Nat} {N : List (Str × Int)} {c i x : Nat}
theorem Sv.incC (h : Sv w near R T A B N c i x) (ok : w.Ok) : Sv w near R T A B (putA N w.c (numA N w.c + 1)) (c + 1) i x :=
  ⟨by rw [num_put _ _ _ _ ok.ec, if_neg ok.cn]; exact h.n, by rw [num_put _ _ _ _ ok.ec, if_neg ok.ct]; exact h.t, by rw [num_put _ _ _ _ ok.ec, if_neg ok.ca]; exact h.a, by rw [num_put _ _ _ _ ok.ec, if_neg ok.cb]; exact h.b, by rw [num_put _ _ _ _ ok.ec, if_pos rfl, h.c]; omega, by rw [num_put _ _ _ _ ok.ec, if_neg ok.ci]; exact h.i, by rw [num_put _ _ _ _ ok.ec, if_neg ok.cx]; exact h.x⟩
theorem Sv.setI (h : Sv w near R T A B N c i x) (ok : w.Ok) {v : Int} {i' : Nat} (hv : v = near + i') : Sv w near R T A B (putA N w.i v) c i' x :=
  ⟨by rw [num_put _ _ _ _ ok.ei, if_neg ok.inn]; exact h.n, by rw [num_put _ _ _ _ ok.ei, if_neg ok.it]; exact h.t, by rw [num_put _ _ _ _ ok.ei, if_neg ok.ia]; exact h.a, by rw [num_put _ _ _ _ ok.ei, if_neg ok.ib]; exact h.b, by rw [num_put _ _ _ _ ok.ei, if_neg (Ne.symm ok.ci)]; exact h.c, by rw [num_put _ _ _ _ ok.ei, if_pos rfl]; exact hv, by rw [num_put _ _ _ _ ok.ei, if_neg ok.ix]; exact h.x⟩
theorem Sv.incX (h : Sv w near R T A B N c i x) (ok : w.Ok) : Sv w near R T A B (putA N w.x (numA N w.x + 1)) c i (x + 1) :=
  ⟨by rw [num_put _ _ _ _ ok.ex, if_neg ok.xn]; exact h.n, by rw [num_put _ _ _ _ ok.ex, if_neg ok.xt]; exact h.t, by rw [num_put _ _ _ _ ok.ex, if_neg ok.xa]; exact h.a, by rw [num_put _ _ _ _ ok.ex, if_neg ok.xb]; exact h.b, by rw [num_put _ _ _ _ ok.ex, if_neg (Ne.symm ok.cx)]; exact h.c, by rw [num_put _ _ _ _ ok.ex, if_neg (Ne.symm ok.ix)]; exact h.i, by rw [num_put _ _ _ _ ok.ex, if_pos rfl, h.x]; omega⟩
end
section
variable {sx : List Sx} {N : List (Str × Int)} {p u : Nat}
theorem st_set {x y : Str} {c : Int} {pa : List Int} (h : sx[p]? = some (.set x y c pa)) : mstep sx (-1) ⟨N, p, u⟩ = .inr ⟨putA N x (numA N y + c), p + 1, u + 1⟩ := by
  unfold mstep
  rw [h]
  dsimp only
  rw [if_neg (by omega)]
theorem st_come (h : sx[p]? = some .come) : mstep sx (-1) ⟨N, p, u⟩ = .inr ⟨N, p + 1, u + 1⟩ := by
  unfold mstep
  rw [h]
  dsimp only
  rw [if_neg (by omega)]
theorem st_go {n : Nat} (h : sx[p]? = some (.go n)) : mstep sx (-1) ⟨N, p, u⟩ = .inr ⟨N, n, u⟩ := by
  unfold mstep
  rw [h]
theorem st_ask {le : Lc} {cs : List Lc} {kd : Str} {pa : List Int} {yes no : Nat} (h : sx[p]? = some (.ask le cs kd pa yes no)) (hu : untrueAt N cs = none) : mstep sx (-1) ⟨N, p, u⟩ = .inr ⟨N, if lcT N le = true then yes else no, u + 1⟩ := by
  unfold mstep
  rw [h]
  dsimp only
  rw [if_neg (by omega), hu]
theorem st_untrue {le : Lc} {cs : List Lc} {kd : Str} {pa : List Int} {yes no k : Nat} (h : sx[p]? = some (.ask le cs kd pa yes no)) (hu : untrueAt N cs = some k) : mstep sx (-1) ⟨N, p, u⟩ = .inl (.untrue kd pa k, u + 1) := by
  unfold mstep
  rw [h]
  dsimp only
  rw [if_neg (by omega), hu]
theorem st_end (h : sx[p]? = none) : mstep sx (-1) ⟨N, p, u⟩ = .inl (.done (numA N "out"), u) := by
  unfold mstep
  rw [h]
end
structure Inner (sx : List Sx) (w : Nm) (keeps : List Lc) (path : List Int) (e q : Nat) : Prop where
  a0 : sx[e]? = some .come
  a1 : sx[e + 1]? = some (.ask (w.n, w.i, 1) keeps "enter" path (e + 2) q)
  a2 : ∃ p, sx[e + 2]? = some (.set w.i w.i 1 p)
  a3 : ∃ p, sx[e + 3]? = some (.set w.x w.x 1 p)
  a4 : sx[e + 4]? = some (.ask (w.n, w.i, 1) keeps "keep" path (e + 2) q)
structure Says (w : Nm) (near : Int) (R T A B : Nat) (keeps : List Lc) (tot : Prop) (pe pk : Nat) : Prop where
  enter1 : ∀ N c x, Sv w near R T A B N c 0 x → c < A → (tot → x < B) → untrueAt N keeps = none
  enter2 : ∀ N c x, Sv w near R T A B N c 0 x → A ≤ c → (tot → x < B) → untrueAt N keeps = some pe
  keep1 : ∀ N c i x, Sv w near R T A B N c i x → c < A → i ≤ R → (tot → x < B) → untrueAt N keeps = none
  keep2 : ∀ N c i x, Sv w near R T A B N c i x → c < A → i ≤ R → tot → B ≤ x → untrueAt N keeps = some pk
theorem le_one {w : Nm} {near : Int} {R T A B : Nat} {N : List (Str × Int)} {c i x : Nat} (h : Sv w near R T A B N c i x) : lcT N (w.n, w.i, 1) = decide (i < R) := by
  unfold lcT leT
  dsimp only
  rw [h.n, h.i]
  by_cases g : i < R
  · rw [decide_eq_true g, decide_eq_true (by omega)]
  · rw [decide_eq_false g, decide_eq_false (by omega)]
theorem le_two {w : Nm} {near : Int} {R T A B : Nat} {N : List (Str × Int)} {c i x : Nat} (h : Sv w near R T A B N c i x) : lcT N (w.t, w.c, 1) = decide (c < T) := by
  unfold lcT leT
  dsimp only
  rw [h.t, h.c]
  by_cases g : c < T
  · rw [decide_eq_true g, decide_eq_true (by omega)]
  · rw [decide_eq_false g, decide_eq_false (by omega)]
section
variable {sx : List Sx} {w : Nm} {near : Int} {R T A B : Nat} {keeps : List Lc} {path : List Int} {e q : Nat} {tot : Prop} {pe pk : Nat}
theorem inner_on (ok : w.Ok) (I : Inner sx w keeps path e q) (S : Says w near R T A B keeps tot pe pk) {c : Nat} (hc : c < A) : ∀ (d s x u : Nat) (N : List (Str × Int)), s + (d + 1) = R → Sv w near R T A B N c s x → (tot → x < B) →
    ((tot ∧ B ≤ x + (d + 1)) → RunsTo sx (-1) ⟨N, e + 2, u⟩ (.untrue "keep" path pk, u + 3 * (B - x))) ∧
    ((tot → x + (d + 1) < B) → ∀ r, (∀ N', Sv w near R T A B N' c R (x + (d + 1)) → RunsTo sx (-1) ⟨N', q, u + 3 * (d + 1)⟩ r) → RunsTo sx (-1) ⟨N, e + 2, u⟩ r) := by
  intro d
  induction d with
  | zero =>
    intro s x u N hs hS hx
    obtain ⟨p2, a2⟩ := I.a2
    obtain ⟨p3, a3⟩ := I.a3
    have h1 := hS.setI ok (v := numA N w.i + 1) (i' := s + 1) (by rw [hS.i]; omega)
    have h2 := h1.incX ok
    refine ⟨fun ht => ?_, fun ht r hr => ?_⟩
    · have e1 : B - x = 1 := by have := hx ht.1; omega
      rw [e1]
      refine .more (st_set a2) (.more (st_set a3) (.stop ?_))
      exact st_untrue I.a4 (S.keep2 _ _ _ _ h2 hc (by omega) ht.1 (by omega))
    · refine .more (st_set a2) (.more (st_set a3) (.more (st_ask I.a4 (S.keep1 _ _ _ _ h2 hc (by omega) (fun t => by have := ht t; omega))) ?_))
      rw [le_one h2, if_neg (by rw [decide_eq_true_iff]; omega)]
      have hR : s + 1 = R := by omega
      rw [hR] at h2
      exact hr _ h2
  | succ d ih =>
    intro s x u N hs hS hx
    obtain ⟨p2, a2⟩ := I.a2
    obtain ⟨p3, a3⟩ := I.a3
    have h1 := hS.setI ok (v := numA N w.i + 1) (i' := s + 1) (by rw [hS.i]; omega)
    have h2 := h1.incX ok
    refine ⟨fun ht => ?_, fun ht r hr => ?_⟩
    · by_cases hB : B ≤ x + 1
      · have e1 : B - x = 1 := by have := hx ht.1; omega
        rw [e1]
        refine .more (st_set a2) (.more (st_set a3) (.stop ?_))
        exact st_untrue I.a4 (S.keep2 _ _ _ _ h2 hc (by omega) ht.1 (by omega))
      · refine .more (st_set a2) (.more (st_set a3) (.more (st_ask I.a4 (S.keep1 _ _ _ _ h2 hc (by omega) (fun t => by omega))) ?_))
        rw [le_one h2, if_pos (decide_eq_true (by omega))]
        have := (ih (s + 1) (x + 1) (u + 1 + 1 + 1) _ (by omega) h2 (fun t => by omega)).1 ⟨ht.1, by omega⟩
        rw [show u + 3 * (B - x) = u + 1 + 1 + 1 + 3 * (B - (x + 1)) by omega]
        exact this
    · refine .more (st_set a2) (.more (st_set a3) (.more (st_ask I.a4 (S.keep1 _ _ _ _ h2 hc (by omega) (fun t => by have := ht t; omega))) ?_))
      rw [le_one h2, if_pos (decide_eq_true (by omega))]
      refine (ih (s + 1) (x + 1) (u + 1 + 1 + 1) _ (by omega) h2 (fun t => by have := ht t; omega)).2 (fun t => by have := ht t; omega) r fun N' hN' => ?_
      rw [show x + 1 + (d + 1) = x + (d + 1 + 1) by omega] at hN'
      have := hr N' hN'
      rw [show u + 1 + 1 + 1 + 3 * (d + 1) = u + 3 * (d + 1 + 1) by omega]
      exact this
end
end LW
set_option Elab.async false
set_option linter.all false
set_option maxRecDepth 100000
set_option maxHeartbeats 1000000
namespace LW
open PySem L2
section
variable {sx : List Sx} {w : Nm} {near : Int} {R T A B : Nat} {keeps : List Lc} {path : List Int} {e q : Nat} {tot : Prop} {pe pk : Nat}
theorem inner_all (ok : w.Ok) (I : Inner sx w keeps path e q) (S : Says w near R T A B keeps tot pe pk) {c x u : Nat} {N : List (Str × Int)} (hS : Sv w near R T A B N c 0 x) (hx : tot → x < B) :
    (A ≤ c → RunsTo sx (-1) ⟨N, e, u⟩ (.untrue "enter" path pe, u + 2)) ∧
    (c < A → tot → B ≤ x + R → RunsTo sx (-1) ⟨N, e, u⟩ (.untrue "keep" path pk, u + 2 + 3 * (B - x))) ∧
    (c < A → (tot → x + R < B) → ∀ r, (∀ N', Sv w near R T A B N' c R (x + R) → RunsTo sx (-1) ⟨N', q, u + 2 + 3 * R⟩ r) → RunsTo sx (-1) ⟨N, e, u⟩ r) := by
  refine ⟨fun hA => ?_, fun hA ht hB => ?_, fun hA ht r hr => ?_⟩
  · exact .more (st_come I.a0) (.stop (st_untrue I.a1 (S.enter2 _ _ _ hS hA hx)))
  · have hR : 0 < R := by have := hx ht; omega
    refine .more (st_come I.a0) (.more (st_ask I.a1 (S.enter1 _ _ _ hS hA hx)) ?_)
    rw [le_one hS, if_pos (decide_eq_true hR)]
    exact (inner_on ok I S hA (R - 1) 0 x (u + 1 + 1) N (by omega) hS hx).1 ⟨ht, by omega⟩
  · refine .more (st_come I.a0) (.more (st_ask I.a1 (S.enter1 _ _ _ hS hA hx)) ?_)
    rw [le_one hS]
    by_cases hR : 0 < R
    · rw [if_pos (decide_eq_true hR)]
      refine (inner_on ok I S hA (R - 1) 0 x (u + 1 + 1) N (by omega) hS hx).2 (fun t => by have := ht t; omega) r fun N' hN' => ?_
      rw [show x + (R - 1 + 1) = x + R by omega] at hN'
      rw [show u + 1 + 1 + 3 * (R - 1 + 1) = u + 2 + 3 * R by omega]
      exact hr N' hN'
    · have e0 : R = 0 := by omega
      subst e0
      rw [if_neg (by rw [decide_eq_true_iff]; omega)]
      exact hr N hS
end
structure Outer (sx : List Sx) (w : Nm) (near : Int) (e q r dl : Nat) : Prop where
  b0 : ∃ p, sx[0]? = some (.set w.c "" near p)
  b1 : ∃ p, sx[1]? = some (.set w.x "" near p)
  b2 : sx[2]? = some .come
  b3 : sx[3]? = some (.ask (w.t, w.c, 1) [] "enter" [2] 4 (r + 2))
  b4 : ∃ p, sx[4]? = some (.set w.i "" near p)
  b5 : (dl = 0 ∧ e = 5) ∨ (dl = 1 ∧ ∃ k p y n, sx[5]? = some (.ask (w.c, w.c, k) [] "" p y n) ∧ (if (k : Int) ≤ 0 then y else n) = e)
  b6 : q = r ∨ sx[q]? = some (.go r)
  b7 : ∃ p, sx[r]? = some (.set w.c w.c 1 p)
  b8 : sx[r + 1]? = some (.ask (w.t, w.c, 1) [] "keep" [2] 4 (r + 2))
  b9 : ∃ p, sx[r + 2]? = some (.set "out" w.x 0 p)
  b10 : sx[r + 3]? = none
open Classical in
noncomputable def atOf (R B : Nat) (tot : Prop) : Option Nat := if tot ∧ 0 < R then some ((B - 1) / R) else none
open Classical in
noncomputable def dueOf (near : Int) (R T A B dl : Nat) (path : List Int) (tot : Prop) (pe pk : Nat) : En × Nat :=
  if A < T ∧ (∀ a, atOf R B tot = some a → A ≤ a) then (.untrue "enter" path pe, 6 + dl + A * (5 + 3 * R + dl) + 1)
  else match atOf R B tot with
    | some a => if a < T then (.untrue "keep" path pk, 6 + dl + a * (5 + 3 * R + dl) + 3 * (B - a * R) + 1) else (.done (near + ((R * T : Nat) : Int)), 5 + T * (5 + 3 * R + dl))
    | none => (.done (near + ((R * T : Nat) : Int)), 5 + T * (5 + 3 * R + dl))
theorem un_nil (N : List (Str × Int)) : untrueAt N [] = none := rfl
theorem div_at {R B j : Nat} (hR : 0 < R) (h1 : R * j < B) (h2 : B ≤ R * (j + 1)) : (B - 1) / R = j := by
  rw [Nat.mul_succ] at h2
  apply Nat.div_eq_of_lt_le
  · rw [Nat.mul_comm]; omega
  · rw [Nat.succ_mul, Nat.mul_comm]; omega
theorem div_ge {R B j : Nat} (hR : 0 < R) (h1 : R * j < B) : j ≤ (B - 1) / R := by
  rw [Nat.le_div_iff_mul_le hR, Nat.mul_comm]
  omega
structure Sv0 (w : Nm) (near : Int) (R T A B : Nat) (N : List (Str × Int)) (c x : Nat) : Prop where
  n : numA N w.n = near + R
  t : numA N w.t = near + T
  a : numA N w.a = near + A
  b : numA N w.b = near + B
  c : numA N w.c = near + c
  x : numA N w.x = near + x
theorem Sv.to0 {w : Nm} {near : Int} {R T A B : Nat} {N : List (Str × Int)} {c i x : Nat} (h : Sv w near R T A B N c i x) : Sv0 w near R T A B N c x := ⟨h.n, h.t, h.a, h.b, h.c, h.x⟩
theorem Sv0.setI {w : Nm} {near : Int} {R T A B : Nat} {N : List (Str × Int)} {c x : Nat} (h : Sv0 w near R T A B N c x) (ok : w.Ok) {v : Int} {i' : Nat} (hv : v = near + i') : Sv w near R T A B (putA N w.i v) c i' x :=
  ⟨by rw [num_put _ _ _ _ ok.ei, if_neg ok.inn]; exact h.n, by rw [num_put _ _ _ _ ok.ei, if_neg ok.it]; exact h.t, by rw [num_put _ _ _ _ ok.ei, if_neg ok.ia]; exact h.a, by rw [num_put _ _ _ _ ok.ei, if_neg ok.ib]; exact h.b, by rw [num_put _ _ _ _ ok.ei, if_neg (Ne.symm ok.ci)]; exact h.c, by rw [num_put _ _ _ _ ok.ei, if_pos rfl]; exact hv, by rw [num_put _ _ _ _ ok.ei, if_neg ok.ix]; exact h.x⟩
theorem le_two0 {w : Nm} {near : Int} {R T A B : Nat} {N : List (Str × Int)} {c x : Nat} (h : Sv0 w near R T A B N c x) : lcT N (w.t, w.c, 1) = decide (c < T) := by
  unfold lcT leT
  dsimp only
  rw [h.t, h.c]
  by_cases g : c < T
  · rw [decide_eq_true g, decide_eq_true (by omega)]
  · rw [decide_eq_false g, decide_eq_false (by omega)]
section
variable {sx : List Sx} {w : Nm} {near : Int} {R T A B : Nat} {keeps : List Lc} {path : List Int} {e q r dl : Nat} {tot : Prop} {pe pk : Nat}
theorem lc_self {N : List (Str × Int)} {c : Str} {k : Int} : lcT N (c, c, k) = decide (k ≤ 0) := by
  unfold lcT leT
  dsimp only
  by_cases h : k ≤ 0
  · rw [decide_eq_true h, decide_eq_true (by omega)]
  · rw [decide_eq_false h, decide_eq_false (by omega)]
theorem outer_round (ok : w.Ok) (O : Outer sx w near e q r dl) (I : Inner sx w keeps path e q) (S : Says w near R T A B keeps tot pe pk) {j u : Nat} {N : List (Str × Int)} (hj : j < T) (hA : j ≤ A) (hB : tot → R * j < B) (hS : Sv0 w near R T A B N j (R * j)) (hu : u = 4 + j * (5 + 3 * R + dl))
    (cont : j < A → (tot → R * j + R < B) → ∀ N', Sv w near R T A B N' j R (R * j + R) → RunsTo sx (-1) ⟨N', r, u + 1 + dl + 2 + 3 * R⟩ (dueOf near R T A B dl path tot pe pk)) : RunsTo sx (-1) ⟨N, 4, u⟩ (dueOf near R T A B dl path tot pe pk) := by
  obtain ⟨p4, b4⟩ := O.b4
  have h1 := hS.setI ok (v := numA N "" + near) (i' := 0) (by unfold numA; rw [if_pos rfl]; omega)
  refine .more (st_set b4) ?_
  generalize putA N w.i (numA N "" + near) = N1 at *
  have go : RunsTo sx (-1) ⟨N1, e, u + 1 + dl⟩ (dueOf near R T A B dl path tot pe pk) → RunsTo sx (-1) ⟨N1, 4 + 1, u + 1⟩ (dueOf near R T A B dl path tot pe pk) := by
    intro h
    rcases O.b5 with ⟨rfl, rfl⟩ | ⟨rfl, k, p, y, n, b5, he⟩
    · exact h
    · refine .more (st_ask b5 (un_nil _)) ?_
      rw [lc_self]
      have : (if decide (k ≤ 0) = true then y else n) = e := by
        rw [← he]
        by_cases hk : k ≤ 0
        · rw [if_pos (decide_eq_true hk), if_pos hk]
        · rw [if_neg (fun z => hk (of_decide_eq_true z)), if_neg hk]
      rw [this]
      exact h
  apply go
  clear go
  obtain ⟨i1, i2, i3⟩ := inner_all ok I S (u := u + 1 + dl) h1 hB
  rcases Nat.lt_or_ge j A with hlt | hge
  · by_cases hk : tot ∧ B ≤ R * j + R
    · have hR : 0 < R := by have := hB hk.1; omega
      have hat : atOf R B tot = some j := by
        unfold atOf
        rw [if_pos ⟨hk.1, hR⟩, div_at hR (hB hk.1) (by rw [Nat.mul_succ]; exact hk.2)]
      have hd : dueOf near R T A B dl path tot pe pk = (.untrue "keep" path pk, u + 1 + dl + 2 + 3 * (B - R * j)) := by
        unfold dueOf
        rw [if_neg (fun h => by have := h.2 j hat; omega), hat]
        dsimp only
        rw [if_pos hj, Nat.mul_comm j R, hu]
        congr 1
        omega
      rw [hd]
      exact i2 hlt hk.1 hk.2
    · refine i3 hlt (fun t => ?_) _ fun N' hN' => ?_
      · rcases Nat.lt_or_ge (R * j + R) B with g | g
        · exact g
        · exact absurd ⟨t, g⟩ hk
      · have hc := cont hlt (fun t => by
          rcases Nat.lt_or_ge (R * j + R) B with g | g
          · exact g
          · exact absurd ⟨t, g⟩ hk) N' hN'
        rcases O.b6 with rfl | b6
        · exact hc
        · exact .more (st_go b6) hc
  · have hjA : j = A := by omega
    have hcond : A < T ∧ (∀ a, atOf R B tot = some a → A ≤ a) := by
      refine ⟨by omega, fun a ha => ?_⟩
      unfold atOf at ha
      split at ha
      · rename_i h
        cases ha
        rw [← hjA]
        exact div_ge h.2 (hB h.1)
      · cases ha
    have hd : dueOf near R T A B dl path tot pe pk = (.untrue "enter" path pe, u + 1 + dl + 2) := by
      unfold dueOf
      rw [if_pos hcond, hu, hjA]
      congr 1
      omega
    rw [hd]
    exact i1 hge
theorem due_done (h1 : T ≤ A) (h2 : tot → R * T < B) : dueOf near R T A B dl path tot pe pk = (.done (near + ((R * T : Nat) : Int)), 5 + T * (5 + 3 * R + dl)) := by
  unfold dueOf
  rw [if_neg (fun h => by omega)]
  unfold atOf
  by_cases ht : tot ∧ 0 < R
  · rw [if_pos ht]
    dsimp only
    have := div_ge ht.2 (h2 ht.1)
    rw [if_neg (by omega)]
  · rw [if_neg ht]
theorem fin_run (ok : w.Ok) (O : Outer sx w near e q r dl) {c x u : Nat} {N : List (Str × Int)} (hS : Sv0 w near R T A B N c x) : RunsTo sx (-1) ⟨N, r + 2, u⟩ (.done (near + (x : Int)), u + 1) := by
  obtain ⟨p9, b9⟩ := O.b9
  refine .more (st_set b9) (.stop ?_)
  rw [st_end O.b10, num_put _ _ _ _ (by decide), if_pos rfl, hS.x]
  rw [Int.add_zero]
theorem outer_on (ok : w.Ok) (O : Outer sx w near e q r dl) (I : Inner sx w keeps path e q) (S : Says w near R T A B keeps tot pe pk) : ∀ (d j u : Nat) (N : List (Str × Int)), j + (d + 1) = T → j ≤ A → (tot → R * j < B) → Sv0 w near R T A B N j (R * j) → u = 4 + j * (5 + 3 * R + dl) → RunsTo sx (-1) ⟨N, 4, u⟩ (dueOf near R T A B dl path tot pe pk) := by
  intro d
  induction d with
  | zero =>
    intro j u N hT hA hB hS hu
    refine outer_round ok O I S (by omega) hA hB hS hu fun hlt ht N' hN' => ?_
    obtain ⟨p7, b7⟩ := O.b7
    have h1 := hN'.incC ok
    have hRj : R * j + R = R * T := by rw [← hT, Nat.zero_add, Nat.mul_succ]
    refine .more (st_set b7) (.more (st_ask O.b8 (un_nil _)) ?_)
    rw [le_two h1, if_neg (by rw [decide_eq_true_iff]; omega)]
    rw [due_done (by omega) (fun t => by rw [← hRj]; exact ht t)]
    rw [hRj] at h1
    have := fin_run (u := u + 1 + dl + 2 + 3 * R + 1 + 1) ok O h1.to0
    have e2 : u + 1 + dl + 2 + 3 * R + 1 + 1 + 1 = 5 + T * (5 + 3 * R + dl) := by
      rw [hu, ← hT, Nat.zero_add, Nat.add_mul j 1, Nat.one_mul]
      omega
    rw [e2] at this
    exact this
  | succ d ih =>
    intro j u N hT hA hB hS hu
    refine outer_round ok O I S (by omega) hA hB hS hu fun hlt ht N' hN' => ?_
    obtain ⟨p7, b7⟩ := O.b7
    have h1 := hN'.incC ok
    have hRj : R * j + R = R * (j + 1) := by rw [Nat.mul_succ]
    refine .more (st_set b7) (.more (st_ask O.b8 (un_nil _)) ?_)
    rw [le_two h1, if_pos (decide_eq_true (by omega))]
    rw [hRj] at h1
    refine ih (j + 1) _ _ (by omega) (by omega) (fun t => by rw [← hRj]; exact ht t) h1.to0 ?_
    rw [hu, Nat.add_mul j 1, Nat.one_mul]
    omega
theorem whole_run (ok : w.Ok) (O : Outer sx w near e q r dl) (I : Inner sx w keeps path e q) (S : Says w near R T A B keeps tot pe pk) (hB : 0 < B) {N : List (Str × Int)} (hn : numA N w.n = near + R) (ht : numA N w.t = near + T) (ha : numA N w.a = near + A) (hb : numA N w.b = near + B) : RunsTo sx (-1) ⟨N, 0, 0⟩ (dueOf near R T A B dl path tot pe pk) := by
  obtain ⟨p0, b0⟩ := O.b0
  obtain ⟨p1, b1⟩ := O.b1
  refine .more (st_set b0) (.more (st_set b1) (.more (st_come O.b2) (.more (st_ask O.b3 (un_nil _)) ?_)))
  have e0 : ∀ M : List (Str × Int), numA M "" = 0 := fun M => by unfold numA; rw [if_pos rfl]
  rw [e0, e0]
  have hS : Sv0 w near R T A B (putA (putA N w.c (0 + near)) w.x (0 + near)) 0 0 := by
    refine ⟨?_, ?_, ?_, ?_, ?_, ?_⟩
    · rw [num_put _ _ _ _ ok.ex, if_neg ok.xn, num_put _ _ _ _ ok.ec, if_neg ok.cn]; exact hn
    · rw [num_put _ _ _ _ ok.ex, if_neg ok.xt, num_put _ _ _ _ ok.ec, if_neg ok.ct]; exact ht
    · rw [num_put _ _ _ _ ok.ex, if_neg ok.xa, num_put _ _ _ _ ok.ec, if_neg ok.ca]; exact ha
    · rw [num_put _ _ _ _ ok.ex, if_neg ok.xb, num_put _ _ _ _ ok.ec, if_neg ok.cb]; exact hb
    · rw [num_put _ _ _ _ ok.ex, if_neg (Ne.symm ok.cx), num_put _ _ _ _ ok.ec, if_pos rfl]; omega
    · rw [num_put _ _ _ _ ok.ex, if_pos rfl]; omega
  generalize putA (putA N w.c (0 + near)) w.x (0 + near) = N1 at *
  rw [le_two0 hS]
  by_cases hT : 0 < T
  · rw [if_pos (decide_eq_true hT)]
    exact outer_on ok O I S (T - 1) 0 _ _ (by omega) (by omega) (fun _ => by rw [Nat.mul_zero]; exact hB) (by rw [Nat.mul_zero]; exact hS) (by rw [Nat.zero_mul])
  · have h0 : T = 0 := by omega
    subst h0
    rw [if_neg (by rw [decide_eq_true_iff]; omega), due_done (by omega) (fun _ => by rw [Nat.mul_zero]; exact hB)]
    have := fin_run (u := 0 + 1 + 1 + 1 + 1) ok O hS
    rw [Nat.mul_zero, Nat.zero_mul]
    exact this
end
end LW
set_option Elab.async false
set_option linter.all false
set_option maxRecDepth 100000
namespace LW
open PySem L2
def Wf (sx : List Sx) : Prop := ∀ (i : Nat) s, sx[i]? = some s → match s with
  | .go n => n ≤ sx.length
  | .ask _ _ _ _ y n => y ≤ sx.length ∧ n ≤ sx.length
  | _ => True
theorem mstep_keeps {sx : List Sx} {most : Int} {m m' : Mc} (wf : Wf sx) (h : mstep sx most m = .inr m') (hl : m.N.length ≤ 4 + m.used) : m'.i ≤ sx.length ∧ m'.N.length ≤ 4 + m'.used ∧ m.used ≤ m'.used := by
  unfold mstep at h
  split at h
  · cases h
  · rename_i n hn
    cases h
    exact ⟨wf _ _ hn, hl, Nat.le_refl _⟩
  · rename_i s _ hs
    split at h
    · cases h
    · split at h
      · rename_i le cs kd p yes no _
        split at h
        · cases h
        · cases h
          have := wf _ _ hs
          refine ⟨?_, by dsimp only; omega, by dsimp only; omega⟩
          dsimp only
          split
          · exact this.1
          · exact this.2
      · cases h
        have hlt := (List.getElem?_eq_some_iff.mp hs).1
        have hp := putA_len m.N
        refine ⟨by dsimp only; omega, ?_, by dsimp only; omega⟩
        dsimp only
        exact Nat.le_trans (hp _ _) (by omega)
      · cases h
        have hlt := (List.getElem?_eq_some_iff.mp hs).1
        exact ⟨by dsimp only; omega, by dsimp only; omega, by dsimp only; omega⟩
theorem mstep_end_used {sx : List Sx} {most : Int} {m : Mc} {e : En} {u : Nat} (h : mstep sx most m = .inl (e, u)) : m.used ≤ u := by
  unfold mstep at h
  split at h
  · cases h; exact Nat.le_refl _
  · cases h
  · split at h
    · cases h; exact Nat.le_refl _
    · split at h
      · split at h
        · cases h; omega
        · cases h
      · cases h
      · cases h
theorem runs_used' {sx : List Sx} {most : Int} {k : Nat} {m : Mc} {r : En × Nat} (wf : Wf sx) (h : Runs sx most k m r) : m.N.length ≤ 4 + m.used → m.used ≤ r.2 := by
  induction h with
  | @stop m r h => intro _; obtain ⟨e, u⟩ := r; exact mstep_end_used h
  | @more k m m' r h t ih =>
    intro hl
    obtain ⟨_, h2, h3⟩ := mstep_keeps wf h hl
    have := ih h2
    omega
end LW
set_option Elab.async false
set_option linter.all false
set_option maxRecDepth 100000
namespace L2
open PySem PySem.Spec PyProof.Rows
structure MkFn (P : Program) (w : World) (K : PySem.W.Frag) (mg : Str → Option Value) (base : Heap) (k : Nat) (x : Str) (C : Addr) (ps : List Str) (sp : Sp) : Prop where
  ex : ∃ f fd, Mk K C f ∧ FnOk P w K mg base CX0 k f fd ps sp ∧ Binds K fd ps [] ∧ mg x = some (.ref C)
theorem pe_mk {X : Cx} {k k' : Nat} {x : Str} {C : Addr} {ps : List Str} {sp : Sp} {e : Expr} {es : List Expr} {t : TA} {p pos : Pos} (F : MkFn X.prog X.w X.K X.mg X.base k x C ps sp) (hr : Room k' X.A) (ha : PA X (e :: es) t) (hk : k + 1 ≤ k' := by decide) (hg : Gl X x := by rfl)
    (hd : (x == ("__debug__" : Str)) = false := by decide) (hp : (e :: es).all plainE = true := by rfl) : PE X (.Call (.Name x p) (e :: es) [] pos) (tMake C sp [] E0 t) := by
  obtain ⟨f, fd, M, G, b, m⟩ := F.ex
  rw [List.all_cons, Bool.and_eq_true] at hp
  exact pe_make M G (hr.mono hk) hg m b .nil pass0 ha hd (se_plain hp.1 es X.env) (se_any pos X.env es hp.2)
end L2
set_option Elab.async false
set_option linter.all false
set_option maxRecDepth 100000
set_option maxHeartbeats 2000000
namespace LW
open PySem L2
abbrev sRun : Stmt := top 30
def spFrame (CF : Addr) : Sp := fun vs H Q _ => ∃ (fa dx pr pt e3 nl rl : Addr) (cb p0 p1 p4 p5 p6 : V) (names : List Str) (nums : List Int), vs = [.ref fa, .ref pr, .ref nl, .ref rl, cb] ∧ H fa = some (.ins CF dx []) ∧ H pr = some (.tup [p0, p1, .ref pt, .ref e3, p4, p5, p6]) ∧ H pt = some (.tup (names.map V.str)) ∧ H e3 = some (.tup []) ∧ H nl = some (.lst (nums.map V.int)) ∧ H rl = some (.lst []) ∧ names.length = nums.length ∧ names.Nodup ∧ names.length ≤ 100 ∧
  ∀ nm rw H', (∀ b o, b ≠ fa → H b = some o → H' b = some o) → H nm = none → H rw = none → H' fa = some (.ins CF dx (frFs pr cb nm rw 0)) → H' nm = some (.dK (nKV (names.zip nums))) → H' rw = some (.dK []) → Q .non H'
def spRun (f' : Nat) : Sp := fun vs H Q _ => ∃ (pg pr pt e3 e4 e5 nl rl : Addr) (fn : Str) (p0 vb vi : V) (body : List D) (sx : List Sx) (names : List Str) (nums : List Int) (most : Int) (e : En) (u : Nat), vs = [.ref pg, .str fn, .ref nl, .ref rl, vi, .int most] ∧ H pg = some (.tup [.ref pr]) ∧ H pr = some (.tup [p0, .str fn, .ref pt, .ref e3, .ref e4, .ref e5, vb]) ∧ H pt = some (.tup (names.map V.str)) ∧ H e3 = some (.tup []) ∧ H e4 = some (.tup []) ∧ H e5 = some (.tup []) ∧ H nl = some (.lst (nums.map V.int)) ∧ H rl = some (.lst []) ∧ names.length = nums.length ∧ names.Nodup ∧ names.length ≤ 4 ∧
  Held H (.tup body) vb ∧ (∀ st ∈ body, FitS f' st) ∧ layL (layS f') 0 body [] 0 = sx.map Sx.toD ∧ sx.length ≤ 900 ∧ 2 * f' ≤ 500 ∧ Wf sx ∧ RunsTo sx most ⟨names.zip nums, 0, 0⟩ (e, u) ∧ u ≤ 800 ∧
  ∀ t v H', Same H H' → EndAt H' fn e v → H' t = some (.tup [v, .int u]) → Q (.ref t) H'
theorem EndAt.mono {H H' : Hp} {fn : Str} (s : Same H H') : ∀ {e : En} {v : V}, EndAt H fn e v → EndAt H' fn e v
  | .done _, _, ⟨t, hl, h1, h2, h3⟩ => ⟨t, hl, h1, s _ _ h2, s _ _ h3⟩
  | .spent, _, ⟨t, h1, h2⟩ => ⟨t, h1, s _ _ h2⟩
  | .untrue _ _ _, _, ⟨t, vp, h1, h2, h3⟩ => ⟨t, vp, h1, s _ _ h2, h3.mono s⟩
theorem EndAt.not {H : Hp} {fn : Str} : ∀ {e : En} {v : V}, EndAt H fn e v → v ≠ .non
  | .done _, _, ⟨t, hl, h1, _⟩ => by rw [h1]; intro z; cases z
  | .spent, _, ⟨t, h1, _⟩ => by rw [h1]; intro z; cases z
  | .untrue _ _ _, _, ⟨t, vp, h1, _⟩ => by rw [h1]; intro z; cases z
theorem Cst.keep {H H' : Hp} {fn : Str} {pr d2 sl fl fa co nm : Addr} {sx : List Sx} (h : Cst H fn pr d2 sl fl fa sx) {CC CF dc dx : Addr} {f1 f2 : List (Str × V)} {kv : List (Key × V)} (hco : H co = some (.ins CC dc f1)) (hfa : H fa = some (.ins CF dx f2)) (hnm : H nm = some (.dK kv)) (hd : d2 ≠ nm)
    (k : ∀ b o, b ≠ co → b ≠ fa → b ≠ nm → H b = some o → H' b = some o) : Cst H' fn pr d2 sl fl fa sx := by
  have kt : ∀ b xs, H b = some (.tup xs) → H' b = some (.tup xs) := fun b xs z => k b _ (ne_of z hco (by intro y; cases y)) (ne_of z hfa (by intro y; cases y)) (ne_of z hnm (by intro y; cases y)) z
  have kl : ∀ b xs, H b = some (.lst xs) → H' b = some (.lst xs) := fun b xs z => k b _ (ne_of z hco (by intro y; cases y)) (ne_of z hfa (by intro y; cases y)) (ne_of z hnm (by intro y; cases y)) z
  obtain ⟨p0, p2, e3, p4, e5, p6, a1, a2, a3⟩ := h.pr
  obtain ⟨ss, b1, b2⟩ := h.sl
  exact ⟨⟨p0, p2, e3, p4, e5, p6, kt _ _ a1, kt _ _ a2, kt _ _ a3⟩, k _ _ (ne_of h.d2 hco (by intro y; cases y)) (ne_of h.d2 hfa (by intro y; cases y)) hd h.d2, ⟨ss, kl _ _ b1, heldL_tk kt b2⟩, kl _ _ h.fl⟩
section
variable {P : Program} {w : World} {K : PySem.W.Frag} {mg : Str → Option Value} {base : Heap}
theorem ok_run {CC CF : Addr} {k f' : Nat} {f : Addr} {fd : FuncData} (TC : ClsC K CC) (T : ClsF K CF) (F : Fun K "run" "run" sRun f fd) (hk8 : 9 ≤ k) (M_Course : MkFn P w K mg base (k - 1) "Course" CC ["self", "program", "inputs", "most"] (spCourse CC f')) (M_Frame : MkFn P w K mg base 1 "Frame" CF ["self", "proc", "numbers", "rows", "called_by"] (spFrame CF)) (F_first_untrue : Fn P w K mg base 5 "first_untrue" ["claims", "frame"] (spFirst CF)) (F_gone_on : Fn P w K mg base 8 "gone_on" ["course"] (spGo CC CF)) : FnOk P w K mg base CX0 (k + 1) f fd ["program", "f", "numbers", "rows", "inputs", "most"] (spRun f') := by
  have sc : FnScope ["program", "f", "numbers", "rows", "inputs", "most", "course", "first", "k", "end"] ["program", "f", "numbers", "rows", "inputs", "most"] (defScope sRun) := ⟨rfl, rfl, rfl, by decide +kernel, rfl, by decide +kernel, by decide +kernel⟩
  refine F.ok sc (fun vs H Q E h => ?_) (fun cdv A outer s H vs Q E hr h => ?_)
  · obtain ⟨pg, pr, pt, e3, e4, e5, nl, rl, fn, p0, vb, vi, body, sx, names, nums, most, e, u, rfl, _⟩ := h
    rfl
  obtain ⟨pg, pr, pt, e3, e4, e5, nl, rl, fn, p0, vb, vi, body, sx, names, nums, most, e, u, rfl, hpg, hpr, hpt, he3, he4, he5, hnl, hrl, hln, hnd, hl4, hb, hfit, hlay, hsx, h2, wf, ⟨kk, hruns⟩, hu8, q⟩ := h
  have hu := hu_of hr
  refine ⟨_, (pss_cons (ps_set (i := 6) sc.nd rfl (by first | exact Or.inl rfl | exact Or.inr rfl) (pe_mk M_Course hr (pa_c (pv 0) (pa_c (pv 4) (pa_c (pv 5) pa_nil))) (hk := by omega)))
      (pss_cons (ps_set (i := 7) sc.nd rfl (by first | exact Or.inl rfl | exact Or.inr rfl) (pe_mk M_Frame hr (pa_c (pe_dget hu (pe_fld (pv 6) rfl) (pv 1) (fun _ _ => rfl)) (pa_c (pv 2) (pa_c (pv 3) (pa_c pe_non pa_nil)))) (hk := by omega)))
      (pss_cons (ps_set (i := 8) sc.nd rfl (by first | exact Or.inl rfl | exact Or.inr rfl) (pe_fn F_first_untrue hr (pa_c (pe_ix ix_tup (pe_fld (pv 7) rfl) pe_int (fun _ _ => rfl)) (pa_c (pv 7) pa_nil)) (hk := by omega)))
      (pss_cons (ps_if (pt_cmpR op_notN (pv 8) pe_non (nomark _)) (pss_one (ps_ret (pe_tup (pa_c (pe_tup (pa_c pe_str (pa_c (pv 8) pa_nil))) (pa_c pe_int pa_nil))))) pss_nil)
      (pss_cons (ps_expr (pe_bm PySem.F.plainAttrs_list PySem.F.slot_list_append PySem.F.type_list_append mt_append (pe_fld (pv 6) rfl) (pa_c (pv 7) pa_nil)))
      (pss_cons (ps_set (i := 9) sc.nd rfl (by first | exact Or.inl rfl | exact Or.inr rfl) pe_non)
      (pss_cons (ps_while PassesOwn.never (pt_cmpR op_isN (pv 9) pe_non (nomark _)) (pss_one (ps_set (i := 9) sc.nd rfl (by first | exact Or.inl rfl | exact Or.inr rfl) (pe_fn F_gone_on hr (pa_c (pv 6) pa_nil) (hk := by omega)))))
      (pss_one (ps_ret (pe_tup (pa_c (pv 9) (pa_c (pe_fld (pv 6) rfl) pa_nil)))))))))))), ?_⟩
  refine ⟨_, rfl, _, rfl, _, rfl, fun co dc hco hdc ndc => ?_⟩
  have s1 : Same H (upd (upd H dc (.own co)) co (.ins CC dc [])) := fun b o z => by rw [upd_ne (ne_of_none z hco), upd_ne (ne_of_none z hdc)]; exact z
  have c1 : upd (upd H dc (.own co)) co (.ins CC dc []) co = some (.ins CC dc []) := upd_same
  have hdc1 : upd (upd H dc (.own co)) co (.ins CC dc []) dc = some (.own co) := by rw [upd_ne ndc, upd_same]
  generalize upd (upd H dc (.own co)) co (.ins CC dc []) = H1 at *
  refine ⟨co, dc, pg, pr, fn, p0, .ref pt, .ref e3, .ref e4, .ref e5, vb, vi, body, most, rfl, c1, s1 _ _ hpg, s1 _ _ hpr, hb.mono s1, hfit, by rw [hlay, List.length_map]; exact hsx, h2, fun d1 d2 sl fl ss H2 k2 hd1 hd2 hsl hfl c2 ed1 ed2 es hH efl nsf => ⟨rfl, ?_⟩⟩
  have s2 : Same H H2 := fun b o z => k2 b o (ne_of_none z hco) (s1 _ _ z)
  rw [hlay] at hH
  have hg : DGet H2 d1 (kV (Sum.inr fn)) (some (.ref pr)) := by
    have h := DGet.k (k := Sum.inr fn) ed1
    rw [show valV [((Sum.inr fn : Key), V.ref pr)] (Sum.inr fn) = some (.ref pr) by simp [valV]] at h
    exact h
  refine ⟨_, rfl, co, CC, dc, _, _, rfl, c2, TC.c, TC.n1, rfl, _, rfl, d1, .ref pr, rfl, hg, _, rfl, _, rfl, fun fa dx hfa hdx ndx => ?_⟩
  have s3 : Same H2 (upd (upd H2 dx (.own fa)) fa (.ins CF dx [])) := fun b o z => by rw [upd_ne (ne_of_none z hfa), upd_ne (ne_of_none z hdx)]; exact z
  have f3 : upd (upd H2 dx (.own fa)) fa (.ins CF dx []) fa = some (.ins CF dx []) := upd_same
  generalize upd (upd H2 dx (.own fa)) fa (.ins CF dx []) = H3 at *
  have s03 := s2.trans s3
  refine ⟨fa, dx, pr, pt, e3, nl, rl, .non, p0, .str fn, .ref e4, .ref e5, vb, names, nums, rfl, f3, s03 _ _ hpr, s03 _ _ hpt, s03 _ _ he3, s03 _ _ hnl, s03 _ _ hrl, hln, hnd, by omega, fun nm rw H4 k4 hnm hrw f4 en4 er4 => ⟨rfl, ?_⟩⟩
  have s4 : Same H2 H4 := fun b o z => k4 b o (ne_of_none z hfa) (s3 _ _ z)
  have s04 := s2.trans s4
  refine ⟨_, rfl, fa, CF, dx, _, _, rfl, f4, T.c, T.n1, rfl, pr, _, _, _, rfl, rfl, SqT.of (s04 _ _ hpr), rfl, _, rfl, _, [], fa, dx, pr, nm, rw, .non, 0, _, rfl, held_tup (s04 _ _ he4) heldL_nil, f4, en4, fun H5 s5 => ?_⟩
  refine ⟨_, rfl, rfl, _, rfl, ite2 (fun d => absurd d (by show ¬ ((!decide (V.non = V.non)) = true); simp)) (fun _ => ?_)⟩
  have c5 := s5 _ _ (s4 _ _ c2)
  have efl5 := s5 _ _ (s4 _ _ efl)
  refine ⟨_, rfl, co, CC, dc, _, _, rfl, c5, TC.c, TC.n7, rfl, .inl ⟨rfl, _, SqL.of efl5⟩, _, rfl, fl, _, _, rfl, rfl, efl5, small1000 (by decide), ?_⟩
  have nd2 : d2 ≠ nm := fun z => by rw [← z, s3 _ _ ed2] at hnm; cases hnm
  have ncf : co ≠ fa := fun z => by rw [← z, c2] at hfa; cases hfa
  have hfa0 : H fa = none := s2.free hfa
  have hnm0 : H nm = none := s03.free hnm
  have hfl0 : H fl = none := s1.free hfl
  have s05 := s04.trans s5
  have nm5 := s5 _ _ en4
  have fa5 := s5 _ _ f4
  have d25 := s5 _ _ (s4 _ _ ed2)
  have sl5 := s5 _ _ (s4 _ _ es)
  have hH5 := (hH.mono s4).mono s5
  have k6 : ∀ b o, b ≠ fl → H5 b = some o → upd H5 fl (.lst ([] ++ [.ref fa])) b = some o := fun b o hb z => by rw [upd_ne hb]; exact z
  have kt6 : TK H5 (upd H5 fl (.lst ([] ++ [.ref fa]))) := TK.upd efl5 (fun _ z => by cases z)
  have C6 : Cst (upd H5 fl (.lst ([] ++ [.ref fa]))) fn pr d2 sl fl fa sx := ⟨⟨p0, .ref pt, e3, .ref e4, e5, vb, kt6 _ _ (s05 _ _ hpr), kt6 _ _ (s05 _ _ he3), kt6 _ _ (s05 _ _ he5)⟩, k6 _ _ (ne_of d25 efl5 (by intro y; cases y)) d25, ⟨ss, k6 _ _ nsf sl5, kt6.heldL hH5⟩, upd_same⟩
  have V6 : Var (upd H5 fl (.lst ([] ++ [.ref fa]))) CC CF co dc fa dx pr d1 d2 vi 0 most fl nm rw ⟨names.zip nums, 0, 0⟩ := ⟨k6 _ _ (ne_of c5 efl5 (by intro y; cases y)) c5, k6 _ _ (ne_of fa5 efl5 (by intro y; cases y)) fa5, k6 _ _ (ne_of nm5 efl5 (by intro y; cases y)) nm5⟩
  have s06 : Same H (upd H5 fl (.lst ([] ++ [.ref fa]))) := fun b o z => k6 b o (ne_of_none z hfl0) (s05 _ _ z)
  generalize upd H5 fl (.lst ([] ++ [.ref fa])) = H6 at *
  clear k6 kt6 hH5 sl5 d25 fa5 nm5 s05 efl5 c5 s5 s04 s4 s03 s3 s2 en4 f4 k4 f3 er4 c1 s1
  refine ⟨fun m σ G => ∃ v9, σ = [some (.ref pg), some (.str fn), some (.ref nl), some (.ref rl), some vi, some (.int most), some (.ref co), some (.ref fa), some .non, some v9] ∧ Same H G ∧ ((∃ k mc, m = k + 1 ∧ v9 = .non ∧ Cst G fn pr d2 sl fl fa sx ∧ Var G CC CF co dc fa dx pr d1 d2 vi 0 most fl nm rw mc ∧ Runs sx most k mc (e, u) ∧ mc.N.length ≤ 4 + mc.used ∧ mc.i ≤ sx.length) ∨ (m = 0 ∧ EndAt G fn e v9 ∧ G co = some (.ins CC dc (coFs d1 d2 vi 0 most u fl)))), ⟨kk + 1, .non, rfl, s06, .inl ⟨kk, _, rfl, rfl, C6, V6, hruns, by rw [List.length_zip]; show _ ≤ 4 + 0; omega, Nat.zero_le _⟩⟩, ?_⟩
  rintro m σ G ⟨v9, rfl, sG, hG⟩
  rcases hG with ⟨k', mc, rfl, rfl, hC, hV, hR, hN, hi⟩ | ⟨rfl, hE, hcoG⟩
  · refine ⟨_, rfl, rfl, _, rfl, ite2 (fun _ => ?_) (fun d => absurd (decide_eq_true rfl) d)⟩
    have hub := runs_used' wf hR hN
    have hub' : mc.used ≤ u := hub
    refine ⟨fun σ' G' => ∃ m', m' < k' + 1 ∧ ∃ v9, σ' = [some (.ref pg), some (.str fn), some (.ref nl), some (.ref rl), some vi, some (.int most), some (.ref co), some (.ref fa), some .non, some v9] ∧ Same H G' ∧ ((∃ k mc, m' = k + 1 ∧ v9 = .non ∧ Cst G' fn pr d2 sl fl fa sx ∧ Var G' CC CF co dc fa dx pr d1 d2 vi 0 most fl nm rw mc ∧ Runs sx most k mc (e, u) ∧ mc.N.length ≤ 4 + mc.used ∧ mc.i ≤ sx.length) ∨ (m' = 0 ∧ EndAt G' fn e v9 ∧ G' co = some (.ins CC dc (coFs d1 d2 vi 0 most u fl)))), fun σ' G' z => z, ?_⟩
    refine ⟨_, rfl, fn, co, dc, fa, dx, pr, d1, d2, sl, fl, nm, rw, vi, 0, most, sx, mc, rfl, ncf, hC, hV, by omega, hi, hsx, fun e' u' hms v G' kG hco' hE => ?_, fun m' hms G' kG hV' => ?_⟩
    · cases hR with
      | stop h =>
        rw [hms] at h
        cases h
        exact ⟨0, Nat.succ_pos _, v, rfl, fun b o z => kG b o (ne_of_none z hco) (sG _ _ z), .inr ⟨rfl, hE, hco'⟩⟩
      | more h _ => rw [hms] at h; cases h
    · cases hR with
      | stop h => rw [hms] at h; cases h
      | @more k'' _ m'' _ h t =>
        rw [hms] at h
        cases h
        obtain ⟨g1, g2, g3⟩ := mstep_keeps wf hms hN
        exact ⟨k'' + 1, Nat.lt_succ_self _, .non, rfl, fun b o z => kG b o (ne_of_none z hco) (ne_of_none z hfa0) (ne_of_none z hnm0) (sG _ _ z), .inl ⟨k'', m', rfl, rfl, hC.keep hV.co hV.fa hV.nm nd2 kG, hV', t, g2, g1⟩⟩
  · refine ⟨_, rfl, rfl, _, rfl, ite2 (fun d => absurd (of_decide_eq_true d) hE.not) (fun _ => ?_)⟩
    refine ⟨_, rfl, _, rfl, co, CC, dc, _, _, rfl, hcoG, TC.c, TC.n6, rfl, sm rfl, fun t ht => ?_⟩
    exact q t v9 _ (sG.trans (same_new ht _)) (hE.mono (same_new ht _)) upd_same
end
end LW
set_option Elab.async false
set_option linter.all false
set_option maxRecDepth 100000
namespace PySem
section
variable {prog : Program} {w : World} {A : Around} {E : Value → Shared → Prop} {s : Shared}
abbrev IsZipB (h : Heap) (z TI TO : Addr) (f0 : Value) (b : Bool) : Prop :=
  h.get? z = some { cls := .type "zip", dict := none, data := .fields #[f0, .bool b, .bool false, .ref TI, .ref TO], slots := #[] }
theorem zipT_later {z TI TO i1 i2 l1 l2 T : Addr} {oT : Obj} {bb : Bool} {k1 k2 : Nat} {xs ys : Array Value} {x y : Value} {Q : Value → Shared → Prop}
    (n1 : i1 ≠ z) (n2 : i2 ≠ z) (n12 : i1 ≠ i2) (m1 : l1 ≠ z) (m2 : l2 ≠ z) (m21 : l2 ≠ i1) (nTz : T ≠ z) (nTI : TI ≠ z)
    (hz : IsZipB s.heap z TI TO (rawInt T) bb) (hT : s.heap.get? T = some oT) (hTI : IsPair s.heap TI (.ref i1) (.ref i2))
    (h1 : s.heap.IsTupleIter i1 l1 k1) (h2L : s.heap.IsListIter i2 l2 k2) (hl1 : s.heap.IsTuple l1 xs) (hl2 : s.heap.IsList l2 ys) (hx : xs[k1]? = some x) (hy : ys[k2]? = some y)
    (hQ : ∀ h', IsZipB h' z TI TO (rawInt T) true → h'.IsTupleIter i1 l1 (k1 + 1) → h'.IsListIter i2 l2 (k2 + 1) → IsPair h' s.heap.objs.size x y → h'.objs.size = s.heap.objs.size + 1 →
      (∀ c o, c ≠ z → c ≠ i1 → c ≠ i2 → s.heap.get? c = some o → h'.get? c = some o) → Q (.ref s.heap.objs.size) { s with heap := h' }) :
    wpAny (model prog w) A (Builtin.«zip.__next__» ⟨[.ref z], []⟩) (fun fin s' => ∃ v, fin = .done (.ret v) ∧ Q v s') E s := by
  show wpAny _ _ (field (.ref z) 2 >>= _) _ _ _
  refine wpAny_bind (wpAny_field hz rfl (x := .bool false) rfl ?_)
  show wpAny _ _ (field (.ref z) 3 >>= _) _ _ _
  refine wpAny_bind (wpAny_field hz rfl (x := .ref TI) rfl ?_)
  refine wpAny_bind (wpAny_seqItems hTI rfl ?_)
  show wpAny _ _ (Builtin.SmallTypes.ownedTupleIsFree (.ref z) >>= _) _ _ _
  refine wpAny_bind ?_
  unfold Builtin.SmallTypes.ownedTupleIsFree
  refine wpAny_bind (wpAny_field hz rfl (x := rawInt T) rfl ?_)
  show wpAny _ _ (loadIfAlive ((T : Int).toNat) >>= _) _ _ _
  rw [Int.toNat_natCast]
  refine wpAny_bind (PySem.W.kdx_alive hT ?_)
  simp only [Option.isNone_some, Bool.false_eq_true, if_false]
  refine wpAny_bind (wpAny_field hz rfl (x := .bool bb) rfl ?_)
  cases bb with
  | true =>
    rw [if_neg (show ¬ ((Value.bool true != Value.bool true) = true) from Bool.false_ne_true)]
    refine wpAny_pure ?_
    simp only [Bool.false_eq_true, if_false, ← Array.forIn_toList, List.forIn_cons, List.forIn_nil]
    refine wpAny_bind (wpAny_bind (wpAny_bind (wpAny_holding ?_)))
    show wpAny _ _ (Builtin.SmallTypes.nextOf (.ref i1) >>= _) _ _ _
    refine wpAny_bind (tup_next (h1) (hl1) hx fun h2 t2 b2 => wpAny_pure (wpAny_pure ?_))
    dsimp only
    refine wpAny_bind (wpAny_bind (wpAny_holding ?_))
    show wpAny _ _ (Builtin.SmallTypes.nextOf (.ref i2) >>= _) _ _ _
    refine wpAny_bind (wpAny_nextOf_list_item (h2L.extBut b2.extBut n12.symm) (hl2.extBut b2.extBut m21) hy fun h3 t3 b3 => wpAny_pure (wpAny_pure (wpAny_pure ?_)))
    dsimp only
    refine wpAny_bind (wpAny_newTuple (hsz := by show 2 ≤ sizeLine; decide) (wpAny_pure ⟨_, rfl, ?_⟩))
    have sz : h3.objs.size = s.heap.objs.size := by rw [b3.1, b2.1]
    show Q (.ref h3.objs.size) _
    have hzz : IsZipB h3 z TI TO (rawInt T) true := b3.extBut _ _ n2.symm (b2.extBut _ _ n1.symm hz)
    have kk : ∀ c o, c ≠ z → c ≠ i1 → c ≠ i2 → s.heap.get? c = some o → h3.get? c = some o := fun c o c1 c2 c3 e => b3.extBut _ _ c3 (b2.extBut _ _ c2 (e))
    have t2' : h3.IsTupleIter i1 l1 (k1 + 1) := t2.extBut b3.extBut n12
    have pp : ∀ c o, h3.get? c = some o → (h3.push { cls := .type "tuple", data := .seq #[x, y] }).get? c = some o := fun c o e => Heap.get?_push_of_some _ e
    have np : IsPair (h3.push { cls := .type "tuple", data := .seq #[x, y] }) h3.objs.size x y := Heap.get?_push_size _ rfl
    have zp : (h3.push { cls := .type "tuple", data := .seq #[x, y] }).objs.size = s.heap.objs.size + 1 := by rw [Heap.size_push, sz]
    rw [sz] at np ⊢
    exact hQ _ (pp _ _ hzz) (t2'.at fun o e => pp _ o e) (t3.at fun o e => pp _ o e) np zp fun c o c1 c2 c3 e => pp _ _ (kk c o c1 c2 c3 e)
  | false =>
    rw [if_pos (show (Value.bool false != Value.bool true) = true from rfl)]
    refine wpAny_bind (wpAny_setField_rec hz (by simp) fun h1' e1 b1 => ?_)
    replace b1 : Heap.SameBut z s.heap h1' := b1
    replace e1 : IsZipB h1' z TI TO (rawInt T) true := e1
    refine wpAny_pure ?_
    simp only [Bool.false_eq_true, if_false, ← Array.forIn_toList, List.forIn_cons, List.forIn_nil]
    refine wpAny_bind (wpAny_bind (wpAny_bind (wpAny_holding ?_)))
    show wpAny _ _ (Builtin.SmallTypes.nextOf (.ref i1) >>= _) _ _ _
    refine wpAny_bind (tup_next (h1.extBut b1.extBut n1) (hl1.extBut b1.extBut m1) hx fun h2 t2 b2 => wpAny_pure (wpAny_pure ?_))
    dsimp only
    refine wpAny_bind (wpAny_bind (wpAny_holding ?_))
    show wpAny _ _ (Builtin.SmallTypes.nextOf (.ref i2) >>= _) _ _ _
    refine wpAny_bind (wpAny_nextOf_list_item ((h2L.extBut b1.extBut n2).extBut b2.extBut n12.symm) ((hl2.extBut b1.extBut m2).extBut b2.extBut m21) hy fun h3 t3 b3 => wpAny_pure (wpAny_pure (wpAny_pure ?_)))
    dsimp only
    refine wpAny_bind (wpAny_newTuple (hsz := by show 2 ≤ sizeLine; decide) (wpAny_pure ⟨_, rfl, ?_⟩))
    have sz : h3.objs.size = s.heap.objs.size := by rw [b3.1, b2.1, b1.1]
    show Q (.ref h3.objs.size) _
    have hzz : IsZipB h3 z TI TO (rawInt T) true := b3.extBut _ _ n2.symm (b2.extBut _ _ n1.symm e1)
    have kk : ∀ c o, c ≠ z → c ≠ i1 → c ≠ i2 → s.heap.get? c = some o → h3.get? c = some o := fun c o c1 c2 c3 e => b3.extBut _ _ c3 (b2.extBut _ _ c2 (b1.extBut _ _ c1 e))
    have t2' : h3.IsTupleIter i1 l1 (k1 + 1) := t2.extBut b3.extBut n12
    have pp : ∀ c o, h3.get? c = some o → (h3.push { cls := .type "tuple", data := .seq #[x, y] }).get? c = some o := fun c o e => Heap.get?_push_of_some _ e
    have np : IsPair (h3.push { cls := .type "tuple", data := .seq #[x, y] }) h3.objs.size x y := Heap.get?_push_size _ rfl
    have zp : (h3.push { cls := .type "tuple", data := .seq #[x, y] }).objs.size = s.heap.objs.size + 1 := by rw [Heap.size_push, sz]
    rw [sz] at np ⊢
    exact hQ _ (pp _ _ hzz) (t2'.at fun o e => pp _ o e) (t3.at fun o e => pp _ o e) np zp fun c o c1 c2 c3 e => pp _ _ (kk c o c1 c2 c3 e)
theorem zipT_first {z TI TO i1 i2 l1 l2 : Addr} {k1 k2 : Nat} {xs ys : Array Value} {x y a b : Value} {Q : Value → Shared → Prop} (D : ZipApart z TI TO i1 i2 l1 l2)
    (hz : IsZip s.heap z TI TO .none) (hTI : IsPair s.heap TI (.ref i1) (.ref i2)) (hTO : IsPair s.heap TO a b)
    (h1 : s.heap.IsTupleIter i1 l1 k1) (h2 : s.heap.IsListIter i2 l2 k2) (hl1 : s.heap.IsTuple l1 xs) (hl2 : s.heap.IsList l2 ys) (hx : xs[k1]? = some x) (hy : ys[k2]? = some y)
    (hQ : ∀ h', IsZipB h' z TI TO (rawInt s.heap.objs.size) false → h'.IsTupleIter i1 l1 (k1 + 1) → h'.IsListIter i2 l2 (k2 + 1) → IsPair h' s.heap.objs.size x y → h'.objs.size = s.heap.objs.size + 1 →
      (∀ c o, c ≠ z → c ≠ TO → c ≠ i1 → c ≠ i2 → s.heap.get? c = some o → h'.get? c = some o) → Q (.ref s.heap.objs.size) { s with heap := h' }) :
    wpAny (model prog w) A (Builtin.«zip.__next__» ⟨[.ref z], []⟩) (fun fin s' => ∃ v, fin = .done (.ret v) ∧ Q v s') E s := by
  show wpAny _ _ (field (.ref z) 2 >>= _) _ _ _
  refine wpAny_bind (wpAny_field hz rfl (x := .bool false) rfl ?_)
  show wpAny _ _ (field (.ref z) 3 >>= _) _ _ _
  refine wpAny_bind (wpAny_field hz rfl (x := .ref TI) rfl ?_)
  refine wpAny_bind (wpAny_seqItems hTI rfl ?_)
  show wpAny _ _ (Builtin.SmallTypes.ownedTupleIsFree (.ref z) >>= _) _ _ _
  refine wpAny_bind ?_
  unfold Builtin.SmallTypes.ownedTupleIsFree
  refine wpAny_bind (wpAny_field hz rfl (x := .none) rfl (wpAny_pure ?_))
  simp only [if_true]
  refine wpAny_bind (wpAny_rule ?_)
  refine wpAny_bind (wpAny_field hz rfl (x := .ref TO) rfl ?_)
  refine wpAny_bind (wpAny_setField_rec hz (by simp) fun g1 z1 b1 => ?_)
  replace z1 : IsZip g1 z TI TO .ellipsis := z1
  refine wpAny_bind ?_
  simp only [List.zipIdx_cons, List.zipIdx_nil, List.forIn_cons, List.forIn_nil]
  refine wpAny_bind (wpAny_bind (wpAny_onRaise ?_))
  show wpAny _ _ (Builtin.SmallTypes.nextOf (.ref i1) >>= _) _ _ _
  refine wpAny_bind (tup_next (h1.extBut b1.extBut D.i1z) (hl1.extBut b1.extBut D.l1z) hx fun g2 t2 b2 => wpAny_pure ?_)
  have o2 : IsPair g2 TO a b := b2.extBut _ _ D.TOi1 (b1.extBut _ _ D.TOz hTO)
  refine wpAny_bind (wpAny_seqItems o2 rfl ?_)
  refine wpAny_bind (wpAny_updateSeq_pair o2 fun g3 o3 b3 => ?_)
  replace o3 : IsPair g3 TO x b := o3
  refine wpAny_bind (wpAny_letGo (wpAny_pure ?_))
  refine wpAny_bind (wpAny_bind (wpAny_onRaise ?_))
  show wpAny _ _ (Builtin.SmallTypes.nextOf (.ref i2) >>= _) _ _ _
  refine wpAny_bind (wpAny_nextOf_list_item (((h2.extBut b1.extBut D.i2z).extBut b2.extBut D.i12.symm).extBut b3.extBut D.TOi2.symm) (((hl2.extBut b1.extBut D.l2z).extBut b2.extBut D.l2i1).extBut b3.extBut D.l2TO) hy fun g4 t4 b4 => wpAny_pure ?_)
  have o4 : IsPair g4 TO x b := b4.extBut _ _ D.TOi2 o3
  refine wpAny_bind (wpAny_seqItems o4 rfl ?_)
  refine wpAny_bind (wpAny_updateSeq_pair o4 fun g5 o5 b5 => ?_)
  replace o5 : IsPair g5 TO x y := o5
  refine wpAny_bind (wpAny_letGo (wpAny_pure (wpAny_pure ?_)))
  refine wpAny_bind (wpAny_seqItems o5 rfl ?_)
  refine wpAny_bind (wpAny_newTuple ?_)
  have sz : g5.objs.size = s.heap.objs.size := by rw [b5.1, b4.1, b3.1, b2.1, b1.1]
  have z5 : IsZip g5 z TI TO .ellipsis := b5.extBut _ _ D.TOz.symm (b4.extBut _ _ D.i2z.symm (b3.extBut _ _ D.TOz.symm (b2.extBut _ _ D.i1z.symm z1)))
  have k5 : ∀ c o, c ≠ z → c ≠ TO → c ≠ i1 → c ≠ i2 → s.heap.get? c = some o → g5.get? c = some o := fun c o c1 c2 c3 c4 e => b5.extBut _ _ c2 (b4.extBut _ _ c4 (b3.extBut _ _ c2 (b2.extBut _ _ c3 (b1.extBut _ _ c1 e))))
  have t2' : g5.IsTupleIter i1 l1 (k1 + 1) := ((t2.extBut b3.extBut D.TOi1.symm).extBut b4.extBut D.i12).extBut b5.extBut D.TOi1.symm
  have t4' : g5.IsListIter i2 l2 (k2 + 1) := t4.extBut b5.extBut D.TOi2.symm
  have zlt : z < g5.objs.size := Heap.lt_size z5
  show wpAny _ _ (Builtin.SmallTypes.ownedTupleHandOut (.ref z) (.ref g5.objs.size) >>= _) _ _ _
  refine wpAny_bind ?_
  unfold Builtin.SmallTypes.ownedTupleHandOut
  have z6 : IsZip (g5.push { cls := .type "tuple", data := .seq #[x, y] }) z TI TO .ellipsis := Heap.get?_push_of_some _ z5
  refine wpAny_bind (wpAny_setField_rec z6 (by simp) fun g7 z7 b7 => ?_)
  replace z7 : IsZip g7 z TI TO (rawInt g5.objs.size) := z7
  refine wpAny_setField_rec z7 (by simp) fun g8 z8 b8 => ?_
  replace z8 : IsZipB g8 z TI TO (rawInt g5.objs.size) false := z8
  have up : ∀ c o, c ≠ z → g5.get? c = some o → g8.get? c = some o := fun c o c1 e => b8.extBut _ _ c1 (b7.extBut _ _ c1 (Heap.get?_push_of_some _ e))
  have p8 : IsPair g8 g5.objs.size x y := b8.extBut _ _ (Nat.ne_of_gt zlt) (b7.extBut _ _ (Nat.ne_of_gt zlt) (Heap.get?_push_size _ rfl))
  have s8 : g8.objs.size = g5.objs.size + 1 := by rw [b8.1, b7.1, Heap.size_push]
  rw [sz] at z8 p8 s8
  refine wpAny_pure ⟨_, rfl, ?_⟩
  show Q (.ref g5.objs.size) _
  rw [sz]
  exact hQ g8 z8 (t2'.at fun o e => up _ o D.i1z e) (t4'.at fun o e => up _ o D.i2z e) p8 s8 fun c o c1 c2 c3 c4 e => up c o c1 (k5 c o c1 c2 c3 c4 e)
theorem zipT_end_later {z TI TO i1 i2 l1 T : Addr} {oT : Obj} {bb : Bool} {k1 : Nat} {xs : Array Value} {Q : Fin → Shared → Prop} (hh : A.handled = none)
    (n1 : i1 ≠ z) (m1 : l1 ≠ z) (hz : IsZipB s.heap z TI TO (rawInt T) bb) (hT : s.heap.get? T = some oT) (hTI : IsPair s.heap TI (.ref i1) (.ref i2)) (h1 : s.heap.IsTupleIter i1 l1 k1) (hl1 : s.heap.IsTuple l1 xs) (hx : xs[k1]? = none)
    (hE : ∀ h' e, (∀ c o, c ≠ z → c ≠ i1 → s.heap.get? c = some o → h'.get? c = some o) → (∃ o, h'.get? e = some o ∧ o.cls = .type "StopIteration") → E (.ref e) { s with heap := h' }) :
    wpAny (model prog w) A (Builtin.«zip.__next__» ⟨[.ref z], []⟩) Q E s := by
  show wpAny _ _ (field (.ref z) 2 >>= _) _ _ _
  refine wpAny_bind (wpAny_field hz rfl (x := .bool false) rfl ?_)
  show wpAny _ _ (field (.ref z) 3 >>= _) _ _ _
  refine wpAny_bind (wpAny_field hz rfl (x := .ref TI) rfl ?_)
  refine wpAny_bind (wpAny_seqItems hTI rfl ?_)
  show wpAny _ _ (Builtin.SmallTypes.ownedTupleIsFree (.ref z) >>= _) _ _ _
  refine wpAny_bind ?_
  unfold Builtin.SmallTypes.ownedTupleIsFree
  refine wpAny_bind (wpAny_field hz rfl (x := rawInt T) rfl ?_)
  show wpAny _ _ (loadIfAlive ((T : Int).toNat) >>= _) _ _ _
  rw [Int.toNat_natCast]
  refine wpAny_bind (PySem.W.kdx_alive hT ?_)
  simp only [Option.isNone_some, Bool.false_eq_true, if_false]
  refine wpAny_bind (wpAny_field hz rfl (x := .bool bb) rfl ?_)
  cases bb with
  | true =>
    rw [if_neg (show ¬ ((Value.bool true != Value.bool true) = true) from Bool.false_ne_true)]
    refine wpAny_pure ?_
    simp only [Bool.false_eq_true, if_false, ← Array.forIn_toList, List.forIn_cons, List.forIn_nil]
    refine wpAny_bind (wpAny_bind (wpAny_bind (wpAny_holding ?_)))
    show wpAny _ _ (Builtin.SmallTypes.nextOf (.ref i1) >>= _) _ _ _
    exact wpAny_bind (tup_next_end hh (h1) (hl1) hx fun h2 e b2 he => hE h2 e (fun c o c1 c3 x => b2 _ _ c3 (x)) he)
  | false =>
    rw [if_pos (show (Value.bool false != Value.bool true) = true from rfl)]
    refine wpAny_bind (wpAny_setField_rec hz (by simp) fun h1' e1 b1 => ?_)
    replace b1 : Heap.SameBut z s.heap h1' := b1
    refine wpAny_pure ?_
    simp only [Bool.false_eq_true, if_false, ← Array.forIn_toList, List.forIn_cons, List.forIn_nil]
    refine wpAny_bind (wpAny_bind (wpAny_bind (wpAny_holding ?_)))
    show wpAny _ _ (Builtin.SmallTypes.nextOf (.ref i1) >>= _) _ _ _
    exact wpAny_bind (tup_next_end hh (h1.extBut b1.extBut n1) (hl1.extBut b1.extBut m1) hx fun h2 e b2 he => hE h2 e (fun c o c1 c3 x => b2 _ _ c3 (b1.extBut _ _ c1 x)) he)
theorem zipT_end_none {z TI TO i1 i2 l1 : Addr} {k1 : Nat} {xs : Array Value} {Q : Fin → Shared → Prop} (hh : A.handled = none)
    (n1 : i1 ≠ z) (m1 : l1 ≠ z) (hz : IsZip s.heap z TI TO .none) (hTI : IsPair s.heap TI (.ref i1) (.ref i2)) (h1 : s.heap.IsTupleIter i1 l1 k1) (hl1 : s.heap.IsTuple l1 xs) (hx : xs[k1]? = none)
    (hE : ∀ h' e, (∀ c o, c ≠ z → c ≠ i1 → s.heap.get? c = some o → h'.get? c = some o) → (∃ o, h'.get? e = some o ∧ o.cls = .type "StopIteration") → E (.ref e) { s with heap := h' }) :
    wpAny (model prog w) A (Builtin.«zip.__next__» ⟨[.ref z], []⟩) Q E s := by
  show wpAny _ _ (field (.ref z) 2 >>= _) _ _ _
  refine wpAny_bind (wpAny_field hz rfl (x := .bool false) rfl ?_)
  show wpAny _ _ (field (.ref z) 3 >>= _) _ _ _
  refine wpAny_bind (wpAny_field hz rfl (x := .ref TI) rfl ?_)
  refine wpAny_bind (wpAny_seqItems hTI rfl ?_)
  show wpAny _ _ (Builtin.SmallTypes.ownedTupleIsFree (.ref z) >>= _) _ _ _
  refine wpAny_bind ?_
  unfold Builtin.SmallTypes.ownedTupleIsFree
  refine wpAny_bind (wpAny_field hz rfl (x := .none) rfl (wpAny_pure ?_))
  simp only [if_true]
  refine wpAny_bind (wpAny_rule ?_)
  refine wpAny_bind (wpAny_field hz rfl (x := .ref TO) rfl ?_)
  refine wpAny_bind (wpAny_setField_rec hz (by simp) fun g1 z1 b1 => ?_)
  replace z1 : IsZip g1 z TI TO .ellipsis := z1
  refine wpAny_bind ?_
  simp only [List.zipIdx_cons, List.zipIdx_nil, List.forIn_cons, List.forIn_nil]
  refine wpAny_bind (wpAny_bind (wpAny_onRaise ?_))
  show wpAny _ _ (Builtin.SmallTypes.nextOf (.ref i1) >>= _) _ _ _
  refine wpAny_bind (tup_next_end hh (h1.extBut b1.extBut n1) (hl1.extBut b1.extBut m1) hx fun g2 e b2 he => ?_)
  obtain ⟨oe, hoe, hce⟩ := he
  have z2 : IsZip g2 z TI TO .ellipsis := b2 _ _ n1.symm z1
  have hez : e ≠ z := fun x => by subst x; rw [z2] at hoe; cases hoe; simp at hce
  exact wpAny_setField_rec z2 (by simp) fun g3 _ b3 => hE g3 e (fun c o c1 c3 x => b3.extBut _ _ c1 (b2 _ _ c3 (b1.extBut _ _ c1 x))) ⟨oe, b3.extBut _ _ hez hoe, hce⟩
end
abbrev ztH1 (h : Heap) (l1 : Addr) : Heap := h.push { cls := .type "tuple_iterator", data := .fields #[.ref l1, .int 0 0] }
abbrev ztH2 (h : Heap) (l1 l2 : Addr) : Heap := (ztH1 h l1).push { cls := .type "list_iterator", data := .fields #[.ref l2, .int 0 0] }
abbrev ztH3 (h : Heap) (l1 l2 : Addr) : Heap := (ztH2 h l1 l2).push { cls := .type "tuple", data := .seq #[.ref h.objs.size, .ref (ztH1 h l1).objs.size] }
abbrev ztH4 (h : Heap) (l1 l2 : Addr) : Heap := (ztH3 h l1 l2).push { cls := .type "tuple", data := .seq #[.none, .none] }
abbrev ztH5 (h : Heap) (l1 l2 : Addr) : Heap := (ztH4 h l1 l2).push { cls := .type "zip", data := .fields #[.none, .bool false, .bool false, .ref (ztH2 h l1 l2).objs.size, .ref (ztH3 h l1 l2).objs.size] }
theorem zipT_new (l1 l2 : Addr) (xs ys : Array Value) :
    Meets (Builtin.«zip.__new__» ⟨[.type "zip", .ref l1, .ref l2], []⟩) (fun _ R s => s.heap.IsTuple l1 xs ∧ s.heap.IsList l2 ys ∧ R (.ok (.ret (.ref (ztH4 s.heap l1 l2).objs.size))) { s with heap := ztH5 s.heap l1 l2 }) :=
  .of_wp fun prog w A R s h => by
    obtain ⟨hp, g, d, tk, os⟩ := s; obtain ⟨hl1, hl2, h⟩ := h
    have hsub := sub_zip
    have hL1 : Heap.IsTuple (Shared.heap ⟨hp, g, d, tk, os⟩) l1 xs := hl1
    have hL2 : Heap.IsList (Shared.heap ⟨hp.push { cls := .type "tuple_iterator", data := .fields #[.ref l1, .int 0 0] }, g, d, tk, os⟩) l2 ys := Heap.IsList.push hl2 _
    wp_walk using wpAny_pyIter_tuple hL1, wpAny_pyIter_list hL2
    exact ⟨_, rfl, h⟩
section
variable {prog : Program} {w : World} {A : Around} {E : Value → Shared → Prop} {s : Shared}
theorem call_zipT {l1 l2 : Addr} {xs ys : Array Value} {Q : Value → Shared → Prop} (hl1 : s.heap.IsTuple l1 xs) (hl2 : s.heap.IsList l2 ys)
    (h : ∀ h', IsZip h' (s.heap.objs.size + 4) (s.heap.objs.size + 2) (s.heap.objs.size + 3) .none → IsPair h' (s.heap.objs.size + 2) (.ref s.heap.objs.size) (.ref (s.heap.objs.size + 1)) →
      IsPair h' (s.heap.objs.size + 3) .none .none → h'.IsTupleIter s.heap.objs.size l1 0 → h'.IsListIter (s.heap.objs.size + 1) l2 0 → h'.objs.size = s.heap.objs.size + 5 →
      (∀ c o, s.heap.get? c = some o → h'.get? c = some o) → Q (.ref (s.heap.objs.size + 4)) { s with heap := h' }) :
    wpAny (model prog w) A (call (.type "zip") [.ref l1, .ref l2]) Q E s := by
  refine callType_new F.called_zip (by decide) (F.typeCall_zip_2 _ _) (F.newCall_zip_2 _ _) (fun obj => F.args_object_init_3 obj _ _) F.entry_zip_new (zipT_new l1 l2 xs ys) ⟨hl1, hl2, ?_⟩
  have z1 : (ztH1 s.heap l1).objs.size = s.heap.objs.size + 1 := Heap.size_push ..
  have z2 : (ztH2 s.heap l1 l2).objs.size = s.heap.objs.size + 2 := by rw [Heap.size_push, z1]
  have z3 : (ztH3 s.heap l1 l2).objs.size = s.heap.objs.size + 3 := by rw [Heap.size_push, z2]
  have z4 : (ztH4 s.heap l1 l2).objs.size = s.heap.objs.size + 4 := by rw [Heap.size_push, z3]
  have z5 : (ztH5 s.heap l1 l2).objs.size = s.heap.objs.size + 5 := by rw [Heap.size_push, z4]
  have up : ∀ (h : Heap) (o : Obj) c u, h.get? c = some u → (h.push o).get? c = some u := fun h o c u e => Heap.get?_push_of_some _ e
  have g5 : (ztH5 s.heap l1 l2).get? (ztH4 s.heap l1 l2).objs.size = some _ := Heap.get?_push_size _ rfl
  have g4 : (ztH5 s.heap l1 l2).get? (ztH3 s.heap l1 l2).objs.size = some _ := up _ _ _ _ (Heap.get?_push_size _ rfl)
  have g3 : (ztH5 s.heap l1 l2).get? (ztH2 s.heap l1 l2).objs.size = some _ := up _ _ _ _ (up _ _ _ _ (Heap.get?_push_size _ rfl))
  have g2 : (ztH5 s.heap l1 l2).get? (ztH1 s.heap l1).objs.size = some _ := up _ _ _ _ (up _ _ _ _ (up _ _ _ _ (Heap.get?_push_size _ rfl)))
  have g1 : (ztH5 s.heap l1 l2).get? s.heap.objs.size = some _ := up _ _ _ _ (up _ _ _ _ (up _ _ _ _ (up _ _ _ _ (Heap.get?_push_size _ rfl))))
  show _ ∧ _
  rw [z2, z3, z4] at g5
  rw [z1, z2] at g3
  rw [z3] at g4
  rw [z1] at g2
  rw [z4]
  exact ⟨⟨_, g5, rfl⟩, h _ g5 g3 g4 ⟨_, g1, rfl, rfl⟩ ⟨_, g2, rfl, rfl⟩ z5 fun c o x => up _ _ _ _ (up _ _ _ _ (up _ _ _ _ (up _ _ _ _ (up _ _ _ _ x))))⟩
end
end PySem
set_option Elab.async false
set_option linter.all false
set_option maxRecDepth 100000
set_option maxHeartbeats 1000000
namespace PySem
open Sem (wp)
namespace F
theorem lk_zip_keys : typeLookup (.type "zip") "keys" = pure none := by rw [typeLookup_type, builtinLookup_eq_fast]; kernel_rfl
theorem lk_zip_getattr : typeLookup (.type "zip") "__getattr__" = pure none := by rw [typeLookup_type, builtinLookup_eq_fast]; kernel_rfl
theorem entry_zip_ga : entryFor table "zip.__getattribute__" = some Builtin.«object.__getattribute__» := entryFor_alias (id' := "object.__getattribute__") (by kernel_rfl) (by first | rfl | decide +kernel) (by decide +kernel) (by kernel_rfl)
end F
section
variable {prog : Program} {w : World} {A : Around} {E : Value → Shared → Prop} {h : Heap} {g : Array GenState} {d : Drawn} {t : Nat} {os : OsState} {a : Addr} {its : Array Value} {n : Nat} {sl : Array (Option Value)}
theorem lm_lenZ : (Str.ofString (toString "'" ++ toString ((Manifest.find? "zip").elim "zip" fun x => x.tpName) ++ toString "' object has no attribute '") ++ Str.ofString "keys" ++ Str.ofString "'").length ≤ sizeLine := by
  rw [sizeLine_eq]
  decide +kernel
theorem nokeys_entryZ {tk : Tok} {Q : Fin → Shared → Prop} (hh : A.handled = none) (hx : h.get? a = some { cls := .type "zip", dict := none, data := .fields its, slots := sl })
   (hq : ∀ h' t' e, (∀ b u, h.get? b = some u → h'.get? b = some u) → (∃ oe, h'.get? e = some oe ∧ oe.cls = .type "AttributeError") → E (.ref e) ⟨h', g, d, t', os⟩) :
    wpAny (model prog w) A (Builtin.«object.__getattribute__» ⟨[.ref a, .str "keys" tk], []⟩) Q E ⟨h, g, d, t, os⟩ := by
  have hT : (⟨h, g, d, t, os⟩ : Shared).TypeIs (.ref a) "zip" := ⟨_, hx, rfl⟩
  have f4 := F.lk_zip_keys
  repeat (any_goals (first | assumption | wp_step))
  exact attr_raise lm_lenZ hh hq
theorem nokeys_callZ {tk : Tok} {R : Result → Shared → Prop} (hh : A.handled = none) (hx : h.get? a = some { cls := .type "zip", dict := none, data := .fields its, slots := sl })
   (hq : ∀ h' t' e, (∀ b u, h.get? b = some u → h'.get? b = some u) → (∃ oe, h'.get? e = some oe ∧ oe.cls = .type "AttributeError") → R (.error (.ref e)) ⟨h', g, d, t', os⟩) :
    codeAny (model prog w) A (.call (.builtin "zip.__getattribute__") ⟨[.ref a, .str "keys" tk], []⟩) R ⟨h, g, d, t, os⟩ :=
  codeAny_call_builtin F.slot_zip_getattribute.plain F.entry_zip_ga (F.slot_zip_getattribute.check _ _ _ _ _ _ _ _ (show (⟨h, g, d, t, os⟩ : Shared).TypeIs (.ref a) "zip" from ⟨_, hx, rfl⟩) (F.args_zip_getattribute_2 _ _) (nokeys_entryZ hh hx hq))
theorem nokeys_byZ {tk : Tok} {Q : Value → Shared → Prop} (hh : A.handled = none) (hx : h.get? a = some { cls := .type "zip", dict := none, data := .fields its, slots := sl })
   (hq : ∀ h' t' e, (∀ b u, h.get? b = some u → h'.get? b = some u) → (∃ oe, h'.get? e = some oe ∧ oe.cls = .type "AttributeError") → E (.ref e) ⟨h', g, d, t', os⟩) :
    wpAny (model prog w) A (getAttrBy (.ref a) (.str "keys" tk) false) Q E ⟨h, g, d, t, os⟩ := by
  have hT : (⟨h, g, d, t, os⟩ : Shared).TypeIs (.ref a) "zip" := ⟨_, hx, rfl⟩
  have f2 := F.slot_zip_getattribute.lookup
  have f3 := F.slot_zip_getattribute.bind (.ref a)
  have f4 := F.lk_zip_getattr
  repeat (any_goals (first | assumption | wp_step))
  refine nokeys_callZ hh hx fun h' t' e k hoe => ?_
  obtain ⟨oe, e1, e2⟩ := hoe
  have hTe : (⟨h', g, d, t', os⟩ : Shared).TypeIs (.ref e) "AttributeError" := ⟨_, e1, e2⟩
  show wpAny (model prog w) A (getattributeRaised (Value.ref a) (Value.str (Str.ofString "keys") tk) (Value.type "zip") (.ref e) none false false) Q E _
  unfold getattributeRaised
  refine wpAny_bind (wpAny_isInstance hTe F.sub_attr_attr ?_)
  rw [if_pos rfl]
  refine wpAny_bind ?_
  show wpAny _ _ (typeLookup (.type "zip") "__getattr__") _ _ _
  rw [f4]
  refine wpAny_pure ?_
  show wpAny _ _ (attributeErrorLeaves _ _ _ false false) _ _ _
  unfold attributeErrorLeaves
  dsimp only
  rw [if_pos (show (!false) = true from rfl)]
  refine wpAny_bind (wpAny_throw ?_)
  exact hq h' t' e k ⟨oe, e1, e2⟩
theorem nokeysZ {s : Shared} {Q : Option Value → Shared → Prop} (hh : A.handled = none) (hx : s.heap.get? a = some { cls := .type "zip", dict := none, data := .fields its, slots := sl })
   (hq : ∀ h' t', (∀ b u, s.heap.get? b = some u → h'.get? b = some u) → Q none { s with heap := h', toks := t' }) :
    wpAny (model prog w) A (getAttr? (.ref a) "keys") Q E s := by
  obtain ⟨h, g, d, t, os⟩ := s
  unfold getAttr? getAttrBy?
  refine wpAny_bind (wpAny_mkText (wpAny_bind (wpAny_attempt ?_)))
  refine nokeys_byZ hh hx fun h' t' e k hoe => ?_
  obtain ⟨oe, e1, e2⟩ := hoe
  have hTe : (⟨h', g, d, t', os⟩ : Shared).TypeIs (.ref e) "AttributeError" := ⟨_, e1, e2⟩
  dsimp only
  refine wpAny_bind (wpAny_isInstance hTe F.sub_attr_attr ?_)
  rw [if_pos rfl]
  exact wpAny_pure (hq h' t' k)
end
end PySem
set_option Elab.async false
set_option linter.all false
set_option maxRecDepth 100000
set_option maxHeartbeats 1000000
namespace PySem
structure ZipSt (h : Heap) (z TI TO i1 i2 l1 l2 : Addr) (i : Nat) : Prop where
  ti : IsPair h TI (.ref i1) (.ref i2)
  a : h.IsTupleIter i1 l1 i
  b : h.IsListIter i2 l2 i
  c : (IsZip h z TI TO .none ∧ ∃ a b, IsPair h TO a b) ∨ ∃ (T : Addr) (oT : Obj) (bb : Bool), IsZipB h z TI TO (rawInt T) bb ∧ h.get? T = some oT ∧ T ≠ z ∧ T ≠ i1 ∧ T ≠ i2
section
variable {prog : Program} {w : World} {A : Around} {E : Value → Shared → Prop} {s : Shared}
theorem zipS_item {z TI TO i1 i2 l1 l2 : Addr} {i : Nat} {xs ys : Array Value} {x y : Value} {Q : Option Value → Shared → Prop} (D : ZipApart z TI TO i1 i2 l1 l2) (Z : ZipSt s.heap z TI TO i1 i2 l1 l2 i) (hl1 : s.heap.IsTuple l1 xs) (hl2 : s.heap.IsList l2 ys) (hx : xs[i]? = some x) (hy : ys[i]? = some y)
    (hQ : ∀ h', ZipSt h' z TI TO i1 i2 l1 l2 (i + 1) → IsPair h' s.heap.objs.size x y → (∀ c o, c ≠ z → c ≠ TO → c ≠ i1 → c ≠ i2 → s.heap.get? c = some o → h'.get? c = some o) → Q (some (.ref s.heap.objs.size)) { s with heap := h' }) :
    wpAny (model prog w) A (pyNext (.ref z)) Q E s := by
  have lt : ∀ {c o}, s.heap.get? c = some o → s.heap.objs.size ≠ c := fun e => Nat.ne_of_gt (Heap.lt_size e)
  have l1' : s.heap.objs.size ≠ i1 := by obtain ⟨_, e, _⟩ := Z.a; exact lt e
  have l2' : s.heap.objs.size ≠ i2 := by obtain ⟨_, e, _⟩ := Z.b; exact lt e
  rcases Z.c with ⟨hz, a, b, hTO⟩ | ⟨T, oT, bb, hz, hT, t1, t2, t3⟩
  · have hT : s.TypeIs (.ref z) "zip" := ⟨_, hz, rfl⟩
    unfold pyNext
    refine wpAny_bind (wpAny_attempt (wpAny_callSpecial?_slot (name := Str.ofString "__next__") hT F.slot_zip_next (wpAny_call_entry F.slot_zip_next hT F.entry_zip_next ?_ (F.args_zip_next_1 _))))
    exact zipT_first D hz Z.ti hTO Z.a Z.b hl1 hl2 hx hy fun h' a1 a2 a3 a4 a5 k => wpAny_pure (hQ h' ⟨k _ _ D.TIz D.TITO D.TIi1 D.TIi2 Z.ti, a2, a3, .inr ⟨_, _, false, a1, a4, lt hz, l1', l2'⟩⟩ a4 k)
  · have hT' : s.TypeIs (.ref z) "zip" := ⟨_, hz, rfl⟩
    unfold pyNext
    refine wpAny_bind (wpAny_attempt (wpAny_callSpecial?_slot (name := Str.ofString "__next__") hT' F.slot_zip_next (wpAny_call_entry F.slot_zip_next hT' F.entry_zip_next ?_ (F.args_zip_next_1 _))))
    exact zipT_later D.i1z D.i2z D.i12 D.l1z D.l2z D.l2i1 t1 D.TIz hz hT Z.ti Z.a Z.b hl1 hl2 hx hy fun h' a1 a2 a3 a4 a5 k => wpAny_pure (hQ h' ⟨k _ _ D.TIz D.TIi1 D.TIi2 Z.ti, a2, a3, .inr ⟨T, oT, true, a1, k _ _ t1 t2 t3 hT, t1, t2, t3⟩⟩ a4 fun c o c1 _ c3 c4 e => k c o c1 c3 c4 e)
theorem zipS_end {z TI TO i1 i2 l1 l2 : Addr} {i : Nat} {xs : Array Value} {Q : Option Value → Shared → Prop} (hh : A.handled = none) (D : ZipApart z TI TO i1 i2 l1 l2) (Z : ZipSt s.heap z TI TO i1 i2 l1 l2 i) (hl1 : s.heap.IsTuple l1 xs) (hx : xs[i]? = none)
    (hQ : ∀ h', (∀ c o, c ≠ z → c ≠ i1 → s.heap.get? c = some o → h'.get? c = some o) → Q none { s with heap := h' }) : wpAny (model prog w) A (pyNext (.ref z)) Q E s := by
  have hT' : s.TypeIs (.ref z) "zip" := by
    rcases Z.c with ⟨hz, _⟩ | ⟨T, oT, bb, hz, _⟩
    · exact ⟨_, hz, rfl⟩
    · exact ⟨_, hz, rfl⟩
  unfold pyNext
  refine wpAny_bind (wpAny_attempt (wpAny_callSpecial?_slot (name := Str.ofString "__next__") hT' F.slot_zip_next (wpAny_call_entry F.slot_zip_next hT' F.entry_zip_next ?_ (F.args_zip_next_1 _))))
  rcases Z.c with ⟨hz, _⟩ | ⟨T, oT, bb, hz, hT, t1, t2, t3⟩
  · refine zipT_end_none hh D.i1z D.l1z hz Z.ti Z.a hl1 hx fun h' e k he => ?_
    obtain ⟨o, ho, hc⟩ := he
    refine wpAny_bind (wpAny_isInstance (T := "StopIteration") (b := true) ⟨o, ho, hc⟩ isSubtype_stop ?_)
    exact wpAny_pure (hQ _ k)
  · refine zipT_end_later hh D.i1z D.l1z hz hT Z.ti Z.a hl1 hx fun h' e k he => ?_
    obtain ⟨o, ho, hc⟩ := he
    refine wpAny_bind (wpAny_isInstance (T := "StopIteration") (b := true) ⟨o, ho, hc⟩ isSubtype_stop ?_)
    exact wpAny_pure (hQ _ k)
theorem pair_itemsZ {T : Addr} {x y : Value} {Q : List Value → Shared → Prop} (h : IsPair s.heap T x y) (hq : Q [x, y] s) : wpAny (model prog w) A (Builtin.Dict.pairItems (.ref T)) Q E s := by
  unfold Builtin.Dict.pairItems
  refine wpAny_bind (wpAny_typeOf (T := "tuple") ⟨_, h, rfl⟩ ?_)
  rw [if_pos (by decide)]
  refine wpAny_bind ?_
  unfold seqItems?
  refine wpAny_bind (wpAny_load h ?_)
  exact wpAny_pure (wpAny_pure hq)
end
end PySem
set_option Elab.async false
set_option linter.all false
set_option maxRecDepth 100000
set_option maxHeartbeats 1000000
namespace L2
open PySem PySem.Spec PyProof.Rows PySem.W
def zKV (names : List Str) (vs : List V) : List (Key × V) := (names.zip vs).map fun q => (Sum.inr q.1, q.2)
theorem ZipSt.keepD {h h' : Heap} {z TI TO i1 i2 l1 l2 d : Addr} {i : Nat} (Z : ZipSt h z TI TO i1 i2 l1 l2 i) (nTI : TI ≠ d) (n1 : i1 ≠ d) (n2 : i2 ≠ d) (nz : z ≠ d) (nTO : TO ≠ d) (hd : ∃ o, h'.get? d = some o) (k : ∀ b o, b ≠ d → h.get? b = some o → h'.get? b = some o) : ZipSt h' z TI TO i1 i2 l1 l2 i := by
  refine ⟨k _ _ nTI Z.ti, Z.a.at fun o e => k _ o n1 e, Z.b.at fun o e => k _ o n2 e, ?_⟩
  rcases Z.c with ⟨hz, a, b, hTO⟩ | ⟨T, oT, bb, hz, hT, t1, t2, t3⟩
  · exact .inl ⟨k _ _ nz hz, a, b, k _ _ nTO hTO⟩
  · refine .inr ⟨T, ?_⟩
    by_cases e : T = d
    · obtain ⟨o, ho⟩ := hd
      exact ⟨o, bb, k _ _ nz hz, by rw [e]; exact ho, t1, t2, t3⟩
    · exact ⟨oT, bb, k _ _ nz hz, k _ _ e hT, t1, t2, t3⟩
section
variable {prog : Program} {w : World} {A : Around} {E : Value → Shared → Prop} {R : Result → Shared → Prop}
theorem upd_loopZ {d z TI TO i1 i2 l1 l2 : Addr} {xs ys : List Value} {names : List Str} {vs : List V} (hh : A.handled = none) (D : ZipApart z TI TO i1 i2 l1 l2) (nTI : TI ≠ d) (n1 : i1 ≠ d) (n2 : i2 ≠ d) (nz : z ≠ d) (nTO : TO ≠ d) (m1 : l1 ≠ d) (m2 : l2 ≠ d)
    (rx : Vals (names.map V.str) xs) (ry : Vals vs ys) (hl : names.length = vs.length) (nd : names.Nodup) (hz : names.length ≤ sizeLine) :
    ∀ (k i : Nat) (s : Shared) (acc : List (Key × Value)), i + k = names.length → ZipSt s.heap z TI TO i1 i2 l1 l2 i → s.heap.IsTuple l1 xs.toArray → s.heap.IsList l2 ys.toArray → s.heap.DictOf (mixKind prog w) d acc → KV (zKV (names.take i) (vs.take i)) acc →
      (∀ h' tk acc', (∀ b o, b ≠ d → b ≠ z → b ≠ TO → b ≠ i1 → b ≠ i2 → s.heap.get? b = some o → h'.get? b = some o) → h'.DictOf (mixKind prog w) d acc' → KV (zKV names vs) acc' → R (.ok (.ret .none)) { s with heap := h', toks := tk }) →
      ∀ c : Int, codeAny (model prog w) A (.builtin "dict.update.loop" ⟨[.ref d, .ref z, rawInt c, .none], []⟩) R s := by
  intro k
  have lx := rx.length
  have ly := ry.length
  rw [List.length_map] at lx
  induction k with
  | zero =>
    intro i s acc hk Z ht hl2 hd hkv hR c
    have hin : i = names.length := by omega
    refine codeAny_builtin entry_upd_loop ?_
    rw [Around.under_plainId plain_upd_loop _]
    show wpAny _ A.in1 (pyNext (.ref z) >>= _) _ _ s
    refine wpAny_bind (zipS_end (A := A.in1) hh D Z ht (by simp; omega) fun h1 he1 => ?_)
    show wpAny _ A.in1 (Builtin.Dict.addKeywords d [] >>= _) _ _ _
    refine wpAny_bind (wpAny_pure (wpAny_pure ?_))
    obtain ⟨o, es, ep, ho, x⟩ := hd
    subst hin
    rw [List.take_length, hl, List.take_length] at hkv
    exact hR h1 s.toks acc (fun b o _ b2 _ b4 _ e => he1 b o b2 b4 e) ⟨o, es, ep, he1 d o (Ne.symm nz) (Ne.symm n1) ho, x⟩ hkv
  | succ k ih =>
    intro i s acc hk Z ht hl2 hd hkv hR c
    have hlt : i < names.length := by omega
    have hxi : (names.map V.str)[i]? = some (.str names[i]) := by rw [List.getElem?_map, List.getElem?_eq_getElem hlt]; rfl
    have hvi : vs[i]? = some (vs[i]'(by omega)) := List.getElem?_eq_getElem (by omega)
    obtain ⟨x, ex, rx'⟩ := rx.get hxi
    obtain ⟨y, ey, ry'⟩ := ry.get hvi
    refine codeAny_builtin entry_upd_loop ?_
    rw [Around.under_plainId plain_upd_loop _]
    show wpAny _ A.in1 (pyNext (.ref z) >>= _) _ _ s
    refine wpAny_bind (zipS_item D Z ht hl2 (x := x) (y := y) (by simpa using ex) (by simpa using ey) fun h1 Z1 hp1 k1 => ?_)
    have ht1 : h1.IsTuple l1 xs.toArray := ht.at fun o e => k1 _ o D.l1z D.l1TO D.l1i1 D.l1i2 e
    have hl21 : h1.IsList l2 ys.toArray := hl2.at fun o e => k1 _ o D.l2z D.l2TO D.l2i1 D.l2i2 e
    have hd1 : h1.DictOf (mixKind prog w) d acc := by
      obtain ⟨o, es, ep, ho, x⟩ := hd
      exact ⟨o, es, ep, k1 d o (Ne.symm nz) (Ne.symm nTO) (Ne.symm n1) (Ne.symm n2) ho, x⟩
    dsimp only
    refine wpAny_bind (wpAny_holding (wpAny_bind (wpAny_tryCatch (pair_itemsZ hp1 ?_))))
    dsimp only
    have hal : acc.length = i := by
      have := Paired.length hkv
      unfold zKV at this
      rw [List.length_map, List.length_zip, List.length_take, List.length_take] at this
      omega
    refine wpAny_holding (wpAny_dictSet_pairs (k := (Sum.inr names[i] : Key)) (kV_is (k := Sum.inr names[i]) rx') hd1 (fun h2 hd2 hs2 => ?_) (by omega))
    refine wpAny_pure ⟨plainId_quiet plain_upd_loop _, ?_⟩
    have hb2 : ∀ b o, b ≠ d → h1.get? b = some o → h2.get? b = some o := fun b o hb e => (hs2.2 b hb).trans e
    have fresh : (acc.any fun kv => decide (kv.1 = (Sum.inr names[i] : Key))) = false := by
      rw [List.any_eq_false]
      intro kv hm
      have h1 : kv.1 ∈ acc.map (·.1) := List.mem_map.mpr ⟨kv, hm, rfl⟩
      rw [kv_keys hkv] at h1
      unfold zKV at h1
      rw [List.map_map] at h1
      obtain ⟨q, hq, e⟩ := List.mem_map.mp h1
      intro zz
      have z' : kv.1 = Sum.inr names[i] := of_decide_eq_true zz
      rw [← e] at z'
      have hqi : q.1 = names[i] := Sum.inr.inj z'
      have hmem : names[i] ∈ names.take i := by
        rw [← hqi]
        exact (List.of_mem_zip hq).1
      obtain ⟨j, hj, hje⟩ := List.mem_iff_getElem.mp hmem
      rw [List.length_take] at hj
      rw [List.getElem_take] at hje
      exact (List.pairwise_iff_getElem.mp nd) j i (by omega) hlt (by omega) hje
    have hst : stored acc (Sum.inr names[i]) y = acc ++ [((Sum.inr names[i] : Key), y)] := by
      unfold stored
      rw [fresh, if_neg Bool.false_ne_true]
    rw [hst] at hd2
    have hkv2 : KV (zKV (names.take (i + 1)) (vs.take (i + 1))) (acc ++ [((Sum.inr names[i] : Key), y)]) := by
      have e1 : zKV (names.take (i + 1)) (vs.take (i + 1)) = zKV (names.take i) (vs.take i) ++ [((Sum.inr names[i] : Key), vs[i]'(by omega))] := by
        unfold zKV
        rw [List.take_succ, List.getElem?_eq_getElem hlt, List.take_succ, hvi, List.zip_append (by rw [List.length_take, List.length_take]; omega), List.map_append]
        rfl
      rw [e1]
      exact kv_snoc hkv ry'
    have hdx : ∃ o, h2.get? d = some o := by obtain ⟨o, es, ep, ho, _⟩ := hd2; exact ⟨o, ho⟩
    exact ih (i + 1) { s with heap := h2, toks := _ } _ (by omega) (ZipSt.keepD Z1 nTI n1 n2 nz nTO hdx hb2) (ht1.at fun o e => hb2 _ o m1 e) (hl21.at fun o e => hb2 _ o m2 e) hd2 hkv2 (fun h' tk acc' hk' hd' hkv' => hR h' tk acc' (fun b o b1 b2 b3 b4 b5 e => hk' b o b1 b2 b3 b4 b5 (hb2 b o b1 (k1 b o b2 b3 b4 b5 e))) hd' hkv') (c + 1)
end
end L2
set_option Elab.async false
set_option linter.all false
set_option maxRecDepth 100000
set_option maxHeartbeats 1000000
namespace L2
open PySem PySem.Spec PyProof.Rows PySem.W
def tDZ (K : PySem.W.Frag) (t : TA) : TE := fun σ H Q => t σ H fun vs H1 => ∃ (a b : Addr) (names : List Str) (ys : List V), vs = [.ref a, .ref b] ∧ SqT K H1 a (names.map V.str) ∧ H1 b = some (.lst ys) ∧ names.length = ys.length ∧ names.Nodup ∧ names.length ≤ 1000 ∧
  ∀ l : Addr, H1 l = none → Q (.ref l) (upd H1 l (.dK (zKV names ys)))
theorem nlt {x y : Nat} (h : x < y ∨ y < x) : x ≠ y := by omega
theorem zip_apart {S a b : Nat} (ha : a < S) (hb : b < S) : ZipApart (S + 4) (S + 2) (S + 3) S (S + 1) a b := by
  constructor <;> exact nlt (by omega)
theorem bt_zip : bootBuiltins "zip" = some (.type "zip") := by decide +kernel
theorem pe_dzip {X : Cx} {p pos p2 pos2 : Pos} {e1 e2 : Expr} {t : TA} (hc : X.calm = true) (hg : Gl X "dict") (hm : X.mg "dict" = none) (hv : bootBuiltins "dict" = some (.type "dict")) (hg2 : Gl X "zip") (hm2 : X.mg "zip" = none) (hv2 : bootBuiltins "zip" = some (.type "zip")) (ha : PA X [e1, e2] t) (hp1 : plainE e1 = true := by rfl) (hp2 : plainE e2 = true := by rfl) :
    PE X (.Call (.Name "dict" p) [.Call (.Name "zip" p2) [e1, e2] [] pos2] [] pos) (tDZ X.K t) := by
  intro pins s σ H Q I h
  refine wpAny_Call_Name_kw (ld_blt I hg hm hv ?_)
  refine PyProof.Rows.callWith_type1 ?_ rfl rfl
  show wpAny _ _ (spliced [(false, eval (.Call (.Name "zip" p2) [e1, e2] [] pos2) X.env)]) _ _ s
  refine Calls.spliced_cons ?_
  refine wpAny_Call_Name_kw (ld_blt I hg2 hm2 hv2 ?_)
  refine PyProof.Rows.callWith_type1 (thn (ha pos2 pins s σ H _ I h) fun us s1 z => ?_) (se_plain hp1 _ _) (se_any _ _ [e2] (by simp [hp2]))
  obtain ⟨vs, H1, I1, r1, a, b, names, ys, rfl, hta, hb, hl, nd, hz, q⟩ := z
  clear I h
  obtain ⟨u1, u2, rfl, r1a, r1b⟩ := vals2 r1
  cases r1a
  cases r1b
  obtain ⟨xs, rx, htup, _⟩ := I1.tuple hta
  obtain ⟨hzy, its, n, ry, ho⟩ := I1.hok b _ hb
  have hlist : s1.heap.IsList b its.toArray := ⟨_, ho, rfl, n, rfl⟩
  refine call_zipT htup hlist fun h' zz zp zo zi1 zi2 zs zk => ?_
  refine Calls.spliced_nil ?_
  have hbig : (h'.objs.size == sysModules) = false := by
    have := I1.big
    exact beq_eq_false_iff_ne.mpr (by rw [zs]; exact Nat.ne_of_gt (Nat.lt_of_lt_of_le this (Nat.le_add_right _ _)))
  refine callType_codes (Q₁ := fun obj s₁ => obj = .ref h'.objs.size ∧ s₁ = { s1 with heap := h'.push { cls := .type "dict", data := .dict #[] } }) PySem.F.kt_called_dict (PySem.F.kt_typeCall_dict_1 _) PySem.F.entry_dict_init (PySem.kt_code_dict_new _ ⟨rfl, rfl⟩) ?_
  rintro obj s₁ ⟨rfl, rfl⟩
  have hnew : (h'.push { cls := .type "dict", data := .dict #[] }).DictOf (mixKind X.prog X.w) h'.objs.size [] := Heap.DictOf.new h'
  have hp1 : ∀ b o, h'.get? b = some o → (h'.push { cls := .type "dict", data := .dict #[] }).get? b = some o := fun b o e => Heap.get?_push_of_some _ e
  refine ⟨hnew.typeIs, PySem.F.args_dict_init_2 _ _, ?_⟩
  unfold Builtin.«dict.__init__»
  refine wpAny_bind ?_
  unfold Builtin.Dict.selfAndRest
  refine wpAny_bind (wpAny_notOrdered_dict hnew.typeIs ?_)
  show wpAny _ _ (pure (h'.objs.size, [Value.ref (s1.heap.objs.size + 4)])) _ _ _
  refine wpAny_pure ?_
  show wpAny _ _ (Builtin.Dict.updateFrom "dict.__init__" h'.objs.size (.ref (s1.heap.objs.size + 4)) [] .none) _ _ _
  unfold Builtin.Dict.updateFrom
  have ho1 := hp1 _ _ zz
  refine wpAny_bind (wpAny_typeOf (T := "zip") ⟨_, ho1, rfl⟩ ?_)
  rw [if_pos (by decide)]
  refine wpAny_bind (PySem.nokeysZ (show X.A.in1.in1.handled = none from I1.ok.hd hc) ho1 fun h2 t2 k2 => ?_)
  rw [if_pos (show (none : Option Value).isNone = true from rfl)]
  have k20 : ∀ c o, h'.get? c = some o → h2.get? c = some o := fun c o e => k2 c o (hp1 c o e)
  refine wpAny_bind (wpAny_rule (wpAny_bind (wpAny_pyIter_zip (show IsZip h2 _ _ _ .none from k20 _ _ zz) ?_)))
  refine wpAny_pure ⟨plainId_quiet plain_upd_loop _, ?_⟩
  have hd2 : h2.DictOf (mixKind X.prog X.w) h'.objs.size [] := by
    obtain ⟨o, es, ep, ho, x⟩ := hnew
    exact ⟨o, es, ep, k2 _ _ ho, x⟩
  have lta : a < s1.heap.objs.size := by obtain ⟨o, e, _⟩ := htup; exact Heap.lt_size e
  have ltb : b < s1.heap.objs.size := Heap.lt_size ho
  generalize hS : s1.heap.objs.size = S at *
  have D := zip_apart lta ltb
  rw [zs] at hd2 hbig ⊢
  refine upd_loopZ (A := X.A.in1) (xs := xs) (ys := its) (names := names) (vs := ys) (show X.A.in1.handled = none from I1.ok.hd hc) D (nlt (by omega)) (nlt (by omega)) (nlt (by omega)) (nlt (by omega)) (nlt (by omega)) (Nat.ne_of_lt (Nat.lt_of_lt_of_le lta (Nat.le_add_right _ _))) (Nat.ne_of_lt (Nat.lt_of_lt_of_le ltb (Nat.le_add_right _ _))) rx ry hl nd (Nat.le_of_lt (small1000 hz)) names.length 0 _ [] (by omega) ⟨k20 _ _ zp, zi1.at fun o e => k20 _ o e, zi2.at fun o e => k20 _ o e, .inl ⟨k20 _ _ zz, _, _, k20 _ _ zo⟩⟩ (Heap.IsTuple.at htup fun o e => k20 _ o (zk _ o e)) (hlist.at fun o e => k20 _ o (zk _ o e)) hd2 .nil ?_ 0
  intro h3 tk acc' hk hd' hkv'
  refine ⟨rfl, .ref (S + 5), _, I1.laid (t' := tk) (fun c o e => ?_) (by omega) (dk_new (kvs := zKV names ys) ?_ hbig hkv' hd'), rfl, q _ (I1.hok.fresh (by omega))⟩
  · have lc := Heap.lt_size e
    rw [hS] at lc
    have g : ∀ k, c ≠ S + k := fun k => Nat.ne_of_lt (Nat.lt_of_lt_of_le lc (Nat.le_add_right _ _))
    exact hk c o (g 5) (g 4) (g 3) (g 0) (g 1) (k20 _ _ (zk _ _ e))
  · unfold zKV
    rw [List.length_map, List.length_zip, ← hl, Nat.min_self]
    exact Nat.le_of_lt (small1000 hz)
end L2
set_option Elab.async false
set_option linter.all false
set_option maxRecDepth 100000
set_option maxHeartbeats 2000000
namespace LW
open PySem L2
abbrev sFrame__init__ : Stmt := inClass (top 29) 0
theorem fr_fields {pr nm rw : Addr} {cb : V} : putF "at" (.int 0) (putF "rows" (.ref rw) (putF "numbers" (.ref nm) (putF "called_by" cb (putF "proc" (.ref pr) [])))) = frFs pr cb nm rw 0 := by
  unfold frFs
  simp only [putF]
  repeat rw [if_neg (by decide)]
  simp only [putF]
  repeat rw [if_neg (by decide)]
  simp only [putF]
  repeat rw [if_neg (by decide)]
  simp only [putF]
  repeat rw [if_neg (by decide)]
  rfl
theorem zkv_nkv {names : List Str} {nums : List Int} : zKV names (nums.map V.int) = nKV (names.zip nums) := by
  unfold zKV nKV
  rw [List.zip_map_right, List.map_map]
  rfl
section
variable {P : Program} {w : World} {K : PySem.W.Frag} {mg : Str → Option Value} {base : Heap}
theorem ok_frame {CF : Addr} {f : Addr} {fd : FuncData} (T : ClsF K CF) (F : Fun K "__init__" "Frame.__init__" sFrame__init__ f fd) (B : Free0 mg) (Z_zip : mg "zip" = none) : FnOk P w K mg base CX0 1 f fd ["self", "proc", "numbers", "rows", "called_by"] (spFrame CF) := by
  have sc : FnScope ["self", "proc", "numbers", "rows", "called_by"] ["self", "proc", "numbers", "rows", "called_by"] (defScope sFrame__init__) := ⟨rfl, rfl, rfl, by decide +kernel, rfl, by decide +kernel, by decide +kernel⟩
  refine F.ok sc (fun vs H Q E h => ?_) (fun cdv A outer s H vs Q E hr h => ?_)
  · obtain ⟨fa, dx, pr, pt, e3, nl, rl, cb, p0, p1, p4, p5, p6, names, nums, rfl, _⟩ := h
    rfl
  obtain ⟨fa, dx, pr, pt, e3, nl, rl, cb, p0, p1, p4, p5, p6, names, nums, rfl, hfa, hpr, hpt, he3, hnl, hrl, hln, hnd, hl, q⟩ := h
  refine ⟨_, (pss_cons (ps_fld (pv 0) (pv 1) rfl)
      (pss_cons (ps_fld (pv 0) (pv 4) rfl)
      (pss_cons (ps_fld (pv 0) (pe_dzip rfl (by rfl) B.dict_ bt_dict (by rfl) Z_zip bt_zip (pa_c (pe_ix ix_tup (pv 1) pe_int (fun _ _ => rfl)) (pa_c (pv 2) pa_nil))) rfl)
      (pss_cons (ps_fld (pv 0) (pe_dzip rfl (by rfl) B.dict_ bt_dict (by rfl) Z_zip bt_zip (pa_c (pe_ix ix_tup (pv 1) pe_int (fun _ _ => rfl)) (pa_c (pv 3) pa_nil))) rfl)
      (pss_one (ps_fld (pv 0) pe_int rfl)))))), ?_⟩
  refine ⟨_, rfl, _, rfl, fa, CF, dx, [], rfl, hfa, T.c, T.n1, by show 0 < 1000; decide, ?_⟩
  refine ⟨_, rfl, _, rfl, fa, CF, dx, _, rfl, upd_same, T.c, T.n2, by show 1 < 1000; decide, ?_⟩
  have k1 : ∀ b o, b ≠ fa → H b = some o → upd (upd H fa (.ins CF dx (putF "proc" (.ref pr) []))) fa (.ins CF dx (putF "called_by" cb (putF "proc" (.ref pr) []))) b = some o := fun b o hb z => by rw [upd_ne hb, upd_ne hb]; exact z
  have c1 : upd (upd H fa (.ins CF dx (putF "proc" (.ref pr) []))) fa (.ins CF dx (putF "called_by" cb (putF "proc" (.ref pr) []))) fa = some (.ins CF dx (putF "called_by" cb (putF "proc" (.ref pr) []))) := upd_same
  generalize upd (upd H fa (.ins CF dx (putF "proc" (.ref pr) []))) fa (.ins CF dx (putF "called_by" cb (putF "proc" (.ref pr) []))) = H1 at *
  have nf : ∀ {b o}, H b = some o → (∀ a b c, o ≠ .ins a b c) → b ≠ fa := fun e n z => by rw [z, hfa] at e; cases e; exact n _ _ _ rfl
  have hpr1 := k1 _ _ (nf hpr (fun _ _ _ z => by cases z)) hpr
  have hpt1 := k1 _ _ (nf hpt (fun _ _ _ z => by cases z)) hpt
  have he31 := k1 _ _ (nf he3 (fun _ _ _ z => by cases z)) he3
  have hnl1 := k1 _ _ (nf hnl (fun _ _ _ z => by cases z)) hnl
  have hrl1 := k1 _ _ (nf hrl (fun _ _ _ z => by cases z)) hrl
  refine ⟨_, rfl, pr, _, _, _, rfl, rfl, SqT.of hpr1, rfl, _, rfl, pt, nl, names, nums.map V.int, rfl, SqT.of hpt1, hnl1, by rw [List.length_map]; exact hln, hnd, by omega, fun nm hnm => ?_⟩
  have s2 := same_new hnm (.dK (zKV names (nums.map V.int)))
  have e2 : upd H1 nm (.dK (zKV names (nums.map V.int))) nm = some (.dK (zKV names (nums.map V.int))) := upd_same
  generalize upd H1 nm (.dK (zKV names (nums.map V.int))) = H2 at *
  have hnm0 : H nm = none := by
    rcases hh : H nm with _ | o
    · rfl
    · by_cases z : nm = fa
      · rw [z, c1] at hnm; cases hnm
      · rw [k1 nm o z hh] at hnm; cases hnm
  have nnf : nm ≠ fa := fun z => by rw [z, c1] at hnm; cases hnm
  refine ⟨_, rfl, fa, CF, dx, _, rfl, s2 _ _ c1, T.c, T.n3, by show 2 < 1000; decide, ?_⟩
  have k3 : ∀ b o, b ≠ fa → H2 b = some o → upd H2 fa (.ins CF dx (putF "numbers" (.ref nm) (putF "called_by" cb (putF "proc" (.ref pr) [])))) b = some o := fun b o hb z => by rw [upd_ne hb]; exact z
  have c3 : upd H2 fa (.ins CF dx (putF "numbers" (.ref nm) (putF "called_by" cb (putF "proc" (.ref pr) [])))) fa = some (.ins CF dx (putF "numbers" (.ref nm) (putF "called_by" cb (putF "proc" (.ref pr) [])))) := upd_same
  generalize upd H2 fa (.ins CF dx (putF "numbers" (.ref nm) (putF "called_by" cb (putF "proc" (.ref pr) [])))) = H3 at *
  have hpr3 := k3 _ _ (nf hpr (fun _ _ _ z => by cases z)) (s2 _ _ hpr1)
  have he33 := k3 _ _ (nf he3 (fun _ _ _ z => by cases z)) (s2 _ _ he31)
  have hrl3 := k3 _ _ (nf hrl (fun _ _ _ z => by cases z)) (s2 _ _ hrl1)
  have e3n := k3 _ _ nnf e2
  refine ⟨_, rfl, pr, _, _, _, rfl, rfl, SqT.of hpr3, rfl, _, rfl, e3, rl, [], [], rfl, SqT.of he33, hrl3, rfl, .nil, by decide, fun rw hrw => ?_⟩
  have s4 := same_new hrw (.dK (zKV [] []))
  have e4 : upd H3 rw (.dK (zKV [] [])) rw = some (.dK (zKV [] [])) := upd_same
  generalize upd H3 rw (.dK (zKV [] [])) = H4 at *
  have hrw0 : H rw = none := by
    rcases hh : H rw with _ | o
    · rfl
    · by_cases z : rw = fa
      · rw [z, c3] at hrw; cases hrw
      · rw [k3 rw o z (s2 _ _ (k1 rw o z hh))] at hrw; cases hrw
  have nrf : rw ≠ fa := fun z => by rw [z, c3] at hrw; cases hrw
  refine ⟨_, rfl, fa, CF, dx, _, rfl, s4 _ _ c3, T.c, T.n4, by show 3 < 1000; decide, ?_⟩
  refine ⟨_, rfl, fa, CF, dx, _, rfl, upd_same, T.c, T.n5, by show 4 < 1000; decide, ?_⟩
  rw [fr_fields]
  refine q nm rw _ (fun b o hb z => ?_) hnm0 hrw0 upd_same ?_ ?_
  · rw [upd_ne hb, upd_ne hb]; exact s4 _ _ (k3 b o hb (s2 _ _ (k1 b o hb z)))
  · rw [upd_ne nnf, upd_ne nnf, ← zkv_nkv]; exact s4 _ _ e3n
  · rw [upd_ne nrf, upd_ne nrf]; exact e4
end
end LW
set_option Elab.async false
set_option linter.all false
set_option maxRecDepth 100000
set_option maxHeartbeats 3000000
namespace LW
open PySem L2
abbrev sCell_at : Stmt := top 41
abbrev sWords : Stmt := top 42
def spCell (K : PySem.W.Frag) : Sp := fun vs H Q _ => ∃ (a : Addr) (ns : List Int) (k : Int), vs = [.ref a, .int k] ∧ SqL K H a (ns.map V.int) ∧ 0 ≤ k ∧ k ≤ 1000 ∧ ∀ c : Int, Q (.int c) H
def spWords : Sp := fun vs H Q _ => ∃ (c : Int) (n : Nat), vs = [.int c, .int n] ∧ n ≤ 14 ∧ ∀ (l : Addr) (ws : List Str) (H' : Hp), WordsOk ws n → Same H H' → H l = none → H' l = some (.lst (ws.map V.str)) → Q (.ref l) H'
theorem snocR {α : Type} (f : Nat → α) (i : Nat) : (List.range (i + 1)).map f = (List.range i).map f ++ [f i] := by rw [List.range_succ, List.map_append]; rfl
structure QA (X : Cx) (es : List Expr) (t : TA) : Prop where
  h : PA X es t
theorem qa_nil {X : Cx} : QA X [] tNil := ⟨pa_nil⟩
theorem qa_str {X : Cx} {es : List Expr} {t : TA} {z : Str} {j : Nat} {pos : Pos} (h : QA X es t) : QA X (.Constant (.str z) j pos :: es) (tCons (tC (.str z)) t) := ⟨pa_c pe_str h.h⟩
theorem q_setL {X : Cx} {i : Nat} {x : Str} {p1 q pos : Pos} {es : List Expr} {t : TA} (hN : X.N.Nodup) (hi : X.N[i]? = some x) (hx : Loc X.env.scope x) (h : QA X es t) (hf : X.fn x = true ∨ X.env.scope.names.lookup x = some .local := by first | exact .inl rfl | exact .inr rfl | assumption) :
    QS X (.Assign [.Name x p1] (.List es q) pos) (tAsg (tLst t) (gName i)) := ⟨ps_set hN hi hx (pe_lst h.h) rfl hf⟩
section
variable {P : Program} {w : World} {K : PySem.W.Frag} {mg : Str → Option Value} {base : Heap}
theorem ok_cell {f : Addr} {fd : FuncData} (F : Fun K "_law_cell_at" "_law_cell_at" sCell_at f fd) (B : Free0 mg) : FnOk P w K mg base CX0 1 f fd ["_law_script", "_law_k"] (spCell K) := by
  have sc : FnScope ["_law_script", "_law_k", "_law_number"] ["_law_script", "_law_k"] (defScope sCell_at) := ⟨rfl, rfl, rfl, by decide +kernel, rfl, by decide +kernel, by decide +kernel⟩
  refine F.ok sc (fun vs H Q E h => ?_) (fun cdv A outer s H vs Q E hr h => ?_)
  · obtain ⟨a, ns, k, rfl, _⟩ := h
    rfl
  obtain ⟨a, ns, k, rfl, hS, h0, h1, q⟩ := h
  have hl : (ns.map V.int).length = ns.length := List.length_map _
  refine ⟨_, (pss_cons (ps_if (pt_cmpR op_lt (pv 1) (pe_cB call_len_seq (by rfl) B.len_ bt_len (pa_c (pv 0) pa_nil)) (nomark _)) (pss_one (ps_ret (pe_ix ix_list (pv 0) (pv 1) (fun _ _ => rfl)))) pss_nil)
      (pss_cons (ps_set (i := 2) sc.nd rfl (by first | exact Or.inl rfl | exact Or.inr rfl) (pe_op op_add (pe_op op_mul pe_int (pv 1)) pe_int))
      (pss_cons (ps_if (pt_cmpR op_gt (pe_cB call_len_seq (by rfl) B.len_ bt_len (pa_c (pv 0) pa_nil)) pe_int (nomark _)) (pss_one (ps_set (i := 2) sc.nd rfl (by first | exact Or.inl rfl | exact Or.inr rfl) (pe_op op_add (pe_op op_mul (pe_op op_mod (pe_ix ix_list (pv 0) (pe_op op_mod (pv 1) (pe_cB call_len_seq (by rfl) B.len_ bt_len (pa_c (pv 0) pa_nil))) (fun _ _ => rfl)) pe_int) pe_int) (pe_op op_mul (pe_op op_mul pe_int (pv 1)) (pv 1))))) pss_nil)
      (pss_one (ps_ret (pe_op op_mod (pv 2) pe_int)))))), ?_⟩
  refine ⟨_, rfl, _, rfl, a, _, rfl, .inl hS, _, _, rfl, rfl, _, rfl, ite2 (fun c => ?_) (fun c => ?_)⟩
  · have c' : k < (ns.length : Int) := by
      have := of_decide_eq_true c
      rw [hl] at this
      exact this
    exact ⟨_, rfl, _, rfl, a, _, _, _, rfl, rfl, hS, at_map h0 c', q _⟩
  · refine ⟨_, rfl, _, _, rfl, rfl, .inl ⟨by decide, by decide⟩, _, _, rfl, rfl, ?_⟩
    refine ⟨_, rfl, a, _, rfl, .inl hS, _, _, rfl, rfl, _, rfl, ite2 (fun d => ?_) (fun d => ?_)⟩
    · have d' : 0 < ns.length := by
        have := of_decide_eq_true d
        rw [hl] at this
        omega
      have hm0 : 0 ≤ k % (ns.length : Int) := Int.emod_nonneg _ (by omega)
      have hm1 : k % (ns.length : Int) < (ns.length : Int) := Int.emod_lt_of_pos _ (by omega)
      have hat : atI (ns.map V.int) (k % (((ns.map V.int).length : Nat) : Int)) = some (.int (ns.getD (k % (ns.length : Int)).toNat 0)) := by
        rw [hl]
        exact at_map hm0 hm1
      refine ⟨_, rfl, _, rfl, _, rfl, a, _, rfl, .inl hS, _, _, rfl, rfl, (by rw [hl]; omega), a, _, _, _, rfl, rfl, hS, hat, _, _, rfl, rfl, (by show (0 : Int) < _; decide), _, _, rfl, rfl, .inr ⟨by decide, by decide⟩, _, rfl, _, _, rfl, rfl, .inl ⟨by decide, by decide⟩, _, rfl, _, _, rfl, rfl, .inr ⟨by omega, by omega⟩, _, _, rfl, rfl, ?_⟩
      exact ⟨_, rfl, _, _, rfl, rfl, (by show (0 : Int) < _; decide), q _⟩
    · exact ⟨_, rfl, _, _, rfl, rfl, (by show (0 : Int) < _; decide), q _⟩
theorem ok_words {f : Addr} {fd : FuncData} (F : Fun K "_law_words" "_law_words" sWords f fd) (B : Free0 mg) : FnOk P w K mg base CX0 1 f fd ["_law_cell", "_law_many"] spWords := by
  have sc : FnScope ["_law_cell", "_law_many", "_law_letters", "_law_own", "_law_size", "_law_spot", "_law_words_here", "_law_k", "_law_base"] ["_law_cell", "_law_many"] (defScope sWords) := ⟨rfl, rfl, rfl, by decide +kernel, rfl, by decide +kernel, by decide +kernel⟩
  refine F.ok sc (fun vs H Q E h => ?_) (fun cdv A outer s H vs Q E hr h => ?_)
  · obtain ⟨c, n, rfl, _⟩ := h
    rfl
  obtain ⟨c, n, rfl, hn, q⟩ := h
  refine ⟨_, (QSs.h (qss_cons (qs (ps_set (i := 2) sc.nd rfl (by first | exact Or.inl rfl | exact Or.inr rfl) pe_str))
      (qss_cons (q_setL (i := 3) sc.nd rfl (by first | exact Or.inl rfl | exact Or.inr rfl) (qa_str (qa_str (qa_str (qa_str (qa_str (qa_str (qa_str (qa_str (qa_str (qa_str (qa_str (qa_str (qa_str (qa_str qa_nil)))))))))))))))
      (qss_cons (qs (ps_if (pt_cmpR op_eq (pe_op op_mod (pv 0) pe_int) pe_int (nomark _)) (pss_one (ps_ret (pe_comp ["_law_k"] [0, 3] rfl (comp_ok (sc := defScope sWords) (N := ["_law_cell", "_law_many", "_law_letters", "_law_own", "_law_size", "_law_spot", "_law_words_here", "_law_k", "_law_base"]) rfl rfl (by decide +kernel)) (pi_range1 (by rfl) B.range_ (pa_c (pv 1) pa_nil)) (fun s H ex => ⟨(pg_name (i := 0) (show List.Nodup (["_law_k", "_law_cell", "_law_own"] : List Str) by decide +kernel) rfl (by first | exact Or.inl rfl | exact Or.inr rfl)), pts_nil, (pe_ix (ix_listK (K := K)) (pv 2) (pe_op op_mod (pe_op op_add (pe_op op_fdivB (pv 1) pe_int) (pv 0)) pe_int) (fun _ _ => rfl))⟩)))) pss_nil))
      (qss_cons (qs (ps_set (i := 4) sc.nd rfl (by first | exact Or.inl rfl | exact Or.inr rfl) (pe_op op_mod (pv 0) pe_int)))
      (qss_cons (qs (ps_if (pt_cmpR op_eq (pv 4) pe_int (nomark _)) (pss_one (ps_ret (pe_comp ["_law_k"] [0, 2] rfl (comp_ok (sc := defScope sWords) (N := ["_law_cell", "_law_many", "_law_letters", "_law_own", "_law_size", "_law_spot", "_law_words_here", "_law_k", "_law_base"]) rfl rfl (by decide +kernel)) (pi_range1 (by rfl) B.range_ (pa_c (pv 1) pa_nil)) (fun s H ex => ⟨(pg_name (i := 0) (show List.Nodup (["_law_k", "_law_cell", "_law_letters"] : List Str) by decide +kernel) rfl (by first | exact Or.inl rfl | exact Or.inr rfl)), pts_nil, (pe_ix ix_str (pv 2) (pe_op op_mod (pe_op op_add (pe_op op_fdivB (pv 1) pe_int) (pv 0)) pe_int) (fun _ _ => rfl))⟩)))) pss_nil))
      (qss_cons (qs (ps_set (i := 5) sc.nd rfl (by first | exact Or.inl rfl | exact Or.inr rfl) (pe_op op_mod (pe_op op_fdivB (pv 0) pe_int) (pv 4))))
      (qss_cons (qs (ps_set (i := 6) sc.nd rfl (by first | exact Or.inl rfl | exact Or.inr rfl) (pe_lst pa_nil)))
      (qss_cons (qs (ps_for PassesOwn.never rfl (pi_range1 (by rfl) B.range_ (pa_c (pv 1) pa_nil)) (pg_name (i := 7) sc.nd rfl (by first | exact Or.inl rfl | exact Or.inr rfl)) (pss_cons (ps_setcomp (i := 8) sc.nd rfl (by first | exact Or.inl rfl | exact Or.inr rfl) ["_law_j"] [0, 5, 7] rfl (comp_ok (sc := defScope sWords) (N := ["_law_cell", "_law_many", "_law_letters", "_law_own", "_law_size", "_law_spot", "_law_words_here", "_law_k", "_law_base"]) rfl rfl (by decide +kernel)) (pi_range1 (by rfl) B.range_ (pa_c (pv 4) pa_nil)) (fun s H ex => ⟨(pg_name (i := 0) (show List.Nodup (["_law_j", "_law_cell", "_law_spot", "_law_k"] : List Str) by decide +kernel) rfl (by first | exact Or.inl rfl | exact Or.inr rfl)), pts_nil, (pe_op op_add (pe_op op_add (pe_op op_fdivB (pv 1) pe_int) (pe_op op_mul (pe_op op_mul pe_int (pv 0)) (pv 0))) (pe_op op_mul (pv 3) (pe_cT call_int1 (by rfl) B.int_ bt_int (pa_c (pe_cmpR op_eq (pv 0) (pv 2) (nomark _)) pa_nil))))⟩))
      (pss_one (ps_expr (pe_bm PySem.F.plainAttrs_list PySem.F.slot_list_append PySem.F.type_list_append mt_append (pv 6) (pa_c (pe_op op_add_str (pe_ix ix_str pe_str (pe_op op_mod (pe_op op_fdivB (pv 0) pe_int) pe_int) (fun _ _ => rfl)) (pe_bm PySem.F.plainAttrs_str PySem.F.slot_str_join PySem.F.type_str_join mt_join pe_str (pa_c (pe_comp ["_law_each"] [2] rfl (comp_ok (sc := defScope sWords) (N := ["_law_cell", "_law_many", "_law_letters", "_law_own", "_law_size", "_law_spot", "_law_words_here", "_law_k", "_law_base"]) rfl rfl (by decide +kernel)) (pi_list (pv 8)) (fun s H ex => ⟨(pg_name (i := 0) (show List.Nodup (["_law_each", "_law_letters"] : List Str) by decide +kernel) rfl (by first | exact Or.inl rfl | exact Or.inr rfl)), pts_nil, (pe_ix ix_str (pv 1) (pe_op op_mod (pv 0) pe_int) (fun _ _ => rfl))⟩)) pa_nil))) pa_nil)))))))
      (qss_one (qs (ps_ret (pv 6))))))))))))), ?_⟩
  refine ⟨sm rfl, fun lo hlo => ?_⟩
  have s1 := same_new hlo (.lst [V.str "row", V.str "is", V.str "at", V.str "set", V.str "put", V.str "know", V.str "lose", V.str "start", V.str "entry", V.str "own", V.str "nought", V.str "pick", V.str "least", V.str "lost"])
  have e1 : upd H lo (.lst [V.str "row", V.str "is", V.str "at", V.str "set", V.str "put", V.str "know", V.str "lose", V.str "start", V.str "entry", V.str "own", V.str "nought", V.str "pick", V.str "least", V.str "lost"]) lo = some (.lst (ownL.map V.str)) := upd_same
  generalize upd H lo (.lst [V.str "row", V.str "is", V.str "at", V.str "set", V.str "put", V.str "know", V.str "lose", V.str "start", V.str "entry", V.str "own", V.str "nought", V.str "pick", V.str "least", V.str "lost"]) = H1 at *
  have nonneg : ∀ {x y : Int}, 0 < y → 0 ≤ x % y ∧ x % y < y := fun h => ⟨Int.emod_nonneg _ (by omega), Int.emod_lt_of_pos _ h⟩
  have hlet : lettersS.length ≤ sizeLine := by show 26 ≤ sizeLine; rw [sizeLine_eq]; decide
  have hqz : qzS.length ≤ sizeLine := by show 2 ≤ sizeLine; rw [sizeLine_eq]; decide
  refine ⟨_, rfl, _, _, rfl, rfl, (by show (0 : Int) < _; decide), rfl, _, rfl, ite2 (fun d => ?_) (fun d => ?_)⟩
  · refine ⟨_, rfl, (n : Int), rfl, by omega, by omega, fun p hp => ?_⟩
    have s2 := same_new hp (.lst [])
    refine comp_range (fun i σ' G' => ∃ (u : Option V), σ' = [u, some (.int c), some (.ref lo)] ∧ Same H1 G' ∧ G' p = some (.lst (((List.range i).map (ownW c)).map V.str))) ?_ ?_ ?_
    · exact ⟨none, rfl, s2, upd_same⟩
    · rintro i σ' G' hi ⟨u, rfl, sG', hGp⟩
      unfold gName tYes
      refine iteT ?_
      have hb := nonneg (x := c / 7 + (0 + (i : Int))) (y := 14) (by decide)
      have hat := at_strs (xs := ownL) (i := (c / 7 + (0 + (i : Int))) % 14) hb.1 (by show _ < (14 : Int); exact hb.2)
      refine ⟨_, rfl, _, rfl, _, _, rfl, rfl, ⟨by decide, by decide⟩, _, rfl, _, _, rfl, rfl, _, _, rfl, rfl, (by show (0 : Int) < _; decide), lo, _, _, _, rfl, rfl, SqL.of (sG' _ _ e1), hat, ?_⟩
      have hi8 : i < n := by simpa using hi
      refine ⟨_, hGp, small1000 (by rw [List.length_map, List.length_map, List.length_range]; omega), _, rfl, fun z o e => ?_, ?_⟩
      · rw [upd_ne (ne_of_none e hp)]; exact sG' _ _ e
      · rw [upd_same, snocR, List.map_append]; rfl
    · rintro σ' G' ⟨u, rfl, sG', hGp⟩
      rw [show ((n : Int)).toNat = n from rfl] at hGp
      exact q p _ G' (own_ok hn) (s1.trans sG') (s1.free hp) hGp
  refine ⟨_, rfl, _, _, rfl, rfl, (by show (0 : Int) < _; decide), ?_⟩
  have hsz := nonneg (x := c) (y := 8) (by decide)
  dsimp only
  generalize c % 8 = size at *
  refine ⟨_, rfl, rfl, _, rfl, ite2 (fun d2 => ?_) (fun d2 => ?_)⟩
  · refine ⟨_, rfl, (n : Int), rfl, by omega, by omega, fun p hp => ?_⟩
    have s2 := same_new hp (.lst [])
    refine comp_range (fun i σ' G' => ∃ (u : Option V), σ' = [u, some (.int c), some (.str lettersS)] ∧ Same H1 G' ∧ G' p = some (.lst (((List.range i).map (oneW c)).map V.str))) ?_ ?_ ?_
    · exact ⟨none, rfl, s2, upd_same⟩
    · rintro i σ' G' hi ⟨u, rfl, sG', hGp⟩
      unfold gName tYes
      refine iteT ?_
      have hb := nonneg (x := c / 8 + (0 + (i : Int))) (y := 26) (by decide)
      have hch := letter_at hb.1 hb.2
      refine ⟨_, rfl, _, rfl, _, _, rfl, rfl, ⟨by decide, by decide⟩, _, rfl, _, _, rfl, rfl, _, _, rfl, rfl, (by show (0 : Int) < _; decide), lettersS, _, _, rfl, rfl, hlet, hch, ?_⟩
      have hi8 : i < n := by simpa using hi
      refine ⟨_, hGp, small1000 (by rw [List.length_map, List.length_map, List.length_range]; omega), _, rfl, fun z o e => ?_, ?_⟩
      · rw [upd_ne (ne_of_none e hp)]; exact sG' _ _ e
      · rw [upd_same, snocR, List.map_append]; rfl
    · rintro σ' G' ⟨u, rfl, sG', hGp⟩
      rw [show ((n : Int)).toNat = n from rfl] at hGp
      exact q p _ G' (one_ok (by omega)) (s1.trans sG') (s1.free hp) hGp
  have d2' : ¬ size = 0 := fun e => d2 (decide_eq_true (congrArg V.int e))
  refine ⟨_, rfl, _, _, rfl, rfl, ⟨by decide, by decide⟩, _, rfl, _, _, rfl, rfl, (by show (0 : Int) < size; omega), ?_⟩
  dsimp only
  have hsp := nonneg (x := c / 8) (y := size) (by omega)
  generalize c / 8 % size = spot at *
  refine ⟨sm rfl, fun lw hlw => ?_⟩
  have s2 := same_new hlw (.lst [])
  have e2 : upd H1 lw (.lst []) lw = some (.lst []) := upd_same
  have hlw0 : H lw = none := s1.free hlw
  generalize upd H1 lw (.lst []) = H2 at *
  have s02 := s1.trans s2
  refine ⟨_, rfl, (n : Int), rfl, by omega, by omega, ?_⟩
  refine for_range (n := n) (fun i σ G => ∃ (x7 x8 : Option V), σ = [some (.int c), some (.int n), some (.str lettersS), some (.ref lo), some (.int size), some (.int spot), some (.ref lw), x7, x8] ∧ Same H G ∧ G lw = some (.lst (((List.range i).map (lgW c size spot)).map V.str))) ?_ ?_ ?_
  · exact ⟨none, none, rfl, s02, e2⟩
  · rintro i σ G hi ⟨x7, x8, rfl, sG, hGw⟩
    refine ⟨_, rfl, size, rfl, by omega, by omega, fun p hp => ?_⟩
    have s3 := same_new hp (.lst [])
    have npw : lw ≠ p := ne_of_none hGw hp
    refine comp_range (fun j σ' G' => ∃ (u : Option V), σ' = [u, some (.int c), some (.int spot), some (.int (0 + (i : Int)))] ∧ Same G G' ∧ G' p = some (.lst (((List.range j).map (bsW c spot i)).map V.int))) ?_ ?_ ?_
    · exact ⟨none, rfl, s3, upd_same⟩
    · rintro j σ' G' hj ⟨u, rfl, sG', hGp⟩
      have hj8 : j < size.toNat := by simpa using hj
      unfold gName tYes
      refine iteT ?_
      refine ⟨_, rfl, _, _, rfl, rfl, ⟨by decide, by decide⟩, _, rfl, _, _, rfl, rfl, .inl ⟨by decide, by decide⟩, _, rfl, _, _, rfl, rfl, .inr ⟨by omega, by omega⟩, _, _, rfl, rfl, _, rfl, _, rfl, _, rfl, rfl, .inr ⟨_, rfl, ?_⟩⟩
      refine ⟨_, _, rfl, rfl, .inr ⟨by split <;> decide, by split <;> decide⟩, _, _, rfl, rfl, ?_⟩
      refine ⟨_, hGp, small1000 (by rw [List.length_map, List.length_map, List.length_range]; omega), _, rfl, fun z o e => ?_, ?_⟩
      · rw [upd_ne (ne_of_none e hp)]; exact sG' _ _ e
      · rw [upd_same, snocR, List.map_append]; rfl
    rintro σ' G1 ⟨u, rfl, sG1, hG1p⟩
    have hb := nonneg (x := c / 144) (y := 2) (by decide)
    have hqc := qz_at hb.1 hb.2
    refine ⟨_, rfl, .inl ⟨rfl, _, SqL.of (sG1 _ _ hGw)⟩, ?_⟩
    refine ⟨_, rfl, _, _, rfl, rfl, ⟨by decide, by decide⟩, _, _, rfl, rfl, (by show (0 : Int) < _; decide), qzS, _, _, rfl, rfl, hqz, hqc, ?_⟩
    refine ⟨rfl, _, rfl, p, rfl, ⟨_, SqL.of hG1p⟩, fun p2 hp2 => ?_⟩
    have s4 := same_new hp2 (.lst [])
    refine comp_list (xs := ((List.range size.toNat).map (bsW c spot i)).map V.int) (fun j σ' G' => ∃ (u : Option V), σ' = [u, some (.str lettersS)] ∧ Same G1 G' ∧ G' p2 = some (.lst ((((List.range j).map fun j => letC (bsW c spot i j % 26)).map fun ch => (⟨#[ch]⟩ : Str)).map V.str))) ?_ ?_ ?_ ?_
    · exact ⟨none, rfl, s4, upd_same⟩
    · rintro j σ' G' _ ⟨u, rfl, sG', _⟩
      exact SqL.of (sG' _ _ hG1p)
    · rintro j x σ' G' hx ⟨u, rfl, sG', hGp⟩
      have hj : j < size.toNat := by
        have := (List.getElem?_eq_some_iff.mp hx).1
        rw [List.length_map, List.length_map, List.length_range] at this
        exact this
      rw [List.getElem?_map, List.getElem?_map, List.getElem?_range hj] at hx
      cases hx
      unfold gName tYes
      refine iteT ?_
      have hb2 := nonneg (x := bsW c spot i j) (y := 26) (by decide)
      have hch := letter_at hb2.1 hb2.2
      refine ⟨_, rfl, _, rfl, _, _, rfl, rfl, (by show (0 : Int) < _; decide), lettersS, _, _, rfl, rfl, hlet, hch, ?_⟩
      refine ⟨_, hGp, small1000 (by rw [List.length_map, List.length_map, List.length_map, List.length_range]; omega), _, rfl, fun z o e => ?_, ?_⟩
      · rw [upd_ne (ne_of_none e hp2)]; exact sG' _ _ e
      · rw [upd_same, snocR, List.map_append, List.map_append]; rfl
    rintro σ' G2 ⟨u, rfl, sG2, hG2p⟩
    rw [List.length_map, List.length_map, List.length_range] at hG2p
    have hz1 : ∀ y ∈ ((List.range size.toNat).map fun j => letC (bsW c spot i j % 26)).map fun ch => (⟨#[ch]⟩ : Str), y.length = 1 := fun y hy => by
      obtain ⟨ch, _, rfl⟩ := List.mem_map.mp hy
      rfl
    have hsl : ((((List.range size.toNat).map fun j => letC (bsW c spot i j % 26)).map fun ch => (⟨#[ch]⟩ : Str)).map (·.length)).sum = size.toNat := by
      rw [List.map_map]
      rw [show ((fun x : Str => x.length) ∘ fun ch => (⟨#[ch]⟩ : Str)) = fun _ => 1 from rfl]
      generalize hL : (List.range size.toNat).map (fun j => letC (bsW c spot i j % 26)) = L
      have hl : L.length = size.toNat := by rw [← hL]; simp
      rw [← hl]
      clear hL hl hG2p
      induction L with
      | nil => rfl
      | cons y r ih => rw [List.map_cons, List.sum_cons, ih, List.length_cons]; omega
    refine ⟨"", p2, _, rfl, rfl, SqL.of hG2p, (by rw [hsl]; show size.toNat + _ * 0 ≤ _; omega), ?_⟩
    have hjl : (Txt.join "" (((List.range size.toNat).map fun j => letC (bsW c spot i j % 26)).map fun ch => (⟨#[ch]⟩ : Str))).length ≤ 7 := by
      show (Txt.join "" _).cps.size ≤ 7
      rw [← Array.length_toList, join_cps]
      simp
      omega
    refine ⟨_, _, rfl, rfl, ?_, ?_⟩
    · have : ∀ qc, (⟨#[qc]⟩ : Str).length = 1 := fun _ => rfl
      rw [this]
      exact Nat.le_trans (by omega : 1 + (Txt.join "" _).length ≤ 1000) (small (Nat.le_refl _))
    have hGw2 := sG2 _ _ (sG1 _ _ hGw)
    refine ⟨lw, _, _, rfl, rfl, hGw2, small1000 (by rw [List.length_map, List.length_map, List.length_range]; omega), ?_⟩
    refine ⟨some (.int (0 + (i : Int))), some (.ref p), rfl, fun z o e => ?_, ?_⟩
    · rw [upd_ne (ne_of_none e hlw0)]; exact sG2 _ _ (sG1 _ _ (sG _ _ e))
    · rw [upd_same, snocR, List.map_append]; rfl
  · rintro σ G ⟨x7, x8, rfl, sG, hGw⟩
    exact ⟨_, rfl, q lw _ G (lg_ok (by omega) hsp.1 hsp.2 (by omega)) sG hlw0 hGw⟩
end
end LW
set_option Elab.async false
set_option linter.all false
set_option maxRecDepth 100000
namespace L2
open PySem PySem.Spec PyProof.Rows PySem.W
abbrev RD := St → Hp → D → Prop
abbrev RDL := St → Hp → List D → Prop
def tHD (R : RD) : TE := fun σ H Q => ∃ d, R σ H d ∧ ∀ v H', Same H H' → Held H' d v → Q v H'
def tHDL (R : RDL) : TA := fun σ H Q => ∃ ds, R σ H ds ∧ ∀ vs H', Same H H' → HeldL H' ds vs → Q vs H'
structure PD (X : Cx) (e : Expr) (R : RD) : Prop where
  h : PE X e (tHD R)
  m : ∀ {σ H H' d}, Same H H' → R σ H d → R σ H' d
structure PDs (X : Cx) (es : List Expr) (R : RDL) : Prop where
  h : PA X es (tHDL R)
  m : ∀ {σ H H' d}, Same H H' → R σ H d → R σ H' d
def rV (i : Nat) : RD := fun σ H d => ∃ v, σ[i]? = some (some v) ∧ Held H d v
def rK (c : D) : RD := fun _ _ d => d = c
def rN : RDL := fun _ _ ds => ds = []
def rC (R : RD) (Rs : RDL) : RDL := fun σ H ds => ∃ d r, ds = d :: r ∧ R σ H d ∧ Rs σ H r
def rT (R : RDL) : RD := fun σ H d => ∃ ds, d = .tup ds ∧ ds.length ≤ 1000 ∧ R σ H ds
def rE (t : TE) : RD := fun σ H d => ∀ G, Same H G → ∀ Q : VK, (∀ v G', Same G G' → Held G' d v → Q v G') → t σ G Q
theorem PE.weak {X : Cx} {e : Expr} {t t' : TE} (h : PE X e t) (w : ∀ σ H Q, t' σ H Q → t σ H Q) : PE X e t' := fun pins s σ H Q I q => h pins s σ H Q I (w σ H Q q)
theorem PA.weak {X : Cx} {es : List Expr} {t t' : TA} (h : PA X es t) (w : ∀ σ H Q, t' σ H Q → t σ H Q) : PA X es t' := fun pos pins s σ H Q I q => h pos pins s σ H Q I (w σ H Q q)
theorem g_st {i : Nat} {v : V} {σ σ' : St} {H : Hp} {Q : St → Hp → Prop} (e : σ.set i (some v) = σ') (h : Q σ' H) : gName i v σ H Q := by subst e; exact h
theorem st_st {t : TS} {D : Ends} {σ σ' : St} {H : Hp} (e : σ = σ') (h : t D σ' H) : t D σ H := by subst e; exact h
theorem same_put {H : Hp} {p : Addr} (h : H p = none) (o : HO) : Same H (upd H p o) := fun b u q => by rw [upd_ne (ne_of_none q h)]; exact q
theorem same_refl (H : Hp) : Same H H := fun _ _ e => e
section
variable {X : Cx}
theorem pd_var (i : Nat) {x : Str} {pos : Pos} (hN : X.N[i]? = some x := by rfl) (hv : Vis X.env.scope x := by first | exact Or.inl rfl | exact Or.inr (Or.inl rfl) | exact Or.inr (Or.inr rfl)) (hd : (x == ("__debug__" : Str)) = false := by decide)
    (hcd : (x == ("__classdict__" : Str)) = false := by decide) : PD X (.Name x pos) (rV i) :=
  ⟨(pe_var hN hv hd hcd).weak fun σ H Q ⟨d, ⟨v, e, hv⟩, q⟩ => ⟨v, e, q v H (same_refl H) hv⟩, fun s ⟨v, e, h⟩ => ⟨v, e, h.mono s⟩⟩
theorem pd_int {i j pos} : PD X (.Constant (.int i) j pos) (rK (.int i)) := ⟨pe_int.weak fun σ H Q ⟨d, e, q⟩ => by cases e; exact q _ H (same_refl H) held_int, fun _ h => h⟩
theorem pd_str {x j pos} : PD X (.Constant (.str x) j pos) (rK (.str x)) := ⟨pe_str.weak fun σ H Q ⟨d, e, q⟩ => by cases e; exact q _ H (same_refl H) held_str, fun _ h => h⟩
theorem pd_of {e : Expr} {t : TE} (h : PE X e t) : PD X e (rE t) := ⟨h.weak fun σ H Q ⟨d, r, q⟩ => r H (same_refl H) Q q, fun s r G sG Q q => r G (s.trans sG) Q q⟩
theorem pds_nil : PDs X [] rN := ⟨pa_nil.weak fun σ H Q ⟨d, e, q⟩ => by cases e; exact q _ H (same_refl H) heldL_nil, fun _ h => h⟩
theorem pds_cons {e : Expr} {es : List Expr} {R : RD} {Rs : RDL} (h : PD X e R) (hs : PDs X es Rs) (hp : plainE e = true := by rfl) : PDs X (e :: es) (rC R Rs) := by
  refine ⟨(pa_c h.h hs.h hp).weak fun σ H Q ⟨ds, ⟨d, r, e, h1, h2⟩, q⟩ => ?_, fun s ⟨d, r, e, h1, h2⟩ => ⟨d, r, e, h.m s h1, hs.m s h2⟩⟩
  subst e
  exact ⟨d, h1, fun v H1 s1 hv => ⟨r, hs.m s1 h2, fun vs H2 s2 hvs => q _ _ (s1.trans s2) (heldL_cons (hv.mono s2) hvs)⟩⟩
theorem pd_tup {es : List Expr} {R : RDL} {x1} {pos : Pos} (h : PDs X es R) : PD X (.Tuple es x1 pos) (rT R) := by
  refine ⟨(pe_tup h.h).weak fun σ H Q ⟨d, ⟨ds, e, hl, hr⟩, q⟩ => ?_, fun s ⟨ds, e, hl, hr⟩ => ⟨ds, e, hl, h.m s hr⟩⟩
  subst e
  refine ⟨ds, hr, fun vs H1 s1 hvs => ⟨?_, fun p hp => ?_⟩⟩
  · rw [← hvs.length]
    exact Nat.le_of_lt (small1000 hl)
  · exact q _ _ (s1.trans (same_put hp _)) (held_tup upd_same (hvs.mono (same_put hp _)))
theorem qss_nil : QSs X [] tNext := ⟨pss_nil⟩
theorem q_if {c : Expr} {a b : List Stmt} {tc : TT} {t u : TS} {pos : Pos} (hc : PT X c tc) (ha : QSs X a t) (hb : QSs X b u) : QS X (.If c a b pos) (tIfS tc t u) := ⟨ps_if hc ha.h hb.h⟩
theorem q_join {st : Stmt} {t : TS} (h : QS X st t) : QS X st (tJoin t) := ⟨ps_join h.h⟩
structure QA (X : Cx) (es : List Expr) (t : TA) : Prop where
  h : PA X es t
structure QE (X : Cx) (e : Expr) (t : TE) : Prop where
  h : PE X e t
theorem qe_d {e : Expr} {R : RD} (h : PD X e R) : QE X e (tHD R) := ⟨h.h⟩
theorem q_set {i : Nat} {x : Str} {e : Expr} {te : TE} {pos pos' : Pos} (hN : X.N.Nodup) (hi : X.N[i]? = some x) (hx : Loc X.env.scope x) (he : QE X e te) (hs : swapsWith e (some (.Name x pos')) pos.line X.env = pure false := by rfl) (hf : X.fn x = true ∨ X.env.scope.names.lookup x = some .local := by first | exact .inl rfl | exact .inr rfl | assumption) :
    QS X (.Assign [.Name x pos'] e pos) (tAsg te (gName i)) := ⟨ps_set hN hi hx he.h hs hf⟩
theorem q_ret {e : Expr} {te : TE} {pos : Pos} (he : QE X e te) : QS X (.Return (some e) pos) (tRet te) := ⟨ps_ret he.h⟩
end
end L2
set_option Elab.async false
set_option linter.all false
set_option maxRecDepth 100000
namespace L2
open PySem PySem.Spec PyProof.Rows
theorem LikeV.tup {K : PySem.W.Frag} {H : Hp} {n : Nat} {a b : Addr} {xs ys : List V} (ha : H a = some (.tup xs)) (hb : H b = some (.tup ys)) (hl : xs.length = ys.length) (h : ∀ (j : Nat) x' y', xs[j]? = some x' → ys[j]? = some y' → LikeV K H n x' y') : LikeV K H (n + 1) (.ref a) (.ref b) := .inr (.inl ⟨a, b, xs, ys, rfl, rfl, SqT.of ha, SqT.of hb, hl, h⟩)
theorem LikeV.lst {K : PySem.W.Frag} {H : Hp} {n : Nat} {a b : Addr} {xs ys : List V} (ha : H a = some (.lst xs)) (hb : H b = some (.lst ys)) (hl : xs.length = ys.length) (h : ∀ (j : Nat) x' y', xs[j]? = some x' → ys[j]? = some y' → LikeV K H n x' y') : LikeV K H (n + 1) (.ref a) (.ref b) := .inr (.inr ⟨a, b, xs, ys, rfl, rfl, SqL.of ha, SqL.of hb, hl, h⟩)
def LikeL (K : PySem.W.Frag) (H : Hp) (n : Nat) (xs ys : List V) : Prop := xs.length = ys.length ∧ ∀ (j : Nat) x' y', xs[j]? = some x' → ys[j]? = some y' → LikeV K H n x' y'
theorem LikeL.nil {K : PySem.W.Frag} {H : Hp} {n : Nat} : LikeL K H n [] [] := ⟨rfl, fun j x y h _ => by simp at h⟩
theorem LikeL.cons {K : PySem.W.Frag} {H : Hp} {n : Nat} {x y : V} {xs ys : List V} (h : LikeV K H n x y) (t : LikeL K H n xs ys) : LikeL K H n (x :: xs) (y :: ys) := ⟨by rw [List.length_cons, List.length_cons, t.1], fun j x' y' e1 e2 => by
  cases j with
  | zero => simp at e1 e2; subst e1 e2; exact h
  | succ j => exact t.2 j x' y' (by simpa using e1) (by simpa using e2)⟩
mutual
theorem held_like {K : PySem.W.Frag} {H : Hp} : ∀ {n : Nat} {d : D} {x y : V}, d.depth ≤ n → Held H d x → Held H d y → LikeV K H n x y
  | n, .int i, x, y, _, h, h' => by unfold Held at h h'; subst h h'; exact like_int _ _
  | n, .str i, x, y, _, h, h' => by unfold Held at h h'; subst h h'; exact like_str _ _
  | n, .tup ds, x, y, hn, h, h' => by
    unfold Held at h h'
    obtain ⟨a, xs, rfl, ha, h1⟩ := h
    obtain ⟨b, ys, rfl, hb, h2⟩ := h'
    unfold D.depth at hn
    cases n with
    | zero => omega
    | succ n =>
      have hl := heldL_like (K := K) (n := n) (by omega) h1 h2
      exact LikeV.tup ha hb hl.1 hl.2
theorem heldL_like {K : PySem.W.Frag} {H : Hp} : ∀ {n : Nat} {ds : List D} {xs ys : List V}, D.depthL ds ≤ n → HeldL H ds xs → HeldL H ds ys → LikeL K H n xs ys
  | n, [], xs, ys, _, h, h' => by unfold HeldL at h h'; subst h h'; exact .nil
  | n, d :: ds, xs, ys, hn, h, h' => by
    unfold HeldL at h h'
    obtain ⟨v, r, rfl, e1, e2⟩ := h
    obtain ⟨v', r', rfl, e1', e2'⟩ := h'
    unfold D.depthL at hn
    exact .cons (held_like (by omega) e1 e1') (heldL_like (by omega) e2 e2')
end
section
variable {X : Cx}
theorem op_eqLk (n : Nat) (hu : X.A.units + 1 + n < cLine) : OpR X (compareOp .Eq) (fun x y H Q => ∃ a b xs ys, x = .ref a ∧ y = .ref b ∧ SqT X.K H a xs ∧ SqT X.K H b ys ∧ LikeL X.K H n xs ys ∧ Q (.bl true) H) := by
  intro pins s σ H x y v u Q I rx ry h
  obtain ⟨a, b, xs, ys, rfl, rfl, ha, hb, ⟨hl, hj⟩, q⟩ := h
  cases rx; cases ry
  obtain ⟨its, rva, ta, _⟩ := I.tuple ha
  obtain ⟨its2, rvb, tb, _⟩ := I.tuple hb
  have l3 := rva.length
  have l4 := rvb.length
  have key := SeqAt.RcAt.tuples (A := X.A) (s := s) (e := fun _ => true) (show s.heap.IsTuple a its.toArray from ta) (show s.heap.IsTuple b its2.toArray from tb) (by omega) (vals_at hl rva rvb fun j x' y' u' v' e1 e2 r1 r2 => eqAt_like I n X.A.in1 x' y' u' v' (by show X.A.units + 1 + n < cLine; exact hu) (hj j x' y' e1 e2) r1 r2)
  have e : ((List.range (min its.toArray.size its2.toArray.size)).all (fun _ => true) && its.toArray.size == its2.toArray.size) = true := by
    have : its.toArray.size = its2.toArray.size := by simp; omega
    rw [this]; simp
  rw [e] at key
  exact key X.prog X.w X.xe _ ⟨.bl true, H, I, rfl, q⟩
end
end L2
set_option Elab.async false
set_option linter.all false
set_option maxRecDepth 100000
set_option maxHeartbeats 2000000
namespace LW
open PySem L2
abbrev sProgram : Stmt := top 43
def setD (x y : Str) (c : Int) : D := .tup [.str "set", .str x, .tup [.str "is", .str y], .int c]
def whD (le : D) (ks b : List D) : D := .tup [.str "while", le, .tup ks, .tup b]
def ifD (le : D) (b o : List D) : D := .tup [.str "if", le, .tup b, .tup o]
def in0D (n i x : Str) (ks : List D) : D := whD (leD n i 1) ks [setD i i 1, setD x x 1]
def in1D (n c i x : Str) (ks : List D) (way : Int) : D := if way = 1 then ifD (leD c c 0) [in0D n i x ks] [] else in0D n i x ks
def in2D (n c i x : Str) (ks : List D) (way : Int) : D := if way = 2 then ifD (leD c c 1) [] [in1D n c i x ks way] else in1D n c i x ks way
def bodyD (n t c i x : Str) (near : Int) (ks : List D) (way : Int) : List D := [setD c "" near, setD x "" near, whD (leD t c 1) [] [setD i "" near, in2D n c i x ks way, setD c c 1], setD "out" x 0]
def progD (f n t a b c i x : Str) (near : Int) (ks : List D) (way : Int) : D := .tup [.tup [.str "proc", .str f, .tup [.str n, .str t, .str a, .str b], .tup [], .tup [], .tup [], .tup (bodyD n t c i x near ks way)]]
def spProgram : Sp := fun vs H Q _ => ∃ (lw : Addr) (f n t a b c i x : Str) (near way : Int) (ks : List D) (vk : V), vs = [.ref lw, .int near, vk, .int way] ∧ H lw = some (.lst [.str f, .str n, .str t, .str a, .str b, .str c, .str i, .str x]) ∧ Held H (.tup ks) vk ∧
  ∀ v H', Same H H' → Held H' (progD f n t a b c i x near ks way) v → Q v H'
section
variable {P : Program} {w : World} {K : PySem.W.Frag} {mg : Str → Option Value} {base : Heap}
theorem ok_program {f : Addr} {fd : FuncData} (F : Fun K "_law_program" "_law_program" sProgram f fd) : FnOk P w K mg base CX0 1 f fd ["_law_w", "_law_near", "_law_keeps", "_law_way"] spProgram := by
  have sc : FnScope ["_law_w", "_law_near", "_law_keeps", "_law_way", "_law_f", "_law_n", "_law_t", "_law_a", "_law_b", "_law_c", "_law_i", "_law_x", "_law_steps", "_law_inner", "_law_around", "_law_outer", "_law_body"] ["_law_w", "_law_near", "_law_keeps", "_law_way"] (defScope sProgram) := ⟨rfl, rfl, rfl, by decide +kernel, rfl, by decide +kernel, by decide +kernel⟩
  refine F.ok sc (fun vs H Q E h => ?_) (fun cdv A outer s H vs Q E hr h => ?_)
  · obtain ⟨lw, f, n, t, a, b, c, i, x, near, way, ks, vk, rfl, _⟩ := h
    rfl
  obtain ⟨lw, fn, n, t, a, b, c, i, x, near, way, ks, vk, rfl, hlw, hks, q⟩ := h
  refine ⟨_, (QSs.h (qss_cons (qs (ps_asg (pv 0) (pg_lst rfl (pgs_cons (pg_name (i := 4) sc.nd rfl (by first | exact Or.inl rfl | exact Or.inr rfl)) (pgs_cons (pg_name (i := 5) sc.nd rfl (by first | exact Or.inl rfl | exact Or.inr rfl)) (pgs_cons (pg_name (i := 6) sc.nd rfl (by first | exact Or.inl rfl | exact Or.inr rfl)) (pgs_cons (pg_name (i := 7) sc.nd rfl (by first | exact Or.inl rfl | exact Or.inr rfl)) (pgs_cons (pg_name (i := 8) sc.nd rfl (by first | exact Or.inl rfl | exact Or.inr rfl)) (pgs_cons (pg_name (i := 9) sc.nd rfl (by first | exact Or.inl rfl | exact Or.inr rfl)) (pgs_cons (pg_name (i := 10) sc.nd rfl (by first | exact Or.inl rfl | exact Or.inr rfl)) (pgs_cons (pg_name (i := 11) sc.nd rfl (by first | exact Or.inl rfl | exact Or.inr rfl)) pgs_nil)))))))))))
      (qss_cons (q_set (i := 12) sc.nd rfl (by first | exact Or.inl rfl | exact Or.inr rfl) (qe_d (pd_tup (pds_cons (pd_tup (pds_cons pd_str (pds_cons (pd_var 10) (pds_cons (pd_tup (pds_cons pd_str (pds_cons (pd_var 10) pds_nil))) (pds_cons pd_int pds_nil))))) (pds_cons (pd_tup (pds_cons pd_str (pds_cons (pd_var 11) (pds_cons (pd_tup (pds_cons pd_str (pds_cons (pd_var 11) pds_nil))) (pds_cons pd_int pds_nil))))) pds_nil)))))
      (qss_cons (q_set (i := 13) sc.nd rfl (by first | exact Or.inl rfl | exact Or.inr rfl) (qe_d (pd_tup (pds_cons pd_str (pds_cons (pd_tup (pds_cons pd_str (pds_cons (pd_tup (pds_cons pd_str (pds_cons (pd_var 5) pds_nil))) (pds_cons (pd_tup (pds_cons pd_str (pds_cons (pd_var 10) pds_nil))) (pds_cons pd_int pds_nil))))) (pds_cons (pd_var 2) (pds_cons (pd_var 12) pds_nil)))))))
      (qss_cons (q_join (q_if (pt_cmpR op_eq (pv 3) pe_int (nomark _)) (qss_one (q_set (i := 13) sc.nd rfl (by first | exact Or.inl rfl | exact Or.inr rfl) (qe_d (pd_tup (pds_cons pd_str (pds_cons (pd_tup (pds_cons pd_str (pds_cons (pd_tup (pds_cons pd_str (pds_cons (pd_var 9) pds_nil))) (pds_cons (pd_tup (pds_cons pd_str (pds_cons (pd_var 9) pds_nil))) (pds_cons pd_int pds_nil))))) (pds_cons (pd_tup (pds_cons (pd_var 13) pds_nil)) (pds_cons (pd_tup pds_nil) pds_nil)))))))) qss_nil))
      (qss_cons (q_join (q_if (pt_cmpR op_eq (pv 3) pe_int (nomark _)) (qss_one (q_set (i := 13) sc.nd rfl (by first | exact Or.inl rfl | exact Or.inr rfl) (qe_d (pd_tup (pds_cons pd_str (pds_cons (pd_tup (pds_cons pd_str (pds_cons (pd_tup (pds_cons pd_str (pds_cons (pd_var 9) pds_nil))) (pds_cons (pd_tup (pds_cons pd_str (pds_cons (pd_var 9) pds_nil))) (pds_cons pd_int pds_nil))))) (pds_cons (pd_tup pds_nil) (pds_cons (pd_tup (pds_cons (pd_var 13) pds_nil)) pds_nil)))))))) qss_nil))
      (qss_cons (q_set (i := 14) sc.nd rfl (by first | exact Or.inl rfl | exact Or.inr rfl) (qe_d (pd_tup (pds_cons (pd_tup (pds_cons pd_str (pds_cons (pd_var 10) (pds_cons (pd_tup (pds_cons pd_str (pds_cons pd_str pds_nil))) (pds_cons (pd_var 1) pds_nil))))) (pds_cons (pd_var 13) (pds_cons (pd_tup (pds_cons pd_str (pds_cons (pd_var 9) (pds_cons (pd_tup (pds_cons pd_str (pds_cons (pd_var 9) pds_nil))) (pds_cons pd_int pds_nil))))) pds_nil))))))
      (qss_cons (q_set (i := 15) sc.nd rfl (by first | exact Or.inl rfl | exact Or.inr rfl) (qe_d (pd_tup (pds_cons pd_str (pds_cons (pd_tup (pds_cons pd_str (pds_cons (pd_tup (pds_cons pd_str (pds_cons (pd_var 6) pds_nil))) (pds_cons (pd_tup (pds_cons pd_str (pds_cons (pd_var 9) pds_nil))) (pds_cons pd_int pds_nil))))) (pds_cons (pd_tup pds_nil) (pds_cons (pd_var 14) pds_nil)))))))
      (qss_cons (q_set (i := 16) sc.nd rfl (by first | exact Or.inl rfl | exact Or.inr rfl) (qe_d (pd_tup (pds_cons (pd_tup (pds_cons pd_str (pds_cons (pd_var 9) (pds_cons (pd_tup (pds_cons pd_str (pds_cons pd_str pds_nil))) (pds_cons (pd_var 1) pds_nil))))) (pds_cons (pd_tup (pds_cons pd_str (pds_cons (pd_var 11) (pds_cons (pd_tup (pds_cons pd_str (pds_cons pd_str pds_nil))) (pds_cons (pd_var 1) pds_nil))))) (pds_cons (pd_var 15) (pds_cons (pd_tup (pds_cons pd_str (pds_cons pd_str (pds_cons (pd_tup (pds_cons pd_str (pds_cons (pd_var 11) pds_nil))) (pds_cons pd_int pds_nil))))) pds_nil)))))))
      (qss_one (q_ret (qe_d (pd_tup (pds_cons (pd_tup (pds_cons pd_str (pds_cons (pd_var 4) (pds_cons (pd_tup (pds_cons (pd_var 5) (pds_cons (pd_var 6) (pds_cons (pd_var 7) (pds_cons (pd_var 8) pds_nil))))) (pds_cons (pd_tup pds_nil) (pds_cons (pd_tup pds_nil) (pds_cons (pd_tup pds_nil) (pds_cons (pd_var 16) pds_nil)))))))) pds_nil)))))))))))))), ?_⟩
  refine ⟨_, rfl, lw, _, rfl, SqL.of hlw, rfl, _, _, rfl, _, _, rfl, _, _, rfl, _, _, rfl, _, _, rfl, _, _, rfl, _, _, rfl, _, _, rfl, rfl, ?_⟩
  refine ⟨.tup [setD i i 1, setD x x 1], ⟨_, rfl, Nat.le_of_ble_eq_true rfl, _, _, rfl, ⟨_, rfl, Nat.le_of_ble_eq_true rfl, _, _, rfl, rfl, _, _, rfl, ⟨_, rfl, held_str⟩, _, _, rfl, ⟨_, rfl, Nat.le_of_ble_eq_true rfl, _, _, rfl, rfl, _, _, rfl, ⟨_, rfl, held_str⟩, rfl⟩, _, _, rfl, rfl, rfl⟩, _, _, rfl, ⟨_, rfl, Nat.le_of_ble_eq_true rfl, _, _, rfl, rfl, _, _, rfl, ⟨_, rfl, held_str⟩, _, _, rfl, ⟨_, rfl, Nat.le_of_ble_eq_true rfl, _, _, rfl, rfl, _, _, rfl, ⟨_, rfl, held_str⟩, rfl⟩, _, _, rfl, rfl, rfl⟩, rfl⟩, fun v1 H1 s1 h1 => ?_⟩
  refine ⟨in0D n i x ks, ⟨_, rfl, Nat.le_of_ble_eq_true rfl, _, _, rfl, rfl, _, _, rfl, ⟨_, rfl, Nat.le_of_ble_eq_true rfl, _, _, rfl, rfl, _, _, rfl, ⟨_, rfl, Nat.le_of_ble_eq_true rfl, _, _, rfl, rfl, _, _, rfl, ⟨_, rfl, held_str⟩, rfl⟩, _, _, rfl, ⟨_, rfl, Nat.le_of_ble_eq_true rfl, _, _, rfl, rfl, _, _, rfl, ⟨_, rfl, held_str⟩, rfl⟩, _, _, rfl, rfl, rfl⟩, _, _, rfl, ⟨_, rfl, (hks.mono s1)⟩, _, _, rfl, ⟨_, rfl, h1⟩, rfl⟩, fun v2 H2 s2 h2 => ?_⟩
  have s02 := s1.trans s2
  refine ⟨fun σ' G => ∃ v, σ' = [some (.ref lw), some (.int near), some vk, some (.int way), some (.str fn), some (.str n), some (.str t), some (.str a), some (.str b), some (.str c), some (.str i), some (.str x), some v1, some v, none, none, none] ∧ Same H G ∧ Held G (in1D n c i x ks way) v, ?_, ?_⟩
  · refine ⟨_, rfl, rfl, _, rfl, ite2 (fun d => ?_) (fun d => ?_)⟩
    · have d' : way = 1 := by have := of_decide_eq_true d; injection this
      refine ⟨ifD (leD c c 0) [in0D n i x ks] [], ⟨_, rfl, Nat.le_of_ble_eq_true rfl, _, _, rfl, rfl, _, _, rfl, ⟨_, rfl, Nat.le_of_ble_eq_true rfl, _, _, rfl, rfl, _, _, rfl, ⟨_, rfl, Nat.le_of_ble_eq_true rfl, _, _, rfl, rfl, _, _, rfl, ⟨_, rfl, held_str⟩, rfl⟩, _, _, rfl, ⟨_, rfl, Nat.le_of_ble_eq_true rfl, _, _, rfl, rfl, _, _, rfl, ⟨_, rfl, held_str⟩, rfl⟩, _, _, rfl, rfl, rfl⟩, _, _, rfl, ⟨_, rfl, Nat.le_of_ble_eq_true rfl, _, _, rfl, ⟨_, rfl, h2⟩, rfl⟩, _, _, rfl, ⟨_, rfl, Nat.le_of_ble_eq_true rfl, rfl⟩, rfl⟩, fun v3 H3 s3 h3 => ⟨v3, rfl, s02.trans s3, ?_⟩⟩
      unfold in1D
      rw [if_pos d']
      exact h3
    · have d' : ¬ way = 1 := fun e => d (decide_eq_true (congrArg V.int e))
      refine ⟨v2, rfl, s02, ?_⟩
      unfold in1D
      rw [if_neg d']
      exact h2
  rintro σ' H3 ⟨v3, rfl, s03, h3⟩
  refine ⟨fun σ' G => ∃ v, σ' = [some (.ref lw), some (.int near), some vk, some (.int way), some (.str fn), some (.str n), some (.str t), some (.str a), some (.str b), some (.str c), some (.str i), some (.str x), some v1, some v, none, none, none] ∧ Same H G ∧ Held G (in2D n c i x ks way) v, ?_, ?_⟩
  · refine ⟨_, rfl, rfl, _, rfl, ite2 (fun d => ?_) (fun d => ?_)⟩
    · have d' : way = 2 := by have := of_decide_eq_true d; injection this
      refine ⟨ifD (leD c c 1) [] [in1D n c i x ks way], ⟨_, rfl, Nat.le_of_ble_eq_true rfl, _, _, rfl, rfl, _, _, rfl, ⟨_, rfl, Nat.le_of_ble_eq_true rfl, _, _, rfl, rfl, _, _, rfl, ⟨_, rfl, Nat.le_of_ble_eq_true rfl, _, _, rfl, rfl, _, _, rfl, ⟨_, rfl, held_str⟩, rfl⟩, _, _, rfl, ⟨_, rfl, Nat.le_of_ble_eq_true rfl, _, _, rfl, rfl, _, _, rfl, ⟨_, rfl, held_str⟩, rfl⟩, _, _, rfl, rfl, rfl⟩, _, _, rfl, ⟨_, rfl, Nat.le_of_ble_eq_true rfl, rfl⟩, _, _, rfl, ⟨_, rfl, Nat.le_of_ble_eq_true rfl, _, _, rfl, ⟨_, rfl, h3⟩, rfl⟩, rfl⟩, fun v4 H4 s4 h4 => ⟨v4, rfl, s03.trans s4, ?_⟩⟩
      unfold in2D
      rw [if_pos d']
      exact h4
    · have d' : ¬ way = 2 := fun e => d (decide_eq_true (congrArg V.int e))
      refine ⟨v3, rfl, s03, ?_⟩
      unfold in2D
      rw [if_neg d']
      exact h3
  rintro σ' H4 ⟨v4, rfl, s04, h4⟩
  refine ⟨.tup [setD i "" near, in2D n c i x ks way, setD c c 1], ⟨_, rfl, Nat.le_of_ble_eq_true rfl, _, _, rfl, ⟨_, rfl, Nat.le_of_ble_eq_true rfl, _, _, rfl, rfl, _, _, rfl, ⟨_, rfl, held_str⟩, _, _, rfl, ⟨_, rfl, Nat.le_of_ble_eq_true rfl, _, _, rfl, rfl, _, _, rfl, rfl, rfl⟩, _, _, rfl, ⟨_, rfl, held_int⟩, rfl⟩, _, _, rfl, ⟨_, rfl, h4⟩, _, _, rfl, ⟨_, rfl, Nat.le_of_ble_eq_true rfl, _, _, rfl, rfl, _, _, rfl, ⟨_, rfl, held_str⟩, _, _, rfl, ⟨_, rfl, Nat.le_of_ble_eq_true rfl, _, _, rfl, rfl, _, _, rfl, ⟨_, rfl, held_str⟩, rfl⟩, _, _, rfl, rfl, rfl⟩, rfl⟩, fun v5 H5 s5 h5 => ?_⟩
  refine ⟨whD (leD t c 1) [] [setD i "" near, in2D n c i x ks way, setD c c 1], ⟨_, rfl, Nat.le_of_ble_eq_true rfl, _, _, rfl, rfl, _, _, rfl, ⟨_, rfl, Nat.le_of_ble_eq_true rfl, _, _, rfl, rfl, _, _, rfl, ⟨_, rfl, Nat.le_of_ble_eq_true rfl, _, _, rfl, rfl, _, _, rfl, ⟨_, rfl, held_str⟩, rfl⟩, _, _, rfl, ⟨_, rfl, Nat.le_of_ble_eq_true rfl, _, _, rfl, rfl, _, _, rfl, ⟨_, rfl, held_str⟩, rfl⟩, _, _, rfl, rfl, rfl⟩, _, _, rfl, ⟨_, rfl, Nat.le_of_ble_eq_true rfl, rfl⟩, _, _, rfl, ⟨_, rfl, h5⟩, rfl⟩, fun v6 H6 s6 h6 => ?_⟩
  refine ⟨.tup (bodyD n t c i x near ks way), ⟨_, rfl, Nat.le_of_ble_eq_true rfl, _, _, rfl, ⟨_, rfl, Nat.le_of_ble_eq_true rfl, _, _, rfl, rfl, _, _, rfl, ⟨_, rfl, held_str⟩, _, _, rfl, ⟨_, rfl, Nat.le_of_ble_eq_true rfl, _, _, rfl, rfl, _, _, rfl, rfl, rfl⟩, _, _, rfl, ⟨_, rfl, held_int⟩, rfl⟩, _, _, rfl, ⟨_, rfl, Nat.le_of_ble_eq_true rfl, _, _, rfl, rfl, _, _, rfl, ⟨_, rfl, held_str⟩, _, _, rfl, ⟨_, rfl, Nat.le_of_ble_eq_true rfl, _, _, rfl, rfl, _, _, rfl, rfl, rfl⟩, _, _, rfl, ⟨_, rfl, held_int⟩, rfl⟩, _, _, rfl, ⟨_, rfl, h6⟩, _, _, rfl, ⟨_, rfl, Nat.le_of_ble_eq_true rfl, _, _, rfl, rfl, _, _, rfl, rfl, _, _, rfl, ⟨_, rfl, Nat.le_of_ble_eq_true rfl, _, _, rfl, rfl, _, _, rfl, ⟨_, rfl, held_str⟩, rfl⟩, _, _, rfl, rfl, rfl⟩, rfl⟩, fun v7 H7 s7 h7 => ?_⟩
  refine ⟨progD fn n t a b c i x near ks way, ⟨_, rfl, Nat.le_of_ble_eq_true rfl, _, _, rfl, ⟨_, rfl, Nat.le_of_ble_eq_true rfl, _, _, rfl, rfl, _, _, rfl, ⟨_, rfl, held_str⟩, _, _, rfl, ⟨_, rfl, Nat.le_of_ble_eq_true rfl, _, _, rfl, ⟨_, rfl, held_str⟩, _, _, rfl, ⟨_, rfl, held_str⟩, _, _, rfl, ⟨_, rfl, held_str⟩, _, _, rfl, ⟨_, rfl, held_str⟩, rfl⟩, _, _, rfl, ⟨_, rfl, Nat.le_of_ble_eq_true rfl, rfl⟩, _, _, rfl, ⟨_, rfl, Nat.le_of_ble_eq_true rfl, rfl⟩, _, _, rfl, ⟨_, rfl, Nat.le_of_ble_eq_true rfl, rfl⟩, _, _, rfl, ⟨_, rfl, h7⟩, rfl⟩, rfl⟩, fun v8 H8 s8 h8 => ?_⟩
  exact q v8 H8 (s04.trans (s5.trans (s6.trans (s7.trans s8)))) h8
end
end LW
set_option Elab.async false
set_option linter.all false
set_option maxRecDepth 100000
namespace HT
open PySem PySem.Spec PyProof.Rows L2
open PySem.SeqAt
open PySem.AutoSeq1 (wpAny_loadPart')
open PySem.MeetsSeq PySem.MeetsSeq2 PySem.MeetsSeq3
section
variable {prog : Program} {w : World} {A : Around} {E : Value → Shared → Prop} {s : Shared}
end
end HT
namespace L2
open PySem PySem.Spec PyProof.Rows
end L2
namespace L2
open PySem PySem.Spec PyProof.Rows
end L2
set_option Elab.async false
set_option linter.all false
set_option maxRecDepth 100000
set_option maxHeartbeats 1000000
namespace L2
open PySem PySem.Spec PyProof.Rows
variable {X : Cx}
end L2
set_option Elab.async false
set_option linter.all false
set_option maxRecDepth 100000
namespace L2
open PySem PySem.Spec PyProof.Rows
structure QT (X : Cx) (e : Expr) (t : TT) : Prop where
  h : PT X e t
structure QW (X : Cx) (e : Expr) (t : TT) : Prop where
  h : PW X e t
structure QG (X : Cx) (e : Expr) (t : TG) : Prop where
  h : PG X e t
structure QGs (X : Cx) (e : List Expr) (t : TGs) : Prop where
  h : PGs X e t
theorem QW.pt {X : Cx} {e : Expr} {t : TT} (h : QW X e t) : QT X e t := ⟨h.h.pt⟩
theorem zpv {X : Cx} (i : Nat) {x : Str} {pos : Pos} (h1 : (Cx.N X)[i]? = some x := by rfl) (h2 : Vis (Env.scope (Cx.env X)) x := by first | exact Or.inl rfl | exact Or.inr (Or.inl rfl) | exact Or.inr (Or.inr rfl)) (h3 : (x == Str.ofString "__debug__") = false := by decide) (h4 : (x == Str.ofString "__classdict__") = false := by decide) : QE X (Expr.Name x pos) (tVar i) :=
  ⟨@pv _ i _ _ h1 h2 h3 h4⟩
theorem zpe_int {X : Cx} {i : Int} {j : Nat} {pos : Pos} : QE X (Expr.Constant (Const.int i) j pos) (tC (V.int i)) :=
  ⟨@pe_int _ _ _ _⟩
theorem zpe_str {X : Cx} {x : Str} {j : Nat} {pos : Pos} : QE X (Expr.Constant (Const.str x) j pos) (tC (V.str x)) :=
  ⟨@pe_str _ _ _ _⟩
theorem zpe_non {X : Cx} {j : Nat} {pos : Pos} : QE X (Expr.Constant Const.none j pos) (tC V.non) :=
  ⟨@pe_non _ _ _⟩
theorem zpe_bltn {X : Cx} {x : Str} {v : V} {u : Value} {pos : Pos} (h1 : Gl X x) (h2 : Cx.mg X x = none) (h3 : bootBuiltins x = some u) (h4 : RelV v u) (h5 : x ≠ Str.ofString "__name__" := by decide) (h6 : (x == Str.ofString "__debug__") = false := by decide) : QE X (Expr.Name x pos) (tC v) :=
  ⟨@pe_bltn _ _ _ _ _ h1 h2 h3 h4 h5 h6⟩
theorem zpe_op {X : Cx} {a b : Expr} {ta tb : TE} {pos : Pos} {op : Operator} {r : R2} (h1 : OpR X (binaryOp op) r) (h2 : QE X a ta) (h3 : QE X b tb) : QE X (Expr.BinOp a op b pos) (tOp r ta tb) :=
  ⟨@pe_op _ _ _ _ _ _ _ _ h1 h2.h h3.h⟩
theorem zpe_cmpR {X : Cx} {a b : Expr} {ta tb : TE} {pos : Pos} {op : CmpOp} {r : R2} (h1 : OpR X (compareOp op) r) (h2 : QE X a ta) (h3 : QE X b tb) (h4 : behindInMarks op b = false) : QE X (Expr.Compare a [op] [b] pos) (tOp r ta tb) :=
  ⟨@pe_cmpR _ _ _ _ _ _ _ _ h1 h2.h h3.h h4⟩
theorem zpe_one {X : Cx} {a : Expr} {pos : Pos} {op : BoolOp} {t : TE} (h1 : QE X a t) : QE X (Expr.BoolOp op [a] pos) t :=
  ⟨@pe_one _ _ _ _ _ h1.h⟩
theorem zpe_and {X : Cx} {a b : Expr} {ta tb : TE} {pos : Pos} {rest : List Expr} (h1 : QE X a ta) (h2 : QE X (Expr.BoolOp BoolOp.And (b :: rest) pos) tb) : QE X (Expr.BoolOp BoolOp.And (a :: b :: rest) pos) (tAndV ta tb) :=
  ⟨@pe_and _ _ _ _ _ _ _ h1.h h2.h⟩
theorem zpe_ix {X : Cx} {a b : Expr} {ta tb : TE} {pos : Pos} {r : R2} (h1 : IxR X r) (h2 : QE X a ta) (h3 : QE X b tb) (h4 : PlainIx b) : QE X (Expr.Subscript a b pos) (tOp r ta tb) :=
  ⟨@pe_ix _ _ _ _ _ _ _ h1 h2.h h3.h h4⟩
theorem zpe_lst {X : Cx} {es : List Expr} {t : TA} {pos : Pos} (h1 : QA X es t) : QE X (Expr.List es pos) (tLst t) :=
  ⟨@pe_lst _ _ _ _ h1.h⟩
theorem zpe_tup {X : Cx} {es : List Expr} {t : TA} {pos : Pos} {x1 : Nat} (h1 : QA X es t) : QE X (Expr.Tuple es x1 pos) (tTup t) :=
  ⟨@pe_tup _ _ _ _ _ h1.h⟩
theorem zpe_fn {X : Cx} {k k' : Nat} {x : Str} {ps : List Str} {sp : Sp} {e : Expr} {es : List Expr} {t : TA} {p pos : Pos} (h1 : Fn (Cx.prog X) (Cx.w X) (Cx.K X) (Cx.mg X) (Cx.base X) k x ps sp) (h2 : Room k' (Cx.A X)) (h3 : QA X (e :: es) t) (h4 : k ≤ k' := by decide) (h5 : Gl X x := by rfl) (h6 : (x == Str.ofString "__debug__") = false := by decide) (h7 : List.all (e :: es) plainE = true := by rfl) : QE X (Expr.Call (Expr.Name x p) (e :: es) [] pos) (tCall sp [] E0 t) :=
  ⟨@pe_fn _ _ _ _ _ _ _ _ _ _ _ h1 h2 h3.h h4 h5 h6 h7⟩
theorem zpe_cB {X : Cx} {x : Str} {p pos : Pos} {e : Expr} {es : List Expr} {t : TA} {id : String} {r : List V → Hp → VK → Prop} (h1 : CallR X (Value.builtin id) r) (h2 : Gl X x) (h3 : Cx.mg X x = none) (h4 : bootBuiltins x = some (Value.builtin id)) (h5 : QA X (e :: es) t) (h6 : List.all (e :: es) plainE = true := by rfl) (h7 : x ≠ Str.ofString "__name__" := by decide) (h8 : (x == Str.ofString "__debug__") = false := by decide) : QE X (Expr.Call (Expr.Name x p) (e :: es) [] pos) (tCB r t) :=
  ⟨@pe_cB _ _ _ _ _ _ _ _ _ h1 h2 h3 h4 h5.h h6 h7 h8⟩
theorem zpe_cT {X : Cx} {x : Str} {p pos : Pos} {e : Expr} {es : List Expr} {t : TA} {T : String} {r : List V → Hp → VK → Prop} (h1 : CallR X (Value.type T) r) (h2 : Gl X x) (h3 : Cx.mg X x = none) (h4 : bootBuiltins x = some (Value.type T)) (h5 : QA X (e :: es) t) (h6 : List.all (e :: es) plainE = true := by rfl) (h7 : x ≠ Str.ofString "__name__" := by decide) (h8 : (x == Str.ofString "__debug__") = false := by decide) : QE X (Expr.Call (Expr.Name x p) (e :: es) [] pos) (tCB r t) :=
  ⟨@pe_cT _ _ _ _ _ _ _ _ _ h1 h2 h3 h4 h5.h h6 h7 h8⟩
theorem zpt_cmpR {X : Cx} {a b : Expr} {ta tb : TE} {pos : Pos} {op : CmpOp} {r : R2} (h1 : OpR X (compareOp op) r) (h2 : QE X a ta) (h3 : QE X b tb) (h4 : behindInMarks op b = false) : QT X (Expr.Compare a [op] [b] pos) (tTest (tOp r ta tb)) :=
  ⟨@pt_cmpR _ _ _ _ _ _ _ _ h1 h2.h h3.h h4⟩
theorem zpw_and {X : Cx} {a b : Expr} {pos : Pos} {tA tB' : TT} {rest : List Expr} (h1 : QT X a tA) (h2 : QW X (Expr.BoolOp BoolOp.And (b :: rest) pos) tB') : QW X (Expr.BoolOp BoolOp.And (a :: b :: rest) pos) (tAnd tA tB') :=
  ⟨@pw_and _ _ _ _ _ _ _ h1.h h2.h⟩
theorem zpw_and1 {X : Cx} {a : Expr} {pos : Pos} {tA : TT} (h1 : QT X a tA) : QW X (Expr.BoolOp BoolOp.And [a] pos) tA :=
  ⟨@pw_and1 _ _ _ _ h1.h⟩
theorem zpw_or {X : Cx} {a b : Expr} {pos : Pos} {tA tB' : TT} {rest : List Expr} (h1 : QT X a tA) (h2 : QW X (Expr.BoolOp BoolOp.Or (b :: rest) pos) tB') : QW X (Expr.BoolOp BoolOp.Or (a :: b :: rest) pos) (tOr tA tB') :=
  ⟨@pw_or _ _ _ _ _ _ _ h1.h h2.h⟩
theorem zpw_or1 {X : Cx} {a : Expr} {pos : Pos} {tA : TT} (h1 : QT X a tA) : QW X (Expr.BoolOp BoolOp.Or [a] pos) tA :=
  ⟨@pw_or1 _ _ _ _ h1.h⟩
theorem zps_set {X : Cx} {pos : Pos} {i : Nat} {x : Str} {e : Expr} {te : TE} {pos' : Pos} (h1 : List.Nodup (Cx.N X)) (h2 : (Cx.N X)[i]? = some x) (h3 : L2.Loc (Env.scope (Cx.env X)) x) (h4 : QE X e te) (h5 : swapsWith e (some (Expr.Name x pos')) (Pos.line pos) (Cx.env X) = pure false := by rfl) (h6 : Cx.fn X x = true ∨ List.lookup x (Scope.names (Env.scope (Cx.env X))) = some NameKind.local := by first | exact .inl rfl | exact .inr rfl | assumption) : QS X (Stmt.Assign [Expr.Name x pos'] e pos) (tAsg te (gName i)) :=
  ⟨@ps_set _ _ _ _ _ _ _ h1 h2 h3 h4.h h5 h6⟩
theorem zps_asg {X : Cx} {pos : Pos} {tg e : Expr} {te : TE} {g : TG} (h1 : QE X e te) (h2 : QG X tg g) (h3 : swapsWithSole [tg] e (Pos.line pos) (Cx.env X) = pure false := by rfl) (h4 : swappedStores [tg] e (Cx.env X) = pure none := by rfl) (h5 : List.map (fun x => Prod.snd x) (assignEach [tg] (Cx.env X)) = [assign tg (Cx.env X)] := by rfl) : QS X (Stmt.Assign [tg] e pos) (tAsg te g) :=
  ⟨@ps_asg _ _ _ _ _ _ h1.h h2.h h3 h4 h5⟩
theorem zps_ret {X : Cx} {e : Expr} {te : TE} {pos : Pos} (h1 : QE X e te) : QS X (Stmt.Return (some e) pos) (tRet te) :=
  ⟨@ps_ret _ _ _ _ h1.h⟩
theorem zps_if {X : Cx} {t u : TS} {pos : Pos} {c : Expr} {a b : List Stmt} {tc : TT} (h1 : QT X c tc) (h2 : QSs X a t) (h3 : QSs X b u) : QS X (Stmt.If c a b pos) (tIfS tc t u) :=
  ⟨@ps_if _ _ _ _ _ _ _ _ h1.h h2.h h3.h⟩
theorem zpg_name {X : Cx} {pos : Pos} {i : Nat} {x : Str} (h1 : List.Nodup (Cx.N X)) (h2 : (Cx.N X)[i]? = some x) (h3 : L2.Loc (Env.scope (Cx.env X)) x) (h4 : Cx.fn X x = true ∨ List.lookup x (Scope.names (Env.scope (Cx.env X))) = some NameKind.local := by first | exact .inl rfl | exact .inr rfl | assumption) : QG X (Expr.Name x pos) (gName i) :=
  ⟨@pg_name _ _ _ _ h1 h2 h3 h4⟩
theorem zpg_tup {X : Cx} {pos : Pos} {es : List Expr} {k : Nat} {t : TGs} {n : Nat} (h1 : Cx.calm X = true) (h2 : QGs X es t) (h3 : List.length (assignEach es (Cx.env X)) = n := by rfl) (h4 : List.findIdx? (fun x => Prod.fst x) (assignEach es (Cx.env X)) = none := by rfl) : QG X (Expr.Tuple es k pos) (gTup (Cx.K X) n t) :=
  ⟨@pg_tup _ _ _ _ _ _ h1 h2.h h3 h4⟩
theorem zpgs_nil {X : Cx} : QGs X [] gNil :=
  ⟨@pgs_nil _⟩
theorem zpgs_cons {X : Cx} {e : Expr} {es : List Expr} {t : TG} {u : TGs} (h1 : QG X e t) (h2 : QGs X es u) (h3 : List.map (fun x => Prod.snd x) (assignEach (e :: es) (Cx.env X)) = assign e (Cx.env X) :: List.map (fun x => Prod.snd x) (assignEach es (Cx.env X)) := by rfl) : QGs X (e :: es) (gCons t u) :=
  ⟨@pgs_cons _ _ _ _ _ h1.h h2.h h3⟩
theorem zpss_nil {X : Cx} : QSs X [] tNext :=
  ⟨@pss_nil _⟩
theorem zpss_one {X : Cx} {st : Stmt} {t : TS} (h1 : QS X st t) : QSs X [st] t :=
  ⟨@pss_one _ _ _ h1.h⟩
theorem zpss_cons {X : Cx} {st : Stmt} {rest : List Stmt} {t u : TS} (h1 : QS X st t) (h2 : QSs X rest u) : QSs X (st :: rest) (tSeq t u) :=
  ⟨@pss_cons _ _ _ _ _ h1.h h2.h⟩
theorem zpa_nil {X : Cx} : QA X [] tNil :=
  ⟨@pa_nil _⟩
theorem zpa_c {X : Cx} {e : Expr} {es : List Expr} {te : TE} {t : TA} (h1 : QE X e te) (h2 : QA X es t) (h3 : plainE e = true := by rfl) : QA X (e :: es) (tCons te t) :=
  ⟨@pa_c _ _ _ _ _ h1.h h2.h h3⟩
theorem zps_join {X : Cx} {st : Stmt} {t : TS} (h : QS X st t) : QS X st (tJoin t) := ⟨ps_join h.h⟩
theorem Fun.okZ {P : Program} {w : World} {K : PySem.W.Frag} {mg : Str → Option Value} {base : Heap} {x qual : Str} {st : Stmt} {f : Addr} {fd : FuncData} {N ps : List Str} {k : Nat} {sp : Sp} (F : Fun K x qual st f fd) (S : FnScope N ps (defScope st)) (len : ∀ vs H Q E, sp vs H Q E → vs.length = ps.length)
    (hbody : ∀ (cdv : Value) (A : Around) (outer : List Env) (s : Shared) (H : Hp) (vs : List V) (Q : VK) (E : XK), Room k (A.deeper (envOfC qual (defScope st) s.heap.objs.size f cdv)) → sp vs H Q E →
      ∃ t, QSs (cxOf CX0 P w K mg base N qual (defScope st) f cdv A outer s H E).nox (defBody st) t ∧ t { nx := fun _ H' => Q .non H', rt := Q } (start N vs) H) : FnOk P w K mg base CX0 (k + 1) f fd ps sp :=
  F.ok S len fun cdv A outer s H vs Q E hr h => let ⟨t, a, b⟩ := hbody cdv A outer s H vs Q E hr h; ⟨t, a.h, b⟩
theorem zpd_of {X : Cx} {e : Expr} {t : TE} (h : QE X e t) : PD X e (rE t) := pd_of h.h
theorem zpd {X : Cx} {e : Expr} {R : RD} (h : PD X e R) : QE X e (tHD R) := ⟨h.h⟩
end L2
set_option Elab.async false
set_option linter.all false
set_option maxRecDepth 100000
set_option maxHeartbeats 2000000
namespace LW
open PySem L2
abbrev sDue : Stmt := top 44
def pathOf (way : Int) : List Int := if way = 0 then [2, 0, 1] else if way = 1 then [2, 0, 1, 0, 0] else [2, 0, 1, 1, 0]
def dlOf (way : Int) : Nat := if 0 < way then 1 else 0
def totV (o : Option Nat) : V := match o with
  | none => .non
  | some b => .int b
def spDue : Sp := fun vs H Q _ => ∃ (fn : Str) (R T A : Nat) (o : Option Nat) (B : Nat) (tot : Prop) (pl : Addr) (pe pk : Nat) (way near : Int), vs = [.str fn, .int R, .int T, .int A, totV o, .ref pl, .int way, .int near] ∧ ((o = none ∧ ¬ tot) ∨ (o = some B ∧ tot)) ∧ 0 < B ∧ B ≤ 1000 ∧ R ≤ 100 ∧ T ≤ 100 ∧ A ≤ 100 ∧ H pl = some (.tup [.int pe, .int pk]) ∧ 0 ≤ way ∧ way ≤ 2 ∧
  ∀ t v H', Same H H' → EndAt H' fn (dueOf near R T A B (dlOf way) (pathOf way) tot pe pk).1 v → H' t = some (.tup [v, .int (dueOf near R T A B (dlOf way) (pathOf way) tot pe pk).2]) → Q (.ref t) H'
theorem held_due {H : Hp} {fn kd : Str} {p : List Int} {k : Int} {k' : Nat} {u : Int} {v : V} (hk : k = k') (h : Held H (.tup [.tup [.str "untrue", .str fn, .str kd, pathD p, .int k], .int u]) v) : ∃ t v', v = .ref t ∧ H t = some (.tup [v', .int u]) ∧ EndAt H fn (.untrue kd p k') v' := by
  obtain ⟨t, xs, rfl, ht, h1⟩ := held_tup_inv h
  obtain ⟨v1, r1, rfl, e1, h2⟩ := heldL_cons_inv h1
  obtain ⟨v2, r2, rfl, e2, h3⟩ := heldL_cons_inv h2
  cases heldL_nil_inv h3
  cases held_int_inv e2
  obtain ⟨a, ys, rfl, ha, g1⟩ := held_tup_inv e1
  obtain ⟨w1, q1, rfl, f1, g2⟩ := heldL_cons_inv g1
  obtain ⟨w2, q2, rfl, f2, g3⟩ := heldL_cons_inv g2
  obtain ⟨w3, q3, rfl, f3, g4⟩ := heldL_cons_inv g3
  obtain ⟨w4, q4, rfl, f4, g5⟩ := heldL_cons_inv g4
  obtain ⟨w5, q5, rfl, f5, g6⟩ := heldL_cons_inv g5
  cases heldL_nil_inv g6
  cases held_str_inv f1
  cases held_str_inv f2
  cases held_str_inv f3
  cases held_int_inv f5
  subst hk
  exact ⟨t, _, rfl, ht, a, w4, rfl, ha, f4⟩
section
variable {P : Program} {w : World} {K : PySem.W.Frag} {mg : Str → Option Value} {base : Heap}
theorem ok_due {f : Addr} {fd : FuncData} (F : Fun K "_law_due" "_law_due" sDue f fd) (B : Free0 mg) : FnOk P w K mg base CX0 1 f fd ["_law_f", "_law_rounds", "_law_times", "_law_comings", "_law_totals", "_law_places", "_law_way", "_law_near"] spDue := by
  have sc : FnScope ["_law_f", "_law_rounds", "_law_times", "_law_comings", "_law_totals", "_law_places", "_law_way", "_law_near", "_law_path", "_law_lead", "_law_each", "_law_at"] ["_law_f", "_law_rounds", "_law_times", "_law_comings", "_law_totals", "_law_places", "_law_way", "_law_near"] (defScope sDue) := ⟨rfl, rfl, rfl, by decide +kernel, rfl, by decide +kernel, by decide +kernel⟩
  refine F.okZ sc (fun vs H Q E h => ?_) (fun cdv A outer s H vs Q E hr h => ?_)
  · obtain ⟨fn, R, T, A, o, B, tot, pl, pe, pk, way, near, rfl, _⟩ := h
    rfl
  obtain ⟨fn, R, T, A, o, Bn, tot, pl, pe, pk, way, near, rfl, ho, hB, hB2, hR, hT, hA, hpl, hw0, hw2, q⟩ := h
  refine ⟨_, (zpss_cons (zps_set (i := 8) sc.nd rfl (by first | exact Or.inl rfl | exact Or.inr rfl) (zpe_ix ix_list (zpe_lst (zpa_c (zpd (pd_tup (pds_cons pd_int (pds_cons pd_int (pds_cons pd_int pds_nil))))) (zpa_c (zpd (pd_tup (pds_cons pd_int (pds_cons pd_int (pds_cons pd_int (pds_cons pd_int (pds_cons pd_int pds_nil))))))) (zpa_c (zpd (pd_tup (pds_cons pd_int (pds_cons pd_int (pds_cons pd_int (pds_cons pd_int (pds_cons pd_int pds_nil))))))) zpa_nil)))) (zpv 6) (fun _ _ => rfl)))
      (zpss_cons (zps_set (i := 9) sc.nd rfl (by first | exact Or.inl rfl | exact Or.inr rfl) (zpe_op op_add (zpe_op op_add (zpe_op op_add zpe_int zpe_int) zpe_int) (zpe_cT call_int1 (by rfl) B.int_ bt_int (zpa_c (zpe_cmpR op_gt (zpv 6) zpe_int (nomark _)) zpa_nil))))
      (zpss_cons (zps_set (i := 10) sc.nd rfl (by first | exact Or.inl rfl | exact Or.inr rfl) (zpe_op op_add (zpe_op op_add zpe_int (zpe_op op_mul zpe_int (zpv 1))) (zpe_cT call_int1 (by rfl) B.int_ bt_int (zpa_c (zpe_cmpR op_gt (zpv 6) zpe_int (nomark _)) zpa_nil))))
      (zpss_cons (zps_set (i := 11) sc.nd rfl (by first | exact Or.inl rfl | exact Or.inr rfl) zpe_non)
      (zpss_cons (zps_join (zps_if (zpw_and (zpt_cmpR op_notN (zpv 4) zpe_non (nomark _)) (zpw_and1 (zpt_cmpR op_gt (zpv 1) zpe_int (nomark _)))).pt (zpss_one (zps_set (i := 11) sc.nd rfl (by first | exact Or.inl rfl | exact Or.inr rfl) (zpe_op op_fdivB (zpe_op op_sub (zpv 4) zpe_int) (zpv 1)))) zpss_nil))
      (zpss_cons (zps_if (zpw_and (zpt_cmpR op_lt (zpv 3) (zpv 2) (nomark _)) (zpw_and1 (zpw_or (zpt_cmpR op_isN (zpv 11) zpe_non (nomark _)) (zpw_or1 (zpt_cmpR op_le (zpv 3) (zpv 11) (nomark _)))).pt)).pt (zpss_one (zps_ret (zpd (pd_tup (pds_cons (pd_tup (pds_cons pd_str (pds_cons (pd_var 0) (pds_cons pd_str (pds_cons (pd_var 8) (pds_cons (zpd_of (zpe_ix ix_tup (zpv 5) zpe_int (fun _ _ => rfl))) pds_nil)))))) (pds_cons (zpd_of (zpe_op op_add (zpe_op op_add (zpv 9) (zpe_op op_mul (zpv 3) (zpv 10))) zpe_int)) pds_nil)))))) zpss_nil)
      (zpss_cons (zps_if (zpw_and (zpt_cmpR op_notN (zpv 11) zpe_non (nomark _)) (zpw_and1 (zpt_cmpR op_lt (zpv 11) (zpv 2) (nomark _)))).pt (zpss_one (zps_ret (zpd (pd_tup (pds_cons (pd_tup (pds_cons pd_str (pds_cons (pd_var 0) (pds_cons pd_str (pds_cons (pd_var 8) (pds_cons (zpd_of (zpe_ix ix_tup (zpv 5) zpe_int (fun _ _ => rfl))) pds_nil)))))) (pds_cons (zpd_of (zpe_op op_add (zpe_op op_add (zpe_op op_add (zpv 9) (zpe_op op_mul (zpv 11) (zpv 10))) (zpe_op op_mul zpe_int (zpe_op op_sub (zpv 4) (zpe_op op_mul (zpv 11) (zpv 1))))) zpe_int)) pds_nil)))))) zpss_nil)
      (zpss_one (zps_ret (zpe_tup (zpa_c (zpe_tup (zpa_c zpe_str (zpa_c (zpe_op op_add (zpv 7) (zpe_op op_mul (zpv 1) (zpv 2))) (zpa_c (zpe_lst zpa_nil) zpa_nil)))) (zpa_c (zpe_op op_add zpe_int (zpe_op op_mul (zpv 2) (zpv 10))) zpa_nil)))))))))))), ?_⟩
  refine ⟨.tup [.int 2, .int 0, .int 1], ⟨_, rfl, Nat.le_of_ble_eq_true rfl, _, _, rfl, rfl, _, _, rfl, rfl, _, _, rfl, rfl, rfl⟩, fun v1 H1 s1 h1 => ⟨.tup [.int 2, .int 0, .int 1, .int 0, .int 0], ⟨_, rfl, Nat.le_of_ble_eq_true rfl, _, _, rfl, rfl, _, _, rfl, rfl, _, _, rfl, rfl, _, _, rfl, rfl, _, _, rfl, rfl, rfl⟩, fun v2 H2 s2 h2 => ⟨.tup [.int 2, .int 0, .int 1, .int 1, .int 0], ⟨_, rfl, Nat.le_of_ble_eq_true rfl, _, _, rfl, rfl, _, _, rfl, rfl, _, _, rfl, rfl, _, _, rfl, rfl, _, _, rfl, rfl, rfl⟩, fun v3 H3 s3 h3 => ⟨sm rfl, fun l hl => ?_⟩⟩⟩⟩
  have hpath : ∃ vp, atI [v1, v2, v3] way = some vp ∧ Held (upd H3 l (.lst [v1, v2, v3])) (pathD (pathOf way)) vp := by
    have g := same_put hl (.lst [v1, v2, v3])
    have : way = 0 ∨ way = 1 ∨ way = 2 := by omega
    rcases this with rfl | rfl | rfl
    · exact ⟨v1, rfl, ((h1.mono s2).mono s3).mono g⟩
    · exact ⟨v2, rfl, (h2.mono s3).mono g⟩
    · exact ⟨v3, rfl, h3.mono g⟩
  obtain ⟨vp, hat, hvp⟩ := hpath
  have s4 : Same H (upd H3 l (.lst [v1, v2, v3])) := s1.trans (s2.trans (s3.trans (same_put hl _)))
  have e4 : upd H3 l (.lst [v1, v2, v3]) l = some (.lst [v1, v2, v3]) := upd_same
  generalize upd H3 l (.lst [v1, v2, v3]) = H4 at *
  refine ⟨_, rfl, l, _, _, _, rfl, rfl, SqL.of e4, hat, ?_⟩
  clear h1 h2 h3 hl e4
  refine ⟨_, _, rfl, rfl, _, _, rfl, rfl, _, rfl, _, _, rfl, rfl, .inr ⟨_, rfl, _, _, rfl, rfl, ?_⟩⟩
  dsimp only
  have hdl : (if decide (way > 0) = true then (1 : Int) else 0) = (dlOf way : Nat) := by
    unfold dlOf
    by_cases hh : 0 < way
    · rw [if_pos hh, if_pos (decide_eq_true hh)]; rfl
    · rw [if_neg hh, if_neg (fun z => hh (of_decide_eq_true z))]; rfl
  have hdl1 : dlOf way ≤ 1 := by unfold dlOf; split <;> decide
  rw [hdl]
  trace_state
  refine ⟨_, rfl, _, _, rfl, rfl, .inl ⟨by decide, by decide⟩, _, _, rfl, rfl, _, rfl, _, _, rfl, rfl, .inr ⟨_, rfl, _, _, rfl, rfl, ?_⟩⟩
  dsimp only
  rw [hdl]
  generalize hD : dlOf way = dl at *
  generalize hP : pathOf way = path at *
  refine ⟨fun σ' G => σ' = [some (.str fn), some (.int R), some (.int T), some (.int A), some (totV o), some (.ref pl), some (.int way), some (.int near), some vp, some (.int (2 + 1 + 3 + (dl : Int))), some (.int (5 + 3 * (R : Int) + dl)), some (optV (atOf R Bn tot))] ∧ G = H4, ?_, ?_⟩
  · refine ⟨_, rfl, rfl, _, rfl, ite2 (fun d => ?_) (fun d => ?_)⟩
    · rcases ho with ⟨rfl, _⟩ | ⟨rfl, ht⟩
      · exact absurd d (by show ¬ ((!decide (V.non = V.non)) = true); simp)
      refine ⟨_, rfl, _, _, rfl, rfl, _, rfl, ite2 (fun d2 => ?_) (fun d2 => ?_)⟩
      · have d2' : 0 < R := by have := of_decide_eq_true d2; omega
        refine ⟨_, rfl, _, _, rfl, rfl, _, rfl, _, _, rfl, rfl, ⟨by omega, by omega⟩, ?_⟩
        refine ⟨?_, rfl⟩
        have e1 : atOf R Bn tot = some ((Bn - 1) / R) := by unfold atOf; rw [if_pos ⟨ht, d2'⟩]
        rw [e1]
        have e2 : ((Bn : Int) - 1) / (R : Int) = (((Bn - 1) / R : Nat) : Int) := by
          rw [Int.natCast_ediv]
          congr 1
          omega
        dsimp only
        rw [e2]
        rfl
      · have e1 : atOf R Bn tot = none := by unfold atOf; rw [if_neg (fun z => d2 (decide_eq_true (by omega)))]
        rw [e1]
        exact ⟨rfl, rfl⟩
    · rcases ho with ⟨rfl, ht⟩ | ⟨rfl, ht⟩
      · have e1 : atOf R Bn tot = none := by unfold atOf; rw [if_neg (fun z => ht z.1)]
        rw [e1]
        exact iteF ⟨rfl, rfl⟩
      · exact absurd (show (!decide (V.int (Bn : Int) = V.non)) = true by simp) d
  rintro σ' G ⟨rfl, rfl⟩
  have hat2 : ∀ a, atOf R Bn tot = some a → 0 < R ∧ a ≤ 1000 ∧ o = some Bn := fun a ha => by
    unfold atOf at ha
    split at ha
    · rename_i hh
      cases ha
      refine ⟨hh.2, Nat.le_trans (Nat.div_le_self _ _) (by omega), ?_⟩
      rcases ho with ⟨rfl, ht⟩ | ⟨rfl, ht⟩
      · exact absurd hh.1 ht
      · rfl
    · cases ha
  have enter : A < T → (∀ a, atOf R Bn tot = some a → A ≤ a) → dueOf near R T A Bn dl path tot pe pk = (.untrue "enter" path pe, 6 + dl + A * (5 + 3 * R + dl) + 1) := fun h1 h2 => by unfold dueOf; rw [if_pos ⟨h1, h2⟩]
  have noenter : (¬ A < T ∨ ∃ a, atOf R Bn tot = some a ∧ a < A) → (∀ a, atOf R Bn tot = some a → a < T → dueOf near R T A Bn dl path tot pe pk = (.untrue "keep" path pk, 6 + dl + a * (5 + 3 * R + dl) + 3 * (Bn - a * R) + 1)) ∧ ((∀ a, atOf R Bn tot = some a → ¬ a < T) → dueOf near R T A Bn dl path tot pe pk = (.done (near + ((R * T : Nat) : Int)), 5 + T * (5 + 3 * R + dl))) := fun h => by
    have hn : ¬ (A < T ∧ (∀ a, atOf R Bn tot = some a → A ≤ a)) := fun z => by
      rcases h with h | ⟨a, h1, h2⟩
      · exact h z.1
      · have := z.2 a h1; omega
    refine ⟨fun a ha hT => ?_, fun hT => ?_⟩
    · unfold dueOf
      rw [if_neg hn, ha]
      dsimp only
      rw [if_pos hT]
    · unfold dueOf
      rw [if_neg hn]
      cases e : atOf R Bn tot with
      | none => rfl
      | some a => dsimp only; rw [if_neg (hT a e)]
  have hBR : ∀ a, atOf R Bn tot = some a → a * R ≤ Bn := fun a ha => by
    unfold atOf at ha
    split at ha
    · cases ha
      have := Nat.div_mul_le_self (Bn - 1) R
      omega
    · cases ha
  generalize atOf R Bn tot = ao at *
  generalize dueOf near R T A Bn dl path tot pe pk = due at *
  have fin0 : (.done (near + ((R * T : Nat) : Int)), 5 + T * (5 + 3 * R + dl)) = due → ∀ (G : Hp), Same H G → ∀ l2 t2 t3, G l2 = none → (upd G l2 (.lst [])) t2 = none → upd (upd G l2 (.lst [])) t2 (.tup [.str "done", .int (near + (R : Int) * (T : Int)), .ref l2]) t3 = none → Q (.ref t3) (upd (upd (upd G l2 (.lst [])) t2 (.tup [.str "done", .int (near + (R : Int) * (T : Int)), .ref l2])) t3 (.tup [.ref t2, .int (5 + (T : Int) * (5 + 3 * (R : Int) + dl))])) := fun hd G sG l2 t2 t3 hl2 ht2 ht3 => by
    subst hd
    refine q t3 (.ref t2) _ (sG.trans ((same_put hl2 _).trans ((same_put ht2 _).trans (same_put ht3 _)))) ⟨t2, l2, rfl, ?_, ?_⟩ ?_
    · refine same_put ht3 _ _ _ ?_
      rw [upd_same, Int.natCast_mul]
    · exact same_put ht3 _ _ _ (same_put ht2 _ _ _ upd_same)
    · rw [upd_same]
      congr 5
  have enterR : A < T → (∀ a, ao = some a → A ≤ a) → ∀ (G : Hp), Same H G → ∀ v, Held G (.tup [.tup [.str "untrue", .str fn, .str "enter", pathD path, .int pe], .int (2 + 1 + 3 + (dl : Int) + (A : Int) * (5 + 3 * (R : Int) + dl) + 1)]) v → Q v G := fun h1 h2 G sG v hv => by
    have hd := enter h1 h2
    subst hd
    obtain ⟨t, v', rfl, ht, he⟩ := held_due rfl hv
    refine q t v' G sG he ?_
    rw [ht]
    congr 5
  have keepR : (¬ A < T ∨ ∃ a, ao = some a ∧ a < A) → ∀ a, ao = some a → a < T → ∀ (G : Hp), Same H G → ∀ v, Held G (.tup [.tup [.str "untrue", .str fn, .str "keep", pathD path, .int pk], .int (2 + 1 + 3 + (dl : Int) + (a : Int) * (5 + 3 * (R : Int) + dl) + 3 * ((Bn : Int) - (a : Int) * (R : Int)) + 1)]) v → Q v G := fun h1 a ha hT G sG v hv => by
    have hd := (noenter h1).1 a ha hT
    subst hd
    obtain ⟨t, v', rfl, ht, he⟩ := held_due rfl hv
    refine q t v' G sG he ?_
    rw [ht]
    have := hBR a ha
    have e : (((Bn - a * R : Nat)) : Int) = (Bn : Int) - (a : Int) * (R : Int) := by rw [Int.natCast_sub this, Int.natCast_mul]
    dsimp only
    rw [Int.natCast_add, Int.natCast_add, Int.natCast_mul 3, e]
    congr 5
  have rest : (¬ A < T ∨ ∃ a, ao = some a ∧ a < A) → (∀ a, ao = some a → ¬ a < T) → (.done (near + ((R * T : Nat) : Int)), 5 + T * (5 + 3 * R + dl)) = due := fun h1 h2 => ((noenter h1).2 h2).symm
  clear q enter noenter
  cases ao with
  | none =>
    refine ⟨_, rfl, _, rfl, _, _, rfl, rfl, _, rfl, ite2 (fun d1 => ?_) (fun d1 => ?_)⟩
    · have d1' := of_decide_eq_true d1
      refine ⟨_, rfl, rfl, _, rfl, iteT (iteT ?_)⟩
      refine ⟨_, ⟨_, rfl, Nat.le_of_ble_eq_true rfl, _, _, rfl, ⟨_, rfl, Nat.le_of_ble_eq_true rfl, _, _, rfl, rfl, _, _, rfl, ⟨_, rfl, held_str⟩, _, _, rfl, rfl, _, _, rfl, ⟨_, rfl, hvp⟩, _, _, rfl, (fun G sG Q q => ⟨_, rfl, pl, _, _, _, rfl, rfl, SqT.of (sG _ _ (s4 _ _ hpl)), rfl, q _ G (same_refl G) held_int⟩), rfl⟩, _, _, rfl, (fun G sG Q q => ⟨_, rfl, _, rfl, _, rfl, _, _, rfl, rfl, .inl ⟨by omega, by omega⟩, _, _, rfl, rfl, _, _, rfl, rfl, q _ G (same_refl G) held_int⟩), rfl⟩, fun v G sG hv => enterR (by omega) (fun a z => by cases z) G (s4.trans sG) v hv⟩
    · have d1' : ¬ A < T := fun z => d1 (decide_eq_true (by omega))
      refine iteF ?_
      refine ⟨_, rfl, rfl, _, rfl, iteF (iteF ?_)⟩
      refine ⟨_, rfl, _, rfl, _, rfl, _, _, rfl, rfl, .inl ⟨by omega, by omega⟩, _, _, rfl, rfl, sm rfl, fun l2 hl2 => ⟨sm rfl, fun t2 ht2 => ?_⟩⟩
      refine ⟨_, rfl, _, rfl, _, _, rfl, rfl, .inl ⟨by omega, by omega⟩, _, _, rfl, rfl, sm rfl, fun t3 ht3 => ?_⟩
      exact fin0 (rest (.inl d1') (fun a z => by cases z)) _ s4 l2 t2 t3 hl2 ht2 ht3
  | some a =>
    obtain ⟨hR0, ha1, rfl⟩ := hat2 a rfl
    refine ⟨_, rfl, _, rfl, _, _, rfl, rfl, _, rfl, ite2 (fun d1 => ?_) (fun d1 => ?_)⟩
    · have d1' := of_decide_eq_true d1
      refine ⟨_, rfl, rfl, _, rfl, iteF ⟨_, rfl, _, rfl, _, _, rfl, rfl, _, rfl, ite2 (fun d2 => ?_) (fun d2 => ?_)⟩⟩
      · have d2' : A ≤ a := by have := of_decide_eq_true d2; omega
        refine ⟨_, ⟨_, rfl, Nat.le_of_ble_eq_true rfl, _, _, rfl, ⟨_, rfl, Nat.le_of_ble_eq_true rfl, _, _, rfl, rfl, _, _, rfl, ⟨_, rfl, held_str⟩, _, _, rfl, rfl, _, _, rfl, ⟨_, rfl, hvp⟩, _, _, rfl, (fun G sG Q q => ⟨_, rfl, pl, _, _, _, rfl, rfl, SqT.of (sG _ _ (s4 _ _ hpl)), rfl, q _ G (same_refl G) held_int⟩), rfl⟩, _, _, rfl, (fun G sG Q q => ⟨_, rfl, _, rfl, _, rfl, _, _, rfl, rfl, .inl ⟨by omega, by omega⟩, _, _, rfl, rfl, _, _, rfl, rfl, q _ G (same_refl G) held_int⟩), rfl⟩, fun v G sG hv => enterR (by omega) (fun a' z => by cases z; exact d2') G (s4.trans sG) v hv⟩
      · have d2' : a < A := by
          rcases Nat.lt_or_ge a A with g | g
          · exact g
          · exact absurd (decide_eq_true (by omega)) d2
        refine ⟨_, rfl, rfl, _, rfl, iteT ⟨_, rfl, _, rfl, _, _, rfl, rfl, _, rfl, ite2 (fun d3 => ?_) (fun d3 => ?_)⟩⟩
        · have d3' : a < T := by have := of_decide_eq_true d3; omega
          refine ⟨_, ⟨_, rfl, Nat.le_of_ble_eq_true rfl, _, _, rfl, ⟨_, rfl, Nat.le_of_ble_eq_true rfl, _, _, rfl, rfl, _, _, rfl, ⟨_, rfl, held_str⟩, _, _, rfl, rfl, _, _, rfl, ⟨_, rfl, hvp⟩, _, _, rfl, (fun G sG Q q => ⟨_, rfl, pl, _, _, _, rfl, rfl, SqT.of (sG _ _ (s4 _ _ hpl)), rfl, q _ G (same_refl G) held_int⟩), rfl⟩, _, _, rfl, (fun G sG Q q => ⟨_, rfl, _, rfl, _, rfl, _, _, rfl, rfl, .inl ⟨by omega, by omega⟩, _, _, rfl, rfl, _, rfl, _, rfl, _, rfl, _, _, rfl, rfl, .inl ⟨by omega, by omega⟩, _, _, rfl, rfl, _, _, rfl, rfl, .inl ⟨by decide, by decide⟩, _, _, rfl, rfl, _, _, rfl, rfl, q _ G (same_refl G) held_int⟩), rfl⟩, fun v G sG hv => keepR (.inr ⟨a, rfl, d2'⟩) a rfl (by omega) G (s4.trans sG) v hv⟩
        · have d3' : ¬ a < T := fun z => d3 (decide_eq_true (by omega))
          refine ⟨_, rfl, _, rfl, _, rfl, _, _, rfl, rfl, .inl ⟨by omega, by omega⟩, _, _, rfl, rfl, sm rfl, fun l2 hl2 => ⟨sm rfl, fun t2 ht2 => ?_⟩⟩
          refine ⟨_, rfl, _, rfl, _, _, rfl, rfl, .inl ⟨by omega, by omega⟩, _, _, rfl, rfl, sm rfl, fun t3 ht3 => ?_⟩
          exact fin0 (rest (.inr ⟨a, rfl, d2'⟩) (fun a' z => by cases z; exact d3')) _ s4 l2 t2 t3 hl2 ht2 ht3
    · have d1' : ¬ A < T := fun z => d1 (decide_eq_true (by omega))
      refine iteF ?_
      refine ⟨_, rfl, rfl, _, rfl, iteT ⟨_, rfl, _, rfl, _, _, rfl, rfl, _, rfl, ite2 (fun d3 => ?_) (fun d3 => ?_)⟩⟩
      · have d3' : a < T := by have := of_decide_eq_true d3; omega
        refine ⟨_, ⟨_, rfl, Nat.le_of_ble_eq_true rfl, _, _, rfl, ⟨_, rfl, Nat.le_of_ble_eq_true rfl, _, _, rfl, rfl, _, _, rfl, ⟨_, rfl, held_str⟩, _, _, rfl, rfl, _, _, rfl, ⟨_, rfl, hvp⟩, _, _, rfl, (fun G sG Q q => ⟨_, rfl, pl, _, _, _, rfl, rfl, SqT.of (sG _ _ (s4 _ _ hpl)), rfl, q _ G (same_refl G) held_int⟩), rfl⟩, _, _, rfl, (fun G sG Q q => ⟨_, rfl, _, rfl, _, rfl, _, _, rfl, rfl, .inl ⟨by omega, by omega⟩, _, _, rfl, rfl, _, rfl, _, rfl, _, rfl, _, _, rfl, rfl, .inl ⟨by omega, by omega⟩, _, _, rfl, rfl, _, _, rfl, rfl, .inl ⟨by decide, by decide⟩, _, _, rfl, rfl, _, _, rfl, rfl, q _ G (same_refl G) held_int⟩), rfl⟩, fun v G sG hv => keepR (.inl d1') a rfl (by omega) G (s4.trans sG) v hv⟩
      · have d3' : ¬ a < T := fun z => d3 (decide_eq_true (by omega))
        refine ⟨_, rfl, _, rfl, _, rfl, _, _, rfl, rfl, .inl ⟨by omega, by omega⟩, _, _, rfl, rfl, sm rfl, fun l2 hl2 => ⟨sm rfl, fun t2 ht2 => ?_⟩⟩
        refine ⟨_, rfl, _, rfl, _, _, rfl, rfl, .inl ⟨by omega, by omega⟩, _, _, rfl, rfl, sm rfl, fun t3 ht3 => ?_⟩
        exact fin0 (rest (.inl d1') (fun a' z => by cases z; exact d3')) _ s4 l2 t2 t3 hl2 ht2 ht3
end
end LW
set_option Elab.async false
set_option linter.all false
set_option maxRecDepth 100000
set_option maxHeartbeats 1000000
namespace LW
open PySem L2
def sxI (w : Nm) (ks : List Lc) (p : List Int) (e q : Nat) : List Sx := [.come, .ask (w.n, w.i, 1) ks "enter" p (e + 2) q, .set w.i w.i 1 (p ++ [0, 0]), .set w.x w.x 1 (p ++ [0, 1]), .ask (w.n, w.i, 1) ks "keep" p (e + 2) q]
def sxO (w : Nm) (near : Int) (mid : List Sx) (r : Nat) : List Sx := [.set w.c "" near [0], .set w.x "" near [1], .come, .ask (w.t, w.c, 1) [] "enter" [2] 4 (r + 2), .set w.i "" near [2, 0, 0]] ++ mid ++ [.set w.c w.c 1 [2, 0, 2], .ask (w.t, w.c, 1) [] "keep" [2] 4 (r + 2), .set "out" w.x 0 [3]]
def sx0 (w : Nm) (near : Int) (ks : List Lc) : List Sx := sxO w near (sxI w ks [2, 0, 1] 5 10) 10
def sx1 (w : Nm) (near : Int) (ks : List Lc) : List Sx := sxO w near (.ask (w.c, w.c, 0) [] "" [2, 0, 1] 6 12 :: sxI w ks [2, 0, 1, 0, 0] 6 11 ++ [.go 12]) 12
def sx2 (w : Nm) (near : Int) (ks : List Lc) : List Sx := sxO w near (.ask (w.c, w.c, 1) [] "" [2, 0, 1] 6 7 :: .go 12 :: sxI w ks [2, 0, 1, 1, 0] 7 12) 12
def sxW (w : Nm) (near : Int) (ks : List Lc) (way : Int) : List Sx := if way = 0 then sx0 w near ks else if way = 1 then sx1 w near ks else sx2 w near ks
theorem lay_set {f n k : Nat} {x y : Str} {c : Int} {r : List D} {ar : List Int} : layL (layS (f + 1)) n (setD x y c :: r) ar k = Sx.toD (.set x y c (ar ++ [(k : Int)])) :: layL (layS (f + 1)) (n + 1) r ar (k + 1) := by
  rw [layL, show layS (f + 1) n (setD x y c) (ar ++ [(k : Int)]) = [Sx.toD (.set x y c (ar ++ [(k : Int)]))] from layS_do (by decide) (by decide)]
  rfl
theorem lay_wh {f n k : Nat} {le : D} {ks b : List D} {r : List D} {ar : List Int} : layL (layS (f + 1)) n (whD le ks b :: r) ar k = layWh (layS f) n le (.tup ks) b (ar ++ [(k : Int)]) ++ layL (layS (f + 1)) (n + (layWh (layS f) n le (.tup ks) b (ar ++ [(k : Int)])).length) r ar (k + 1) := by
  rw [layL, show layS (f + 1) n (whD le ks b) (ar ++ [(k : Int)]) = _ from layS_wh]
theorem lay_if' {f n k : Nat} {le : D} {b o : List D} {r : List D} {ar : List Int} : layL (layS (f + 1)) n (ifD le b o :: r) ar k = layIf (layS f) n le b o (ar ++ [(k : Int)]) ++ layL (layS (f + 1)) (n + (layIf (layS f) n le b o (ar ++ [(k : Int)])).length) r ar (k + 1) := by
  rw [layL, show layS (f + 1) n (ifD le b o) (ar ++ [(k : Int)]) = _ from layS_if]
theorem lay_nil {S : Nat → D → List Int → List D} {n k : Nat} {ar : List Int} : layL S n [] ar k = [] := by unfold layL; rfl
theorem layWh_eq {S : Nat → D → List Int → List D} {n : Nat} {le ks : D} {b : List D} {p : List Int} {B : List D} (h : layL S (n + 2) b (p ++ [0]) 0 = B) : layWh S n le ks b p = .tup [.str "come"] :: askD le ks "enter" p (n + 2) (n + 2 + B.length + 1) :: B ++ [askD le ks "keep" p (n + 2) (n + 2 + B.length + 1)] := by subst h; rfl
theorem layIf_eq {S : Nat → D → List Int → List D} {n : Nat} {le : D} {b o : List D} {p : List Int} {B O : List D} (h : layL S (n + 1) b (p ++ [0]) 0 = B) (h' : layL S (n + 1 + B.length + 1) o (p ++ [1]) 0 = O) : layIf S n le b o p = askD le (.tup []) "" p (n + 1) (n + 1 + B.length + 1) :: B ++ .tup [.str "go", .int ((n + 1 + B.length + 1 + O.length : Nat) : Int)] :: O := by subst h; subst h'; rfl
theorem lay_in0 {f n : Nat} {w : Nm} {ks : List Lc} {p : List Int} : layWh (layS (f + 1)) n (leD w.n w.i 1) (.tup (ks.map lcD)) [setD w.i w.i 1, setD w.x w.x 1] p = (sxI w ks p n (n + 5)).map Sx.toD := by
  rw [layWh_eq (B := _) (by rw [lay_set, lay_set, lay_nil])]
  simp only [sxI, List.map_cons, List.map_nil, List.length_cons, List.length_nil, List.append_assoc]
  rfl
theorem lay_all {w : Nm} {near way : Int} {ks : List Lc} (h0 : 0 ≤ way) (h2 : way ≤ 2) : layL (layS 4) 0 (bodyD w.n w.t w.c w.i w.x near (ks.map lcD) way) [] 0 = (sxW w near ks way).map Sx.toD := by
  have : way = 0 ∨ way = 1 ∨ way = 2 := by omega
  rcases this with rfl | rfl | rfl
  · unfold bodyD
    rw [show in2D w.n w.c w.i w.x (ks.map lcD) 0 = whD (leD w.n w.i 1) (ks.map lcD) [setD w.i w.i 1, setD w.x w.x 1] from rfl]
    rw [lay_set, lay_set, lay_wh, layWh_eq (by rw [lay_set, lay_wh, lay_in0, lay_set, lay_nil]), lay_set, lay_nil]
    rfl
  · unfold bodyD
    rw [show in2D w.n w.c w.i w.x (ks.map lcD) 1 = ifD (leD w.c w.c 0) [whD (leD w.n w.i 1) (ks.map lcD) [setD w.i w.i 1, setD w.x w.x 1]] [] from rfl]
    rw [lay_set, lay_set, lay_wh, layWh_eq (by rw [lay_set, lay_if', layIf_eq (by rw [lay_wh, lay_in0, lay_nil]) lay_nil, lay_set, lay_nil]), lay_set, lay_nil]
    rfl
  · unfold bodyD
    rw [show in2D w.n w.c w.i w.x (ks.map lcD) 2 = ifD (leD w.c w.c 1) [] [whD (leD w.n w.i 1) (ks.map lcD) [setD w.i w.i 1, setD w.x w.x 1]] from rfl]
    rw [lay_set, lay_set, lay_wh, layWh_eq (by rw [lay_set, lay_if', layIf_eq lay_nil (by rw [lay_wh, lay_in0, lay_nil]), lay_set, lay_nil]), lay_set, lay_nil]
    rfl
theorem fit_set {f : Nat} {x y : Str} {c : Int} : FitS (f + 1) (setD x y c) := .inl ⟨_, _, rfl, by decide, by decide⟩
theorem fit_in0 {f : Nat} {n i x : Str} {ks : List D} : FitS (f + 2) (in0D n i x ks) := .inr (.inr ⟨_, _, _, rfl, fun s hs => by
  simp only [List.mem_cons, List.mem_nil_iff, or_false] at hs
  rcases hs with rfl | rfl <;> exact fit_set⟩)
theorem fit_in2 {n c i x : Str} {ks : List D} {way : Int} : FitS 3 (in2D n c i x ks way) := by
  have h1 : FitS 3 (in1D n c i x ks way) := by
    unfold in1D
    split
    · exact .inr (.inl ⟨_, _, _, rfl, (fun s hs => by rw [List.mem_singleton.mp hs]; exact fit_in0), fun s hs => by cases hs⟩)
    · exact fit_in0
  unfold in2D
  split
  · rename_i h
    refine .inr (.inl ⟨_, _, _, rfl, (fun s hs => by cases hs), fun s hs => ?_⟩)
    rw [List.mem_singleton.mp hs]
    unfold in1D
    rw [if_neg (by omega)]
    exact fit_in0
  · exact h1
theorem fit_body {n t c i x : Str} {near way : Int} {ks : List D} : ∀ st ∈ bodyD n t c i x near ks way, FitS 4 st := by
  intro st hs
  unfold bodyD at hs
  simp only [List.mem_cons, List.mem_nil_iff, or_false] at hs
  rcases hs with rfl | rfl | rfl | rfl
  · exact fit_set
  · exact fit_set
  · refine .inr (.inr ⟨_, _, _, rfl, fun s hs => ?_⟩)
    simp only [List.mem_cons, List.mem_nil_iff, or_false] at hs
    rcases hs with rfl | rfl | rfl
    · exact fit_set
    · exact fit_in2
    · exact fit_set
  · exact fit_set
def eOf (way : Int) : Nat := if way = 0 then 5 else if way = 1 then 6 else 7
def qOf (way : Int) : Nat := if way = 0 then 10 else if way = 1 then 11 else 12
def rOf (way : Int) : Nat := if way = 0 then 10 else 12
theorem inner_all3 {w : Nm} {near way : Int} {ks : List Lc} (h0 : 0 ≤ way) (h2 : way ≤ 2) : Inner (sxW w near ks way) w ks (pathOf way) (eOf way) (qOf way) := by
  have : way = 0 ∨ way = 1 ∨ way = 2 := by omega
  rcases this with rfl | rfl | rfl
  · exact ⟨rfl, rfl, ⟨_, rfl⟩, ⟨_, rfl⟩, rfl⟩
  · exact ⟨rfl, rfl, ⟨_, rfl⟩, ⟨_, rfl⟩, rfl⟩
  · exact ⟨rfl, rfl, ⟨_, rfl⟩, ⟨_, rfl⟩, rfl⟩
theorem outer_all3 {w : Nm} {near way : Int} {ks : List Lc} (h0 : 0 ≤ way) (h2 : way ≤ 2) : Outer (sxW w near ks way) w near (eOf way) (qOf way) (rOf way) (dlOf way) := by
  have : way = 0 ∨ way = 1 ∨ way = 2 := by omega
  rcases this with rfl | rfl | rfl
  · exact ⟨⟨_, rfl⟩, ⟨_, rfl⟩, rfl, rfl, ⟨_, rfl⟩, .inl ⟨rfl, rfl⟩, .inl rfl, ⟨_, rfl⟩, rfl, ⟨_, rfl⟩, rfl⟩
  · exact ⟨⟨_, rfl⟩, ⟨_, rfl⟩, rfl, rfl, ⟨_, rfl⟩, .inr ⟨rfl, 0, _, _, _, rfl, rfl⟩, .inr rfl, ⟨_, rfl⟩, rfl, ⟨_, rfl⟩, rfl⟩
  · exact ⟨⟨_, rfl⟩, ⟨_, rfl⟩, rfl, rfl, ⟨_, rfl⟩, .inr ⟨rfl, 1, _, _, _, rfl, rfl⟩, .inl rfl, ⟨_, rfl⟩, rfl, ⟨_, rfl⟩, rfl⟩
def okS (n : Nat) : Sx → Bool
  | .go m => decide (m ≤ n)
  | .ask _ _ _ _ y m => decide (y ≤ n) && decide (m ≤ n)
  | _ => true
theorem wf_of {sx : List Sx} (h : sx.all (okS sx.length) = true) : Wf sx := by
  intro i s hs
  have := List.all_eq_true.mp h s (List.mem_iff_getElem?.mpr ⟨i, hs⟩)
  cases s with
  | go m => exact of_decide_eq_true this
  | ask le cs kd p y m =>
    unfold okS at this
    rw [Bool.and_eq_true] at this
    exact ⟨of_decide_eq_true this.1, of_decide_eq_true this.2⟩
  | set x y c p => trivial
  | come => trivial
theorem wf_all3 {w : Nm} {near way : Int} {ks : List Lc} (h0 : 0 ≤ way) (h2 : way ≤ 2) : Wf (sxW w near ks way) ∧ (sxW w near ks way).length ≤ 900 := by
  have : way = 0 ∨ way = 1 ∨ way = 2 := by omega
  rcases this with rfl | rfl | rfl
  · exact ⟨wf_of rfl, by show 13 ≤ 900; decide⟩
  · exact ⟨wf_of rfl, by show 15 ≤ 900; decide⟩
  · exact ⟨wf_of rfl, by show 15 ≤ 900; decide⟩
def comL (w : Nm) : Lc := (w.a, w.c, 1)
def totL (w : Nm) : Lc := (w.b, w.x, 1)
def nevL (w : Nm) : Lc := (w.n, w.i, 0)
def ksOf (w : Nm) (kind : Int) : List Lc := if kind = 0 then [comL w, totL w] else if kind = 1 then [totL w, comL w, comL w] else if kind = 2 then [comL w, comL w] else [nevL w, comL w]
def peOf (kind : Int) : Nat := if kind = 0 then 0 else if kind = 1 then 1 else if kind = 2 then 0 else 1
def pkOf (kind : Int) : Nat := if kind = 0 then 1 else 0
section
variable {w : Nm} {near : Int} {R T A B : Nat} {N : List (Str × Int)} {c i x : Nat}
theorem com_t (h : Sv w near R T A B N c i x) : lcT N (comL w) = decide (c < A) := by
  unfold lcT leT comL
  dsimp only
  rw [h.a, h.c]
  by_cases g : c < A
  · rw [decide_eq_true g, decide_eq_true (by omega)]
  · rw [decide_eq_false g, decide_eq_false (by omega)]
theorem tot_t (h : Sv w near R T A B N c i x) : lcT N (totL w) = decide (x < B) := by
  unfold lcT leT totL
  dsimp only
  rw [h.b, h.x]
  by_cases g : x < B
  · rw [decide_eq_true g, decide_eq_true (by omega)]
  · rw [decide_eq_false g, decide_eq_false (by omega)]
theorem nev_t (h : Sv w near R T A B N c i x) (hi : i ≤ R) : lcT N (nevL w) = true := by
  unfold lcT leT nevL
  dsimp only
  rw [h.n, h.i]
  exact decide_eq_true (by omega)
end
theorem un_cons (N : List (Str × Int)) (c : Lc) (cs : List Lc) : untrueAt N (c :: cs) = if lcT N c = true then (untrueAt N cs).map (· + 1) else some 0 := by
  unfold untrueAt
  rw [List.findIdx?_cons]
  cases lcT N c <;> rfl
theorem says_all {w : Nm} {near : Int} {R T A B : Nat} {kind : Int} (h0 : 0 ≤ kind) (h3 : kind ≤ 3) : Says w near R T A B (ksOf w kind) (kind ≤ 1) (peOf kind) (pkOf kind) := by
  have : kind = 0 ∨ kind = 1 ∨ kind = 2 ∨ kind = 3 := by omega
  rcases this with rfl | rfl | rfl | rfl
  · refine ⟨fun N c x h h1 h2 => ?_, fun N c x h h1 h2 => ?_, fun N c i x h h1 h2 h3 => ?_, fun N c i x h h1 h2 h3 h4 => ?_⟩
    · show untrueAt N [comL w, totL w] = none
      rw [un_cons, un_cons, un_nil, com_t h, tot_t h, decide_eq_true h1, decide_eq_true (h2 (by decide))]; rfl
    · show untrueAt N [comL w, totL w] = some 0
      rw [un_cons, un_cons, un_nil, com_t h, decide_eq_false (by omega)]; rfl
    · show untrueAt N [comL w, totL w] = none
      rw [un_cons, un_cons, un_nil, com_t h, tot_t h, decide_eq_true h1, decide_eq_true (h3 (by decide))]; rfl
    · show untrueAt N [comL w, totL w] = some 1
      rw [un_cons, un_cons, un_nil, com_t h, tot_t h, decide_eq_true h1, decide_eq_false (by omega)]; rfl
  · refine ⟨fun N c x h h1 h2 => ?_, fun N c x h h1 h2 => ?_, fun N c i x h h1 h2 h3 => ?_, fun N c i x h h1 h2 h3 h4 => ?_⟩
    · show untrueAt N [totL w, comL w, comL w] = none
      rw [un_cons, un_cons, un_cons, un_nil, com_t h, tot_t h, decide_eq_true h1, decide_eq_true (h2 (by decide))]; rfl
    · show untrueAt N [totL w, comL w, comL w] = some 1
      rw [un_cons, un_cons, un_cons, un_nil, com_t h, tot_t h, decide_eq_true (h2 (by decide)), decide_eq_false (by omega)]; rfl
    · show untrueAt N [totL w, comL w, comL w] = none
      rw [un_cons, un_cons, un_cons, un_nil, com_t h, tot_t h, decide_eq_true h1, decide_eq_true (h3 (by decide))]; rfl
    · show untrueAt N [totL w, comL w, comL w] = some 0
      rw [un_cons, un_cons, un_cons, un_nil, tot_t h, decide_eq_false (by omega)]; rfl
  · refine ⟨fun N c x h h1 h2 => ?_, fun N c x h h1 h2 => ?_, fun N c i x h h1 h2 h3 => ?_, fun N c i x h h1 h2 h3 h4 => absurd h3 (by decide)⟩
    · show untrueAt N [comL w, comL w] = none
      rw [un_cons, un_cons, un_nil, com_t h, decide_eq_true h1]; rfl
    · show untrueAt N [comL w, comL w] = some 0
      rw [un_cons, un_cons, un_nil, com_t h, decide_eq_false (by omega)]; rfl
    · show untrueAt N [comL w, comL w] = none
      rw [un_cons, un_cons, un_nil, com_t h, decide_eq_true h1]; rfl
  · refine ⟨fun N c x h h1 h2 => ?_, fun N c x h h1 h2 => ?_, fun N c i x h h1 h2 h3 => ?_, fun N c i x h h1 h2 h3 h4 => absurd h3 (by decide)⟩
    · show untrueAt N [nevL w, comL w] = none
      rw [un_cons, un_cons, un_nil, nev_t h (by omega), com_t h, decide_eq_true h1]; rfl
    · show untrueAt N [nevL w, comL w] = some 1
      rw [un_cons, un_cons, un_nil, nev_t h (by omega), com_t h, decide_eq_false (by omega)]; rfl
    · show untrueAt N [nevL w, comL w] = none
      rw [un_cons, un_cons, un_nil, nev_t h h2, com_t h, decide_eq_true h1]; rfl
theorem due_bound {near : Int} {R T A B dl : Nat} {path : List Int} {tot : Prop} {pe pk : Nat} (hR : R ≤ 4) (hT : T ≤ 4) (hA : A ≤ 5) (hB : B ≤ 20) (hd : dl ≤ 1) : 0 < (dueOf near R T A B dl path tot pe pk).2 ∧ (dueOf near R T A B dl path tot pe pk).2 ≤ 800 := by
  have m1 : A * (5 + 3 * R + dl) ≤ 5 * 18 := Nat.mul_le_mul hA (by omega)
  have m2 : T * (5 + 3 * R + dl) ≤ 4 * 18 := Nat.mul_le_mul hT (by omega)
  unfold dueOf
  split
  · dsimp only; omega
  · split
    · rename_i a ha
      have hale : a ≤ 20 := by
        unfold atOf at ha
        split at ha
        · cases ha; exact Nat.le_trans (Nat.div_le_self _ _) (by omega)
        · cases ha
      split
      · rename_i haT
        have m3 : a * (5 + 3 * R + dl) ≤ 4 * 18 := Nat.mul_le_mul (by omega) (by omega)
        dsimp only
        omega
      · dsimp only; omega
    · dsimp only; omega
theorem depth_ints : ∀ p : List Int, D.depthL (p.map D.int) = 0
  | [] => by unfold List.map D.depthL; rfl
  | a :: r => by rw [List.map_cons]; unfold D.depthL D.depth; rw [depth_ints r]; rfl
theorem like_end {K : PySem.W.Frag} {H : Hp} {fn : Str} : ∀ {e : En} {v v' : V}, EndAt H fn e v → EndAt H fn e v' → LikeV K H 3 v v'
  | .done out, v, v', ⟨t, hl, h1, h2, h3⟩, ⟨t', hl', h1', h2', h3'⟩ => by
    subst h1 h1'
    have l := LikeL.cons (like_str "done" 2) (.cons (like_int out 2) (.cons (LikeV.up (LikeV.lst (n := 0) (K := K) h3 h3' rfl (fun j x y e _ => by simp at e)) (by decide : 0 + 1 ≤ 2)) .nil))
    exact LikeV.tup h2 h2' l.1 l.2
  | .spent, v, v', ⟨t, h1, h2⟩, ⟨t', h1', h2'⟩ => by
    subst h1 h1'
    have l := LikeL.cons (K := K) (H := H) (like_str "spent" 2) .nil
    exact LikeV.tup h2 h2' l.1 l.2
  | .untrue kd p k, v, v', ⟨t, vp, h1, h2, h3⟩, ⟨t', vp', h1', h2', h3'⟩ => by
    subst h1 h1'
    have hd : (pathD p).depth ≤ 2 := by
      unfold pathD D.depth
      have := depth_ints p
      omega
    have l := LikeL.cons (like_str "untrue" 2) (.cons (like_str fn 2) (.cons (like_str kd 2) (.cons (held_like (K := K) hd h3 h3') (.cons (like_int (k : Int) 2) .nil))))
    exact LikeV.tup h2 h2' l.1 l.2
end LW
set_option Elab.async false
set_option linter.all false
set_option maxRecDepth 100000
set_option maxHeartbeats 2000000
namespace LW
open PySem L2
abbrev sLaw : Stmt := top 45
def spLaw (K : PySem.W.Frag) : Sp := fun vs H Q _ => ∃ (a : Addr) (ns : List Int), vs = [.ref a] ∧ SqL K H a (ns.map V.int) ∧ ns.length ≤ 63 ∧ ∀ H', Q (.bl true) H'
theorem four {α : Type} {kind : Int} (h0 : 0 ≤ kind) (h1 : kind < 4) (a b c d : α) : ∃ x, atI [a, b, c, d] kind = some x ∧ ((kind = 0 ∧ x = a) ∨ (kind = 1 ∧ x = b) ∨ (kind = 2 ∧ x = c) ∨ (kind = 3 ∧ x = d)) := by
  have : kind = 0 ∨ kind = 1 ∨ kind = 2 ∨ kind = 3 := by omega
  rcases this with rfl | rfl | rfl | rfl
  · exact ⟨a, rfl, .inl ⟨rfl, rfl⟩⟩
  · exact ⟨b, rfl, .inr (.inl ⟨rfl, rfl⟩)⟩
  · exact ⟨c, rfl, .inr (.inr (.inl ⟨rfl, rfl⟩))⟩
  · exact ⟨d, rfl, .inr (.inr (.inr ⟨rfl, rfl⟩))⟩
theorem held_pair {H : Hp} {i j : Int} {v : V} (h : Held H (.tup [.int i, .int j]) v) : ∃ t, v = .ref t ∧ H t = some (.tup [.int i, .int j]) := by
  obtain ⟨t, xs, rfl, ht, h1⟩ := held_tup_inv h
  obtain ⟨v1, r1, rfl, e1, h2⟩ := heldL_cons_inv h1
  obtain ⟨v2, r2, rfl, e2, h3⟩ := heldL_cons_inv h2
  cases heldL_nil_inv h3
  cases held_int_inv e1
  cases held_int_inv e2
  exact ⟨t, rfl, ht⟩
theorem three {kind : Int} (h0 : 0 ≤ kind) (h1 : kind < 3) (a b c : Int) : ∃ x, atI [V.int a, V.int b, V.int c] kind = some (.int x) ∧ (x = a ∨ x = b ∨ x = c) := by
  have : kind = 0 ∨ kind = 1 ∨ kind = 2 := by omega
  rcases this with rfl | rfl | rfl
  · exact ⟨a, rfl, .inl rfl⟩
  · exact ⟨b, rfl, .inr (.inl rfl)⟩
  · exact ⟨c, rfl, .inr (.inr rfl)⟩
theorem prog_inv {H : Hp} {f n t a b c i x : Str} {near way : Int} {ks : List D} {v : V} (h : Held H (progD f n t a b c i x near ks way) v) : ∃ (pg pr pt e3 e4 e5 : Addr) (vb : V), v = .ref pg ∧ H pg = some (.tup [.ref pr]) ∧ H pr = some (.tup [.str "proc", .str f, .ref pt, .ref e3, .ref e4, .ref e5, vb]) ∧ H pt = some (.tup ([n, t, a, b].map V.str)) ∧ H e3 = some (.tup []) ∧ H e4 = some (.tup []) ∧ H e5 = some (.tup []) ∧ Held H (.tup (bodyD n t c i x near ks way)) vb := by
  obtain ⟨pg, xs, rfl, hpg, h1⟩ := held_tup_inv h
  obtain ⟨v1, r1, rfl, e1, h2⟩ := heldL_cons_inv h1
  cases heldL_nil_inv h2
  obtain ⟨pr, ys, rfl, hpr, g1⟩ := held_tup_inv e1
  obtain ⟨w1, q1, rfl, f1, g2⟩ := heldL_cons_inv g1
  obtain ⟨w2, q2, rfl, f2, g3⟩ := heldL_cons_inv g2
  obtain ⟨w3, q3, rfl, f3, g4⟩ := heldL_cons_inv g3
  obtain ⟨w4, q4, rfl, f4, g5⟩ := heldL_cons_inv g4
  obtain ⟨w5, q5, rfl, f5, g6⟩ := heldL_cons_inv g5
  obtain ⟨w6, q6, rfl, f6, g7⟩ := heldL_cons_inv g6
  obtain ⟨w7, q7, rfl, f7, g8⟩ := heldL_cons_inv g7
  cases heldL_nil_inv g8
  cases held_str_inv f1
  cases held_str_inv f2
  obtain ⟨pt, zs, rfl, hpt, k1⟩ := held_tup_inv f3
  obtain ⟨z1, y1, rfl, j1, k2⟩ := heldL_cons_inv k1
  obtain ⟨z2, y2, rfl, j2, k3⟩ := heldL_cons_inv k2
  obtain ⟨z3, y3, rfl, j3, k4⟩ := heldL_cons_inv k3
  obtain ⟨z4, y4, rfl, j4, k5⟩ := heldL_cons_inv k4
  cases heldL_nil_inv k5
  cases held_str_inv j1
  cases held_str_inv j2
  cases held_str_inv j3
  cases held_str_inv j4
  obtain ⟨e3, l3, rfl, he3, m3⟩ := held_tup_inv f4
  cases heldL_nil_inv m3
  obtain ⟨e4, l4, rfl, he4, m4⟩ := held_tup_inv f5
  cases heldL_nil_inv m4
  obtain ⟨e5, l5, rfl, he5, m5⟩ := held_tup_inv f6
  cases heldL_nil_inv m5
  exact ⟨pg, pr, pt, e3, e4, e5, w7, rfl, hpg, hpr, hpt, he3, he4, he5, f7⟩
theorem len8 {ws : List Str} (h : ws.length = 8) : ∃ a b c d e f g i, ws = [a, b, c, d, e, f, g, i] := by
  match ws, h with
  | [a, b, c, d, e, f, g, i], _ => exact ⟨a, b, c, d, e, f, g, i, rfl⟩
theorem ok_names {fn wn wt wa wb wc wi wx : Str} (W : WordsOk [fn, wn, wt, wa, wb, wc, wi, wx] 8) : Nm.Ok ⟨wn, wt, wa, wb, wc, wi, wx⟩ := by
  have nd := W.nd
  simp only [List.nodup_cons, List.mem_cons, List.mem_nil_iff, or_false, not_or, List.nodup_nil, and_true, not_false_eq_true] at nd
  obtain ⟨_, ⟨n1, n2, n3, n4, n5, n6⟩, ⟨t1, t2, t3, t4, t5⟩, ⟨a1, a2, a3, a4⟩, ⟨b1, b2, b3⟩, ⟨c1, c2⟩, i1⟩ := nd
  exact ⟨W.ne wc (by simp), W.ne wi (by simp), W.ne wx (by simp), n4, t3, a2, b1, Ne.symm c1, Ne.symm c2, n5, t4, a3, b2, Ne.symm i1, n6, t5, a4, b3⟩
theorem nums4 {fn wn wt wa wb wc wi wx : Str} (W : WordsOk [fn, wn, wt, wa, wb, wc, wi, wx] 8) {x y z u : Int} : numA ([wn, wt, wa, wb].zip [x, y, z, u]) wn = x ∧ numA ([wn, wt, wa, wb].zip [x, y, z, u]) wt = y ∧ numA ([wn, wt, wa, wb].zip [x, y, z, u]) wa = z ∧ numA ([wn, wt, wa, wb].zip [x, y, z, u]) wb = u := by
  have nd := W.nd
  simp only [List.nodup_cons, List.mem_cons, List.mem_nil_iff, or_false, not_or, List.nodup_nil, and_true, not_false_eq_true] at nd
  obtain ⟨_, ⟨n1, n2, n3, n4, n5, n6⟩, ⟨t1, t2, t3, t4, t5⟩, ⟨a1, a2, a3, a4⟩, ⟨b1, b2, b3⟩, ⟨c1, c2⟩, i1⟩ := nd
  have z1 := W.ne wn (by simp)
  have z2 := W.ne wt (by simp)
  have z3 := W.ne wa (by simp)
  have z4 := W.ne wb (by simp)
  unfold numA lkA
  rw [if_neg z1, if_neg z2, if_neg z3, if_neg z4]
  simp [List.find?, n1, n2, n3, t1, t2, a1]
section
variable {P : Program} {w : World} {K : PySem.W.Frag} {mg : Str → Option Value} {base : Heap}
theorem ok_law {f : Addr} {fd : FuncData} (F : Fun K "law" "law" sLaw f fd) (B : Free0 mg) (F_cell_at : Fn P w K mg base 1 "_law_cell_at" ["_law_script", "_law_k"] (spCell K)) (F_words : Fn P w K mg base 1 "_law_words" ["_law_cell", "_law_many"] spWords)
    (F_program : Fn P w K mg base 1 "_law_program" ["_law_w", "_law_near", "_law_keeps", "_law_way"] spProgram) (F_due : Fn P w K mg base 1 "_law_due" ["_law_f", "_law_rounds", "_law_times", "_law_comings", "_law_totals", "_law_places", "_law_way", "_law_near"] spDue) (F_run : Fn P w K mg base 14 "run" ["program", "f", "numbers", "rows", "inputs", "most"] (spRun 4)) : FnOk P w K mg base CX0 15 f fd ["_law_script"] (spLaw K) := by
  have sc : FnScope ["_law_script", "_law_w", "_law_near", "_law_rounds", "_law_times", "_law_comings", "_law_totals", "_law_way", "_law_coming", "_law_total", "_law_kind", "_law_never", "_law_keeps", "_law_places", "_law_due_here", "_law_end", "_law_used", "_law_most", "_law_given", "_law_found"] ["_law_script"] (defScope sLaw) := ⟨rfl, rfl, rfl, by decide +kernel, rfl, by decide +kernel, by decide +kernel⟩
  refine F.okZ sc (fun vs H Q E h => ?_) (fun cdv A outer s H vs Q E hr h => ?_)
  · obtain ⟨a, ns, rfl, _⟩ := h
    rfl
  obtain ⟨a, ns, rfl, hS, hln, q⟩ := h
  have hu := hu_of hr
  have hu4 : (A.deeper (PyProof.Rows.envOfC "law" (defScope sLaw) s.heap.objs.size f cdv)).units + 1 + 3 < cLine := by have := hr.units; omega
  refine ⟨_, (zpss_cons (zps_set (i := 1) sc.nd rfl (by first | exact Or.inl rfl | exact Or.inr rfl) (zpe_fn F_words hr (zpa_c (zpe_fn F_cell_at hr (zpa_c (zpv 0) (zpa_c zpe_int zpa_nil))) (zpa_c zpe_int zpa_nil))))
      (zpss_cons (zps_set (i := 2) sc.nd rfl (by first | exact Or.inl rfl | exact Or.inr rfl) (zpe_op op_sub (zpe_op op_mod (zpe_op op_mul (zpe_fn F_cell_at hr (zpa_c (zpv 0) (zpa_c zpe_int zpa_nil))) zpe_int) (zpe_op op_mul zpe_int (zpe_op op_pow zpe_int zpe_int))) (zpe_op op_pow zpe_int zpe_int)))
      (zpss_cons (zps_set (i := 3) sc.nd rfl (by first | exact Or.inl rfl | exact Or.inr rfl) (zpe_op op_mod (zpe_fn F_cell_at hr (zpa_c (zpv 0) (zpa_c zpe_int zpa_nil))) zpe_int))
      (zpss_cons (zps_set (i := 4) sc.nd rfl (by first | exact Or.inl rfl | exact Or.inr rfl) (zpe_op op_mod (zpe_fn F_cell_at hr (zpa_c (zpv 0) (zpa_c zpe_int zpa_nil))) zpe_int))
      (zpss_cons (zps_set (i := 5) sc.nd rfl (by first | exact Or.inl rfl | exact Or.inr rfl) (zpe_op op_mod (zpe_fn F_cell_at hr (zpa_c (zpv 0) (zpa_c zpe_int zpa_nil))) zpe_int))
      (zpss_cons (zps_set (i := 6) sc.nd rfl (by first | exact Or.inl rfl | exact Or.inr rfl) (zpe_op op_add zpe_int (zpe_op op_mod (zpe_fn F_cell_at hr (zpa_c (zpv 0) (zpa_c zpe_int zpa_nil))) zpe_int)))
      (zpss_cons (zps_set (i := 7) sc.nd rfl (by first | exact Or.inl rfl | exact Or.inr rfl) (zpe_op op_mod (zpe_fn F_cell_at hr (zpa_c (zpv 0) (zpa_c zpe_int zpa_nil))) zpe_int))
      (zpss_cons (zps_set (i := 8) sc.nd rfl (by first | exact Or.inl rfl | exact Or.inr rfl) (zpd (pd_tup (pds_cons pd_str (pds_cons (pd_tup (pds_cons pd_str (pds_cons (zpd_of (zpe_ix ix_list (zpv 1) zpe_int (fun _ _ => rfl))) pds_nil))) (pds_cons (pd_tup (pds_cons pd_str (pds_cons (zpd_of (zpe_ix ix_list (zpv 1) zpe_int (fun _ _ => rfl))) pds_nil))) (pds_cons pd_int pds_nil)))))))
      (zpss_cons (zps_set (i := 9) sc.nd rfl (by first | exact Or.inl rfl | exact Or.inr rfl) (zpd (pd_tup (pds_cons pd_str (pds_cons (pd_tup (pds_cons pd_str (pds_cons (zpd_of (zpe_ix ix_list (zpv 1) zpe_int (fun _ _ => rfl))) pds_nil))) (pds_cons (pd_tup (pds_cons pd_str (pds_cons (zpd_of (zpe_ix ix_list (zpv 1) zpe_int (fun _ _ => rfl))) pds_nil))) (pds_cons pd_int pds_nil)))))))
      (zpss_cons (zps_set (i := 10) sc.nd rfl (by first | exact Or.inl rfl | exact Or.inr rfl) (zpe_op op_mod (zpe_fn F_cell_at hr (zpa_c (zpv 0) (zpa_c zpe_int zpa_nil))) zpe_int))
      (zpss_cons (zps_set (i := 11) sc.nd rfl (by first | exact Or.inl rfl | exact Or.inr rfl) (zpd (pd_tup (pds_cons pd_str (pds_cons (pd_tup (pds_cons pd_str (pds_cons (zpd_of (zpe_ix ix_list (zpv 1) zpe_int (fun _ _ => rfl))) pds_nil))) (pds_cons (pd_tup (pds_cons pd_str (pds_cons (zpd_of (zpe_ix ix_list (zpv 1) zpe_int (fun _ _ => rfl))) pds_nil))) (pds_cons pd_int pds_nil)))))))
      (zpss_cons (zps_set (i := 12) sc.nd rfl (by first | exact Or.inl rfl | exact Or.inr rfl) (zpe_ix ix_list (zpe_lst (zpa_c (zpd (pd_tup (pds_cons (pd_var 8) (pds_cons (pd_var 9) pds_nil)))) (zpa_c (zpd (pd_tup (pds_cons (pd_var 9) (pds_cons (pd_var 8) (pds_cons (pd_var 8) pds_nil))))) (zpa_c (zpd (pd_tup (pds_cons (pd_var 8) (pds_cons (pd_var 8) pds_nil)))) (zpa_c (zpd (pd_tup (pds_cons (pd_var 11) (pds_cons (pd_var 8) pds_nil)))) zpa_nil))))) (zpv 10) (fun _ _ => rfl)))
      (zpss_cons (zps_set (i := 13) sc.nd rfl (by first | exact Or.inl rfl | exact Or.inr rfl) (zpe_ix ix_list (zpe_lst (zpa_c (zpd (pd_tup (pds_cons pd_int (pds_cons pd_int pds_nil)))) (zpa_c (zpd (pd_tup (pds_cons pd_int (pds_cons pd_int pds_nil)))) (zpa_c (zpd (pd_tup (pds_cons pd_int (pds_cons pd_int pds_nil)))) (zpa_c (zpd (pd_tup (pds_cons pd_int (pds_cons pd_int pds_nil)))) zpa_nil))))) (zpv 10) (fun _ _ => rfl)))
      (zpss_cons (zps_set (i := 14) sc.nd rfl (by first | exact Or.inl rfl | exact Or.inr rfl) (zpe_ix ix_list (zpe_lst (zpa_c (zpv 6) (zpa_c (zpv 6) (zpa_c zpe_non (zpa_c zpe_non zpa_nil))))) (zpv 10) (fun _ _ => rfl)))
      (zpss_cons (zps_asg (zpe_fn F_due hr (zpa_c (zpe_ix ix_list (zpv 1) zpe_int (fun _ _ => rfl)) (zpa_c (zpv 3) (zpa_c (zpv 4) (zpa_c (zpv 5) (zpa_c (zpv 14) (zpa_c (zpv 13) (zpa_c (zpv 7) (zpa_c (zpv 2) zpa_nil))))))))) (zpg_tup rfl (zpgs_cons (zpg_name (i := 15) sc.nd rfl (by first | exact Or.inl rfl | exact Or.inr rfl)) (zpgs_cons (zpg_name (i := 16) sc.nd rfl (by first | exact Or.inl rfl | exact Or.inr rfl)) zpgs_nil))))
      (zpss_cons (zps_set (i := 17) sc.nd rfl (by first | exact Or.inl rfl | exact Or.inr rfl) (zpe_ix ix_list (zpe_lst (zpa_c (zpv 16) (zpa_c (zpe_op op_add (zpv 16) zpe_int) (zpa_c zpe_int zpa_nil)))) (zpe_op op_mod (zpe_fn F_cell_at hr (zpa_c (zpv 0) (zpa_c zpe_int zpa_nil))) zpe_int) (fun _ _ => rfl)))
      (zpss_cons (zps_join (zps_if (zpt_cmpR op_eq (zpe_op op_mod (zpe_op op_fdivB (zpe_fn F_cell_at hr (zpa_c (zpv 0) (zpa_c zpe_int zpa_nil))) zpe_int) zpe_int) zpe_int (nomark _)) (zpss_one (zps_set (i := 17) sc.nd rfl (by first | exact Or.inl rfl | exact Or.inr rfl) (zpe_op op_mod (zpe_fn F_cell_at hr (zpa_c (zpv 0) (zpa_c zpe_int zpa_nil))) (zpv 16)))) zpss_nil))
      (zpss_cons (zps_join (zps_if (zpt_cmpR op_lt (zpv 17) (zpv 16) (nomark _)) (zpss_cons (zps_set (i := 15) sc.nd rfl (by first | exact Or.inl rfl | exact Or.inr rfl) (zpd (pd_tup (pds_cons pd_str pds_nil))))
      (zpss_one (zps_set (i := 16) sc.nd rfl (by first | exact Or.inl rfl | exact Or.inr rfl) (zpv 17)))) zpss_nil))
      (zpss_cons (zps_set (i := 18) sc.nd rfl (by first | exact Or.inl rfl | exact Or.inr rfl) (zpe_lst (zpa_c (zpe_op op_add (zpv 2) (zpv 3)) (zpa_c (zpe_op op_add (zpv 2) (zpv 4)) (zpa_c (zpe_op op_add (zpv 2) (zpv 5)) (zpa_c (zpe_op op_add (zpv 2) (zpv 6)) zpa_nil))))))
      (zpss_cons (zps_set (i := 19) sc.nd rfl (by first | exact Or.inl rfl | exact Or.inr rfl) (zpe_fn F_run hr (zpa_c (zpe_fn F_program hr (zpa_c (zpv 1) (zpa_c (zpv 2) (zpa_c (zpv 12) (zpa_c (zpv 7) zpa_nil))))) (zpa_c (zpe_ix ix_list (zpv 1) zpe_int (fun _ _ => rfl)) (zpa_c (zpv 18) (zpa_c (zpe_lst zpa_nil) (zpa_c (zpe_lst zpa_nil) (zpa_c (zpv 17) zpa_nil))))))))
      (zpss_one (zps_ret (zpe_and (zpe_cB call_isinst (by rfl) B.isinstance_ bt_isinstance (zpa_c (zpv 19) (zpa_c (zpe_bltn (v := .ty "tuple") (by rfl) B.tuple_ bt_tuple (by rfl)) zpa_nil))) (zpe_one (zpe_cmpR (op_eqLk 3 hu4) (zpv 19) (zpe_tup (zpa_c (zpv 15) (zpa_c (zpv 16) zpa_nil))) (nomark _)))))))))))))))))))))))))), ?_⟩
  refine st_st (σ' := [some (.ref a), none, none, none, none, none, none, none, none, none, none, none, none, none, none, none, none, none, none, none]) rfl ?_
  refine ⟨_, rfl, a, ns, 0, rfl, hS, by decide, by decide, fun c0 => ⟨c0, 8, rfl, by decide, fun lw ws H1 W s1 hlw0 hlw => ?_⟩⟩
  refine g_st (by simp only [List.set_cons_succ, List.set_cons_zero]; rfl) ?_
  obtain ⟨fn, wn, wt, wa, wb, wc, wi, wx, rfl⟩ := len8 W.len
  have hS1 := Same.seq s1 hS
  refine ⟨_, rfl, a, ns, 0, rfl, hS1, by decide, by decide, fun c1 => ?_⟩
  refine ⟨_, _, rfl, rfl, .inr ⟨by decide, by decide⟩, _, _, rfl, rfl, ⟨by decide, by decide, by decide⟩, _, _, rfl, rfl, .inl ⟨by decide, by decide⟩, _, _, rfl, rfl, (by show (0 : Int) < _; decide), _, _, rfl, rfl, ⟨by decide, by decide, by decide⟩, _, _, rfl, rfl, ?_⟩
  dsimp only
  generalize c1 * 998244353 % (2 * 10 ^ Int.toNat 17) - 10 ^ Int.toNat 17 = near
  refine g_st (by simp only [List.set_cons_succ, List.set_cons_zero]; rfl) ?_
  have md : ∀ (x : Int) (m : Int), 0 < m → 0 ≤ x % m ∧ x % m < m := fun x m h => ⟨Int.emod_nonneg _ (by omega), Int.emod_lt_of_pos _ h⟩
  refine ⟨_, rfl, a, ns, 1, rfl, hS1, by decide, by decide, fun c2 => ⟨_, _, rfl, rfl, (by show (0 : Int) < _; decide), ?_⟩⟩
  dsimp only
  refine g_st (by simp only [List.set_cons_succ, List.set_cons_zero]; rfl) ?_
  refine ⟨_, rfl, a, ns, 2, rfl, hS1, by decide, by decide, fun c3 => ⟨_, _, rfl, rfl, (by show (0 : Int) < _; decide), ?_⟩⟩
  dsimp only
  refine g_st (by simp only [List.set_cons_succ, List.set_cons_zero]; rfl) ?_
  refine ⟨_, rfl, a, ns, 3, rfl, hS1, by decide, by decide, fun c4 => ⟨_, _, rfl, rfl, (by show (0 : Int) < _; decide), ?_⟩⟩
  dsimp only
  refine g_st (by simp only [List.set_cons_succ, List.set_cons_zero]; rfl) ?_
  refine ⟨_, rfl, a, ns, 4, rfl, hS1, by decide, by decide, fun c5 => ⟨_, _, rfl, rfl, (by show (0 : Int) < _; decide), _, _, rfl, rfl, ?_⟩⟩
  dsimp only
  refine g_st (by simp only [List.set_cons_succ, List.set_cons_zero]; rfl) ?_
  refine ⟨_, rfl, a, ns, 5, rfl, hS1, by decide, by decide, fun c6 => ⟨_, _, rfl, rfl, (by show (0 : Int) < _; decide), ?_⟩⟩
  dsimp only
  refine g_st (by simp only [List.set_cons_succ, List.set_cons_zero]; rfl) ?_
  obtain ⟨R, eR, hR⟩ : ∃ R : Nat, c2 % 5 = R ∧ R ≤ 4 := ⟨(c2 % 5).toNat, by have := md c2 5 (by decide); omega, by have := md c2 5 (by decide); omega⟩
  obtain ⟨T, eT, hT⟩ : ∃ R : Nat, c3 % 5 = R ∧ R ≤ 4 := ⟨(c3 % 5).toNat, by have := md c3 5 (by decide); omega, by have := md c3 5 (by decide); omega⟩
  obtain ⟨An, eA, hA⟩ : ∃ R : Nat, c4 % 6 = R ∧ R ≤ 5 := ⟨(c4 % 6).toNat, by have := md c4 6 (by decide); omega, by have := md c4 6 (by decide); omega⟩
  obtain ⟨Bn, eB, hB1, hB⟩ : ∃ R : Nat, 1 + c5 % 20 = R ∧ 1 ≤ R ∧ R ≤ 20 := ⟨(1 + c5 % 20).toNat, by have := md c5 20 (by decide); omega, by have := md c5 20 (by decide); omega, by have := md c5 20 (by decide); omega⟩
  have hw := md c6 3 (by decide)
  rw [eR, eT, eA, eB]
  generalize c6 % 3 = way at *
  refine ⟨lcD (wa, wc, 1), ⟨_, rfl, Nat.le_of_ble_eq_true rfl, _, _, rfl, rfl, _, _, rfl, ⟨_, rfl, Nat.le_of_ble_eq_true rfl, _, _, rfl, rfl, _, _, rfl, (fun G sG Q q => ⟨_, rfl, lw, _, _, _, rfl, rfl, SqL.of (sG _ _ hlw), rfl, q _ G (same_refl G) held_str⟩), rfl⟩, _, _, rfl, ⟨_, rfl, Nat.le_of_ble_eq_true rfl, _, _, rfl, rfl, _, _, rfl, (fun G sG Q q => ⟨_, rfl, lw, _, _, _, rfl, rfl, SqL.of (sG _ _ hlw), rfl, q _ G (same_refl G) held_str⟩), rfl⟩, _, _, rfl, rfl, rfl⟩, fun v8 H2 s2 h8 => ?_⟩
  refine g_st (by simp only [List.set_cons_succ, List.set_cons_zero]; rfl) ?_
  have hlw2 := s2 _ _ hlw
  refine ⟨lcD (wb, wx, 1), ⟨_, rfl, Nat.le_of_ble_eq_true rfl, _, _, rfl, rfl, _, _, rfl, ⟨_, rfl, Nat.le_of_ble_eq_true rfl, _, _, rfl, rfl, _, _, rfl, (fun G sG Q q => ⟨_, rfl, lw, _, _, _, rfl, rfl, SqL.of (sG _ _ hlw2), rfl, q _ G (same_refl G) held_str⟩), rfl⟩, _, _, rfl, ⟨_, rfl, Nat.le_of_ble_eq_true rfl, _, _, rfl, rfl, _, _, rfl, (fun G sG Q q => ⟨_, rfl, lw, _, _, _, rfl, rfl, SqL.of (sG _ _ hlw2), rfl, q _ G (same_refl G) held_str⟩), rfl⟩, _, _, rfl, rfl, rfl⟩, fun v9 H3 s3 h9 => ?_⟩
  refine g_st (by simp only [List.set_cons_succ, List.set_cons_zero]; rfl) ?_
  have hlw3 := s3 _ _ hlw2
  have hS3 := Same.seq s3 (Same.seq s2 hS1)
  refine ⟨_, rfl, a, ns, 6, rfl, hS3, by decide, by decide, fun c7 => ⟨_, _, rfl, rfl, (by show (0 : Int) < _; decide), ?_⟩⟩
  have hkd := md c7 4 (by decide)
  dsimp only
  generalize c7 % 4 = kind at *
  refine g_st (by simp only [List.set_cons_succ, List.set_cons_zero]; rfl) ?_
  refine ⟨lcD (wn, wi, 0), ⟨_, rfl, Nat.le_of_ble_eq_true rfl, _, _, rfl, rfl, _, _, rfl, ⟨_, rfl, Nat.le_of_ble_eq_true rfl, _, _, rfl, rfl, _, _, rfl, (fun G sG Q q => ⟨_, rfl, lw, _, _, _, rfl, rfl, SqL.of (sG _ _ hlw3), rfl, q _ G (same_refl G) held_str⟩), rfl⟩, _, _, rfl, ⟨_, rfl, Nat.le_of_ble_eq_true rfl, _, _, rfl, rfl, _, _, rfl, (fun G sG Q q => ⟨_, rfl, lw, _, _, _, rfl, rfl, SqL.of (sG _ _ hlw3), rfl, q _ G (same_refl G) held_str⟩), rfl⟩, _, _, rfl, rfl, rfl⟩, fun v11 H4 s4 h11 => ?_⟩
  refine g_st (by simp only [List.set_cons_succ, List.set_cons_zero]; rfl) ?_
  have hlw4 := s4 _ _ hlw3
  have h84 := (h8.mono s3).mono s4
  have h94 := h9.mono s4
  let wv : Nm := ⟨wn, wt, wa, wb, wc, wi, wx⟩
  refine ⟨.tup [lcD (wa, wc, 1), lcD (wb, wx, 1)], ⟨_, rfl, Nat.le_of_ble_eq_true rfl, _, _, rfl, ⟨_, rfl, h84⟩, _, _, rfl, ⟨_, rfl, h94⟩, rfl⟩, fun u1 G1 t1 g1 => ?_⟩
  refine ⟨.tup [lcD (wb, wx, 1), lcD (wa, wc, 1), lcD (wa, wc, 1)], ⟨_, rfl, Nat.le_of_ble_eq_true rfl, _, _, rfl, ⟨_, rfl, (h94.mono t1)⟩, _, _, rfl, ⟨_, rfl, (h84.mono t1)⟩, _, _, rfl, ⟨_, rfl, (h84.mono t1)⟩, rfl⟩, fun u2 G2 t2 g2 => ?_⟩
  have t02 := t1.trans t2
  refine ⟨.tup [lcD (wa, wc, 1), lcD (wa, wc, 1)], ⟨_, rfl, Nat.le_of_ble_eq_true rfl, _, _, rfl, ⟨_, rfl, (h84.mono t02)⟩, _, _, rfl, ⟨_, rfl, (h84.mono t02)⟩, rfl⟩, fun u3 G3 t3 g3 => ?_⟩
  have t03 := t02.trans t3
  refine ⟨.tup [lcD (wn, wi, 0), lcD (wa, wc, 1)], ⟨_, rfl, Nat.le_of_ble_eq_true rfl, _, _, rfl, ⟨_, rfl, (h11.mono t03)⟩, _, _, rfl, ⟨_, rfl, (h84.mono t03)⟩, rfl⟩, fun u4 G4 t4 g4 => ⟨sm rfl, fun l hl => ?_⟩⟩
  obtain ⟨vk, hat, hvk⟩ := four hkd.1 hkd.2 u1 u2 u3 u4
  have s5 : Same H1 (upd G4 l (.lst [u1, u2, u3, u4])) := s2.trans (s3.trans (s4.trans (t03.trans (t4.trans (same_put hl _)))))
  have hks : Held (upd G4 l (.lst [u1, u2, u3, u4])) (.tup ((ksOf wv kind).map lcD)) vk := by
    have g := same_put hl (.lst [u1, u2, u3, u4])
    rcases hvk with ⟨rfl, rfl⟩ | ⟨rfl, rfl⟩ | ⟨rfl, rfl⟩ | ⟨rfl, rfl⟩
    · exact (((g1.mono t2).mono t3).mono t4).mono g
    · exact ((g2.mono t3).mono t4).mono g
    · exact (g3.mono t4).mono g
    · exact g4.mono g
  have el : upd G4 l (.lst [u1, u2, u3, u4]) l = some (.lst [u1, u2, u3, u4]) := upd_same
  generalize upd G4 l (.lst [u1, u2, u3, u4]) = H5 at *
  refine ⟨_, rfl, l, _, _, _, rfl, rfl, SqL.of el, hat, ?_⟩
  refine g_st (by simp only [List.set_cons_succ, List.set_cons_zero]; rfl) ?_
  clear hat hvk el g1 g2 g3 g4 t1 t2 t3 t4 t02 t03 hl h84 h94 h8 h9 h11 s2 s3 s4 hlw2 hlw3 hlw4 hS3
  refine ⟨.tup [.int 0, .int 1], ⟨_, rfl, Nat.le_of_ble_eq_true rfl, _, _, rfl, rfl, _, _, rfl, rfl, rfl⟩, fun u1 G1 t1 g1 => ⟨.tup [.int 1, .int 0], ⟨_, rfl, Nat.le_of_ble_eq_true rfl, _, _, rfl, rfl, _, _, rfl, rfl, rfl⟩, fun u2 G2 t2 g2 => ⟨.tup [.int 0, .int 0], ⟨_, rfl, Nat.le_of_ble_eq_true rfl, _, _, rfl, rfl, _, _, rfl, rfl, rfl⟩, fun u3 G3 t3 g3 => ⟨.tup [.int 1, .int 0], ⟨_, rfl, Nat.le_of_ble_eq_true rfl, _, _, rfl, rfl, _, _, rfl, rfl, rfl⟩, fun u4 G4 t4 g4 => ⟨sm rfl, fun l hl => ?_⟩⟩⟩⟩⟩
  obtain ⟨vpl, hat, hvk⟩ := four hkd.1 hkd.2 u1 u2 u3 u4
  have s6 : Same H5 (upd G4 l (.lst [u1, u2, u3, u4])) := t1.trans (t2.trans (t3.trans (t4.trans (same_put hl _))))
  have hpl : ∃ pl, vpl = .ref pl ∧ upd G4 l (.lst [u1, u2, u3, u4]) pl = some (.tup [.int (peOf kind), .int (pkOf kind)]) := by
    have g := same_put hl (.lst [u1, u2, u3, u4])
    apply held_pair
    rcases hvk with ⟨rfl, rfl⟩ | ⟨rfl, rfl⟩ | ⟨rfl, rfl⟩ | ⟨rfl, rfl⟩
    · exact (((g1.mono t2).mono t3).mono t4).mono g
    · exact ((g2.mono t3).mono t4).mono g
    · exact (g3.mono t4).mono g
    · exact g4.mono g
  have el : upd G4 l (.lst [u1, u2, u3, u4]) l = some (.lst [u1, u2, u3, u4]) := upd_same
  generalize upd G4 l (.lst [u1, u2, u3, u4]) = H6 at *
  refine ⟨_, rfl, l, _, _, _, rfl, rfl, SqL.of el, hat, ?_⟩
  refine g_st (by simp only [List.set_cons_succ, List.set_cons_zero]; rfl) ?_
  clear hat hvk el g1 g2 g3 g4 t1 t2 t3 t4 hl
  obtain ⟨pl, rfl, hpl⟩ := hpl
  refine ⟨_, rfl, _, rfl, sm rfl, fun l hl => ?_⟩
  obtain ⟨vo, hat, hvk⟩ := four hkd.1 hkd.2 (V.int Bn) (V.int Bn) V.non V.non
  have s7 := same_put hl (.lst [V.int Bn, V.int Bn, V.non, V.non])
  have el : upd H6 l (.lst [V.int Bn, V.int Bn, V.non, V.non]) l = some (.lst [V.int Bn, V.int Bn, V.non, V.non]) := upd_same
  generalize upd H6 l (.lst [V.int Bn, V.int Bn, V.non, V.non]) = H7 at *
  refine ⟨_, rfl, l, _, _, _, rfl, rfl, SqL.of el, hat, ?_⟩
  refine g_st (by simp only [List.set_cons_succ, List.set_cons_zero]; rfl) ?_
  have ho : ∃ o : Option Nat, vo = totV o ∧ ((o = none ∧ ¬ kind ≤ 1) ∨ (o = some Bn ∧ kind ≤ 1)) := by
    rcases hvk with ⟨rfl, rfl⟩ | ⟨rfl, rfl⟩ | ⟨rfl, rfl⟩ | ⟨rfl, rfl⟩
    · exact ⟨some Bn, rfl, .inr ⟨rfl, by decide⟩⟩
    · exact ⟨some Bn, rfl, .inr ⟨rfl, by decide⟩⟩
    · exact ⟨none, rfl, .inl ⟨rfl, by decide⟩⟩
    · exact ⟨none, rfl, .inl ⟨rfl, by decide⟩⟩
  obtain ⟨o, rfl, ho⟩ := ho
  clear hat hvk el hl
  have s17 := s5.trans (s6.trans s7)
  have hlw7 := s17 _ _ hlw
  refine ⟨_, rfl, lw, _, _, _, rfl, rfl, SqL.of hlw7, rfl, _, rfl, _, rfl, _, rfl, _, rfl, _, rfl, _, rfl, _, rfl, ?_⟩
  refine ⟨fn, R, T, An, o, Bn, kind ≤ 1, pl, peOf kind, pkOf kind, way, near, rfl, ho, by omega, by omega, by omega, by omega, by omega, s7 _ _ hpl, by omega, by omega, fun t v15 H8 s8 hE ht => ?_⟩
  refine ⟨t, _, rfl, SqT.of ht, rfl, _, _, rfl, ?_⟩
  refine g_st (by simp only [List.set_cons_succ, List.set_cons_zero]; rfl) ?_
  refine ⟨_, _, rfl, ?_⟩
  refine g_st (by simp only [List.set_cons_succ, List.set_cons_zero]; rfl) ?_
  refine ⟨rfl, ?_⟩
  have ok : wv.Ok := ok_names W
  have hrun := whole_run ok (outer_all3 (ks := ksOf wv kind) (near := near) (w := wv) hw.1 (by omega)) (inner_all3 hw.1 (by omega)) (says_all (w := wv) (near := near) (R := R) (T := T) (A := An) (B := Bn) hkd.1 (by omega)) (by omega) (N := [wn, wt, wa, wb].zip [near + (R : Int), near + (T : Int), near + (An : Int), near + (Bn : Int)]) (nums4 W).1 (nums4 W).2.1 (nums4 W).2.2.1 (nums4 W).2.2.2
  have hbd := due_bound (near := near) (R := R) (T := T) (A := An) (B := Bn) (dl := dlOf way) (path := pathOf way) (tot := kind ≤ 1) (pe := peOf kind) (pk := pkOf kind) hR hT hA hB (by unfold dlOf; split <;> decide)
  generalize dueOf near R T An Bn (dlOf way) (pathOf way) (kind ≤ 1) (peOf kind) (pkOf kind) = due at *
  obtain ⟨e1, u1⟩ := due
  dsimp only at hE ht hbd ⊢
  have s18 := s17.trans s8
  have hS8 := Same.seq s18 hS1
  refine ⟨_, rfl, _, rfl, _, _, rfl, rfl, sm rfl, fun l hl => ⟨_, rfl, a, ns, 7, rfl, Same.seq (same_put hl _) hS8, by decide, by decide, fun c8 => ⟨_, _, rfl, rfl, (by show (0 : Int) < _; decide), ?_⟩⟩⟩
  have h8m := md c8 3 (by decide)
  obtain ⟨m0, hat, hm0⟩ := three h8m.1 h8m.2 (u1 : Int) ((u1 : Int) + 1) 2000
  refine ⟨l, _, _, _, rfl, rfl, SqL.of upd_same, hat, ?_⟩
  refine g_st (by simp only [List.set_cons_succ, List.set_cons_zero]; rfl) ?_
  have s79 := s8.trans (same_put hl (.lst [V.int u1, V.int ((u1 : Int) + 1), V.int 2000]))
  have s9 := s18.trans (same_put hl (.lst [V.int u1, V.int ((u1 : Int) + 1), V.int 2000]))
  have hE9 := hE.mono (same_put hl (.lst [V.int u1, V.int ((u1 : Int) + 1), V.int 2000]))
  generalize upd H8 l (.lst [V.int u1, V.int ((u1 : Int) + 1), V.int 2000]) = H9 at *
  clear hat hl
  refine ⟨fun σ' G => ∃ m : Nat, σ' = [some (.ref a), some (.ref lw), some (.int near), some (.int R), some (.int T), some (.int An), some (.int Bn), some (.int way), some v8, some v9, some (.int kind), some v11, some vk, some (.ref pl), some (totV o), some v15, some (.int u1), some (.int m), none, none] ∧ G = H9, ?_, ?_⟩
  · refine ⟨_, rfl, a, ns, 7, rfl, Same.seq s9 hS1, by decide, by decide, fun c9 => ⟨_, _, rfl, rfl, ⟨by decide, by decide⟩, _, _, rfl, rfl, (by show (0 : Int) < _; decide), rfl, _, rfl, ite2 (fun d => ?_) (fun d => ?_)⟩⟩
    · refine ⟨_, rfl, a, ns, 8, rfl, Same.seq s9 hS1, by decide, by decide, fun c10 => ⟨_, rfl, _, _, rfl, rfl, (by show (0 : Int) < (u1 : Int); omega), ?_⟩⟩
      dsimp only
      have hm := md c10 (u1 : Int) (by omega)
      refine g_st (by simp only [List.set_cons_succ, List.set_cons_zero]; rfl) ?_
      refine ⟨(c10 % (u1 : Int)).toNat, ?_, rfl⟩
      rw [show (((c10 % (u1 : Int)).toNat : Nat) : Int) = c10 % (u1 : Int) by omega]
    · refine ⟨m0.toNat, ?_, rfl⟩
      rw [show ((m0.toNat : Nat) : Int) = m0 by omega]
  rintro σ' G ⟨m, rfl, rfl⟩
  refine ⟨fun σ' G => ∃ (e2 : En) (u2 : Nat) (v2 : V), σ' = [some (.ref a), some (.ref lw), some (.int near), some (.int R), some (.int T), some (.int An), some (.int Bn), some (.int way), some v8, some v9, some (.int kind), some v11, some vk, some (.ref pl), some (totV o), some v2, some (.int u2), some (.int m), none, none] ∧ Same H7 G ∧ EndAt G fn e2 v2 ∧ u2 ≤ 800 ∧ RunsTo (sxW wv near (ksOf wv kind) way) (m : Int) ⟨[wn, wt, wa, wb].zip [near + (R : Int), near + (T : Int), near + (An : Int), near + (Bn : Int)], 0, 0⟩ (e2, u2), ?_, ?_⟩
  · obtain ⟨kk, hk⟩ := hrun
    have hlim := runs_limit (most := m) hk (Nat.zero_le _)
    refine ⟨_, rfl, _, rfl, _, _, rfl, rfl, _, rfl, ite2 (fun d => ?_) (fun d => ?_)⟩
    · have d' : m < u1 := by have := of_decide_eq_true d; omega
      refine ⟨.tup [.str "spent"], ⟨_, rfl, Nat.le_of_ble_eq_true rfl, _, _, rfl, rfl, rfl⟩, fun vv G sG hv => ?_⟩
      refine g_st (by simp only [List.set_cons_succ, List.set_cons_zero]; rfl) ?_
      refine ⟨_, rfl, ?_⟩
      refine g_st (by simp only [List.set_cons_succ, List.set_cons_zero]; rfl) ?_
      refine ⟨.spent, m, vv, rfl, s79.trans sG, ?_, by omega, hlim.2 d'⟩
      obtain ⟨t9, xs9, rfl, ht9, h9⟩ := held_tup_inv hv
      obtain ⟨x9, r9, rfl, f9, g9⟩ := heldL_cons_inv h9
      cases heldL_nil_inv g9
      cases held_str_inv f9
      exact ⟨t9, rfl, ht9⟩
    · have d' : u1 ≤ m := by
        rcases Nat.lt_or_ge m u1 with g | g
        · exact absurd (decide_eq_true (by omega)) d
        · exact g
      exact ⟨e1, u1, v15, rfl, s79, hE9, hbd.2, hlim.1 d'⟩
  rintro σ' H10 ⟨e2, u2, v2, rfl, s10, hE10, hu2, hr10⟩
  clear hrun hbd hE9 hE hm0 h8m s9 s79 s18 hS8 s8 ht
  refine ⟨_, rfl, _, rfl, _, _, rfl, rfl, _, rfl, _, rfl, _, _, rfl, rfl, _, rfl, _, rfl, _, _, rfl, rfl, _, rfl, _, rfl, _, _, rfl, rfl, sm rfl, fun nl hnl => ?_⟩
  refine g_st (by simp only [List.set_cons_succ, List.set_cons_zero]; rfl) ?_
  have s11 := same_put hnl (.lst [V.int (near + R), V.int (near + T), V.int (near + An), V.int (near + Bn)])
  have enl : upd H10 nl (.lst [V.int (near + R), V.int (near + T), V.int (near + An), V.int (near + Bn)]) nl = some (.lst ([near + (R : Int), near + (T : Int), near + (An : Int), near + (Bn : Int)].map V.int)) := upd_same
  generalize upd H10 nl (.lst [V.int (near + R), V.int (near + T), V.int (near + An), V.int (near + Bn)]) = H11 at *
  have s111 := (s17.trans s10).trans s11
  refine ⟨_, rfl, _, rfl, _, rfl, _, rfl, lw, fn, wn, wt, wa, wb, wc, wi, wx, near, way, _, vk, rfl, s111 _ _ hlw, (hks.mono ((s6.trans s7).trans (s10.trans s11))), fun vp H12 s12 hp => ?_⟩
  obtain ⟨pg, pr, pt, e3, e4, e5, vb, rfl, hpg, hpr, hpt, he3, he4, he5, hvb⟩ := prog_inv hp
  refine ⟨_, rfl, lw, _, _, _, rfl, rfl, SqL.of ((s111.trans s12) _ _ hlw), rfl, _, rfl, sm rfl, fun rl hrl => ⟨sm rfl, fun il hil => ?_⟩⟩
  have s13 := (same_put hrl (.lst [])).trans (same_put hil (.lst []))
  have erl : upd (upd H12 rl (.lst [])) il (.lst []) rl = some (.lst []) := same_put hil _ _ _ upd_same
  generalize upd (upd H12 rl (.lst [])) il (.lst []) = H13 at *
  obtain ⟨wf, wl⟩ := wf_all3 (w := wv) (near := near) (ks := ksOf wv kind) hw.1 (show way ≤ 2 by omega)
  have nd4 : ([wn, wt, wa, wb] : List Str).Nodup := by
    have := W.nd
    simp only [List.nodup_cons, List.mem_cons, List.mem_nil_iff, or_false, not_or, List.nodup_nil, and_true, not_false_eq_true] at this ⊢
    obtain ⟨_, ⟨n1, n2, n3, n4, n5, n6⟩, ⟨t1, t2, t3, t4, t5⟩, ⟨a1, a2, a3, a4⟩, _⟩ := this
    exact ⟨⟨n1, n2, n3⟩, ⟨t1, t2⟩, a1⟩
  refine ⟨_, rfl, pg, pr, pt, e3, e4, e5, nl, rl, fn, .str "proc", vb, .ref il, _, sxW wv near (ksOf wv kind) way, [wn, wt, wa, wb], [near + (R : Int), near + (T : Int), near + (An : Int), near + (Bn : Int)], (m : Int), e2, u2, rfl, s13 _ _ hpg, s13 _ _ hpr, s13 _ _ hpt, s13 _ _ he3, s13 _ _ he4, s13 _ _ he5, s13 _ _ (s12 _ _ enl), erl, rfl, nd4, Nat.le_refl 4, hvb.mono s13, fit_body, lay_all (w := wv) hw.1 (by omega), wl, by decide, wf, hr10, hu2, fun t19 v19 H14 s14 hE14 ht19 => ?_⟩
  refine g_st (by simp only [List.set_cons_succ, List.set_cons_zero]; rfl) ?_
  have hE15 := (hE10.mono (s11.trans (s12.trans (s13.trans s14))))
  refine ⟨_, rfl, _, _, _, _, rfl, TyOf.tup ht19, kit_tt K, _, rfl, iteT ?_⟩
  refine ⟨_, rfl, _, rfl, _, rfl, sm rfl, fun t20 ht20 => ?_⟩
  have g := same_put ht20 (.tup [v2, .int u2])
  refine ⟨t19, t20, _, _, rfl, rfl, SqT.of (g _ _ ht19), SqT.of upd_same, ?_, q _⟩
  exact .cons (like_end (hE14.mono g) (hE15.mono g)) (.cons (like_int _ _) .nil)
end
end LW
set_option Elab.async false
set_option linter.all false
set_option maxRecDepth 100000
set_option maxHeartbeats 4000000
namespace LW
open PySem L2
theorem all_mk {l : PySem.W.OpenLaw} {w : World} {K : PySem.W.Frag} {h : Heap} {mg : Str → Option Value} {fa f0 f1 f2 f3 f4 f5 f6 f7 f8 f9 f10 f11 f12 f13 f14 f15 f16 f17 f18 f19 f20 f21 f22 f23 C0 C1 : Addr} (X : K.In h) (G : h.Ns mainGlobals mg) (hfa : mg "law" = some (.ref fa))
    {od0 an0 od1 an1 od2 an2 od3 an3 od4 an4 od5 an5 od6 an6 od7 an7 od8 an8 od9 an9 od10 an10 od11 an11 od12 an12 od13 an13 od14 an14 od15 an15 od16 an16 od17 an17 od18 an18 od19 an19 od20 an20 od21 an21 od22 an22 od23 an23 : Option Addr} {sl0 sl1 sl2 sl3 sl4 sl5 sl6 sl7 sl8 sl9 sl10 sl11 sl12 sl13 sl14 sl15 sl16 sl17 sl18 sl19 sl20 sl21 sl22 sl23 : Array (Option Value)} {oc0 kV0 dc0 pm0 cd0 ct0 oc1 kV1 dc1 pm1 cd1 ct1 oc2 kV2 dc2 pm2 cd2 ct2 oc3 kV3 dc3 pm3 cd3 ct3 oc4 kV4 dc4 pm4 cd4 ct4 oc5 kV5 dc5 pm5 cd5 ct5 oc6 kV6 dc6 pm6 cd6 ct6 oc7 kV7 dc7 pm7 cd7 ct7 oc8 kV8 dc8 pm8 cd8 ct8 oc9 kV9 dc9 pm9 cd9 ct9 oc10 kV10 dc10 pm10 cd10 ct10 oc11 kV11 dc11 pm11 cd11 ct11 oc12 kV12 dc12 pm12 cd12 ct12 oc13 kV13 dc13 pm13 cd13 ct13 oc14 kV14 dc14 pm14 cd14 ct14 oc15 kV15 dc15 pm15 cd15 ct15 oc16 kV16 dc16 pm16 cd16 ct16 oc17 kV17 dc17 pm17 cd17 ct17 oc18 kV18 dc18 pm18 cd18 ct18 oc19 kV19 dc19 pm19 cd19 ct19 oc20 kV20 dc20 pm20 cd20 ct20 oc21 kV21 dc21 pm21 cd21 ct21 oc22 kV22 dc22 pm22 cd22 ct22 oc23 kV23 dc23 pm23 cd23 ct23 : Value}
    (a0 : PySem.W.nsIn K mainGlobals "room" = some (some (.ref f0)))
    (l0 : K.lookup f0 = some ⟨oc0, od0, .func (PySem.W.fnOf "room" "room" (defArgs sRoom) (defBody sRoom) (defScope sRoom) .none kV0 dc0 pm0 an0 cd0 ct0), sl0⟩) (c0 : PySem.W.codeIn K cd0 "room" = true) (k0 : PySem.W.keepIn K (.ref f0) = true)
    (a1 : PySem.W.nsIn K mainGlobals "lay_body" = some (some (.ref f1)))
    (l1 : K.lookup f1 = some ⟨oc1, od1, .func (PySem.W.fnOf "lay_body" "lay_body" (defArgs sLay_body) (defBody sLay_body) (defScope sLay_body) .none kV1 dc1 pm1 an1 cd1 ct1), sl1⟩) (c1 : PySem.W.codeIn K cd1 "lay_body" = true) (k1 : PySem.W.keepIn K (.ref f1) = true)
    (a2 : PySem.W.nsIn K mainGlobals "lay_if" = some (some (.ref f2)))
    (l2 : K.lookup f2 = some ⟨oc2, od2, .func (PySem.W.fnOf "lay_if" "lay_if" (defArgs sLay_if) (defBody sLay_if) (defScope sLay_if) .none kV2 dc2 pm2 an2 cd2 ct2), sl2⟩) (c2 : PySem.W.codeIn K cd2 "lay_if" = true) (k2 : PySem.W.keepIn K (.ref f2) = true)
    (a3 : PySem.W.nsIn K mainGlobals "lay_while" = some (some (.ref f3)))
    (l3 : K.lookup f3 = some ⟨oc3, od3, .func (PySem.W.fnOf "lay_while" "lay_while" (defArgs sLay_while) (defBody sLay_while) (defScope sLay_while) .none kV3 dc3 pm3 an3 cd3 ct3), sl3⟩) (c3 : PySem.W.codeIn K cd3 "lay_while" = true) (k3 : PySem.W.keepIn K (.ref f3) = true)
    (a4 : PySem.W.nsIn K mainGlobals "steps_of" = some (some (.ref f4)))
    (l4 : K.lookup f4 = some ⟨oc4, od4, .func (PySem.W.fnOf "steps_of" "steps_of" (defArgs sSteps_of) (defBody sSteps_of) (defScope sSteps_of) .none kV4 dc4 pm4 an4 cd4 ct4), sl4⟩) (c4 : PySem.W.codeIn K cd4 "steps_of" = true) (k4 : PySem.W.keepIn K (.ref f4) = true)
    (a5 : PySem.W.nsIn K mainGlobals "number_at" = some (some (.ref f5)))
    (l5 : K.lookup f5 = some ⟨oc5, od5, .func (PySem.W.fnOf "number_at" "number_at" (defArgs sNumber_at) (defBody sNumber_at) (defScope sNumber_at) .none kV5 dc5 pm5 an5 cd5 ct5), sl5⟩) (c5 : PySem.W.codeIn K cd5 "number_at" = true) (k5 : PySem.W.keepIn K (.ref f5) = true)
    (a6 : PySem.W.nsIn K mainGlobals "term_at" = some (some (.ref f6)))
    (l6 : K.lookup f6 = some ⟨oc6, od6, .func (PySem.W.fnOf "term_at" "term_at" (defArgs sTerm_at) (defBody sTerm_at) (defScope sTerm_at) .none kV6 dc6 pm6 an6 cd6 ct6), sl6⟩) (c6 : PySem.W.codeIn K cd6 "term_at" = true) (k6 : PySem.W.keepIn K (.ref f6) = true)
    (a7 : PySem.W.nsIn K mainGlobals "least_holds" = some (some (.ref f7)))
    (l7 : K.lookup f7 = some ⟨oc7, od7, .func (PySem.W.fnOf "least_holds" "least_holds" (defArgs sLeast_holds) (defBody sLeast_holds) (defScope sLeast_holds) .none kV7 dc7 pm7 an7 cd7 ct7), sl7⟩) (c7 : PySem.W.codeIn K cd7 "least_holds" = true) (k7 : PySem.W.keepIn K (.ref f7) = true)
    (a8 : PySem.W.nsIn K mainGlobals "holds" = some (some (.ref f8)))
    (l8 : K.lookup f8 = some ⟨oc8, od8, .func (PySem.W.fnOf "holds" "holds" (defArgs sHolds) (defBody sHolds) (defScope sHolds) .none kV8 dc8 pm8 an8 cd8 ct8), sl8⟩) (c8 : PySem.W.codeIn K cd8 "holds" = true) (k8 : PySem.W.keepIn K (.ref f8) = true)
    (a9 : PySem.W.nsIn K mainGlobals "first_untrue" = some (some (.ref f9)))
    (l9 : K.lookup f9 = some ⟨oc9, od9, .func (PySem.W.fnOf "first_untrue" "first_untrue" (defArgs sFirst_untrue) (defBody sFirst_untrue) (defScope sFirst_untrue) .none kV9 dc9 pm9 an9 cd9 ct9), sl9⟩) (c9 : PySem.W.codeIn K cd9 "first_untrue" = true) (k9 : PySem.W.keepIn K (.ref f9) = true)
    (a10 : PySem.W.nsIn K mainGlobals "look" = some (some (.ref f10)))
    (l10 : K.lookup f10 = some ⟨oc10, od10, .func (PySem.W.fnOf "look" "look" (defArgs sLook) (defBody sLook) (defScope sLook) .none kV10 dc10 pm10 an10 cd10 ct10), sl10⟩) (c10 : PySem.W.codeIn K cd10 "look" = true) (k10 : PySem.W.keepIn K (.ref f10) = true)
    (a11 : PySem.W.nsIn K mainGlobals "ask" = some (some (.ref f11)))
    (l11 : K.lookup f11 = some ⟨oc11, od11, .func (PySem.W.fnOf "ask" "ask" (defArgs sAsk) (defBody sAsk) (defScope sAsk) .none kV11 dc11 pm11 an11 cd11 ct11), sl11⟩) (c11 : PySem.W.codeIn K cd11 "ask" = true) (k11 : PySem.W.keepIn K (.ref f11) = true)
    (a12 : PySem.W.nsIn K mainGlobals "do" = some (some (.ref f12)))
    (l12 : K.lookup f12 = some ⟨oc12, od12, .func (PySem.W.fnOf "do" "do" (defArgs sDo) (defBody sDo) (defScope sDo) .none kV12 dc12 pm12 an12 cd12 ct12), sl12⟩) (c12 : PySem.W.codeIn K cd12 "do" = true) (k12 : PySem.W.keepIn K (.ref f12) = true)
    (a13 : PySem.W.nsIn K mainGlobals "come_back" = some (some (.ref f13)))
    (l13 : K.lookup f13 = some ⟨oc13, od13, .func (PySem.W.fnOf "come_back" "come_back" (defArgs sCome_back) (defBody sCome_back) (defScope sCome_back) .none kV13 dc13 pm13 an13 cd13 ct13), sl13⟩) (c13 : PySem.W.codeIn K cd13 "come_back" = true) (k13 : PySem.W.keepIn K (.ref f13) = true)
    (a14 : PySem.W.nsIn K mainGlobals "gone_on" = some (some (.ref f14)))
    (l14 : K.lookup f14 = some ⟨oc14, od14, .func (PySem.W.fnOf "gone_on" "gone_on" (defArgs sGone_on) (defBody sGone_on) (defScope sGone_on) .none kV14 dc14 pm14 an14 cd14 ct14), sl14⟩) (c14 : PySem.W.codeIn K cd14 "gone_on" = true) (k14 : PySem.W.keepIn K (.ref f14) = true)
    (a15 : PySem.W.nsIn K mainGlobals "procs_by_name" = some (some (.ref f15)))
    (l15 : K.lookup f15 = some ⟨oc15, od15, .func (PySem.W.fnOf "procs_by_name" "procs_by_name" (defArgs sProcs_by_name) (defBody sProcs_by_name) (defScope sProcs_by_name) .none kV15 dc15 pm15 an15 cd15 ct15), sl15⟩) (c15 : PySem.W.codeIn K cd15 "procs_by_name" = true) (k15 : PySem.W.keepIn K (.ref f15) = true)
    (a16 : PySem.W.nsIn K mainGlobals "run" = some (some (.ref f16)))
    (l16 : K.lookup f16 = some ⟨oc16, od16, .func (PySem.W.fnOf "run" "run" (defArgs sRun) (defBody sRun) (defScope sRun) .none kV16 dc16 pm16 an16 cd16 ct16), sl16⟩) (c16 : PySem.W.codeIn K cd16 "run" = true) (k16 : PySem.W.keepIn K (.ref f16) = true)
    (a17 : PySem.W.nsIn K mainGlobals "_law_cell_at" = some (some (.ref f17)))
    (l17 : K.lookup f17 = some ⟨oc17, od17, .func (PySem.W.fnOf "_law_cell_at" "_law_cell_at" (defArgs sCell_at) (defBody sCell_at) (defScope sCell_at) .none kV17 dc17 pm17 an17 cd17 ct17), sl17⟩) (c17 : PySem.W.codeIn K cd17 "_law_cell_at" = true) (k17 : PySem.W.keepIn K (.ref f17) = true)
    (a18 : PySem.W.nsIn K mainGlobals "_law_words" = some (some (.ref f18)))
    (l18 : K.lookup f18 = some ⟨oc18, od18, .func (PySem.W.fnOf "_law_words" "_law_words" (defArgs sWords) (defBody sWords) (defScope sWords) .none kV18 dc18 pm18 an18 cd18 ct18), sl18⟩) (c18 : PySem.W.codeIn K cd18 "_law_words" = true) (k18 : PySem.W.keepIn K (.ref f18) = true)
    (a19 : PySem.W.nsIn K mainGlobals "_law_program" = some (some (.ref f19)))
    (l19 : K.lookup f19 = some ⟨oc19, od19, .func (PySem.W.fnOf "_law_program" "_law_program" (defArgs sProgram) (defBody sProgram) (defScope sProgram) .none kV19 dc19 pm19 an19 cd19 ct19), sl19⟩) (c19 : PySem.W.codeIn K cd19 "_law_program" = true) (k19 : PySem.W.keepIn K (.ref f19) = true)
    (a20 : PySem.W.nsIn K mainGlobals "_law_due" = some (some (.ref f20)))
    (l20 : K.lookup f20 = some ⟨oc20, od20, .func (PySem.W.fnOf "_law_due" "_law_due" (defArgs sDue) (defBody sDue) (defScope sDue) .none kV20 dc20 pm20 an20 cd20 ct20), sl20⟩) (c20 : PySem.W.codeIn K cd20 "_law_due" = true) (k20 : PySem.W.keepIn K (.ref f20) = true)
    (a21 : PySem.W.nsIn K mainGlobals "law" = some (some (.ref f21)))
    (l21 : K.lookup f21 = some ⟨oc21, od21, .func (PySem.W.fnOf "law" "law" (defArgs sLaw) (defBody sLaw) (defScope sLaw) .none kV21 dc21 pm21 an21 cd21 ct21), sl21⟩) (c21 : PySem.W.codeIn K cd21 "law" = true) (k21 : PySem.W.keepIn K (.ref f21) = true)
    (aC0 : PySem.W.nsIn K mainGlobals "Course" = some (some (.ref C0))) (a22 : PySem.W.findIn K (.ref C0) "__init__" = some (some (.ref f22))) (i22 : PySem.W.isFn K (.ref f22) = true)
    (l22 : K.lookup f22 = some ⟨oc22, od22, .func (PySem.W.fnOf "__init__" "Course.__init__" (defArgs s__init__) (defBody s__init__) (defScope s__init__) .none kV22 dc22 pm22 an22 cd22 ct22), sl22⟩) (c22 : PySem.W.codeIn K cd22 "Course.__init__" = true) (k22 : PySem.W.keepIn K (.ref f22) = true)
    (aC1 : PySem.W.nsIn K mainGlobals "Frame" = some (some (.ref C1))) (a23 : PySem.W.findIn K (.ref C1) "__init__" = some (some (.ref f23))) (i23 : PySem.W.isFn K (.ref f23) = true)
    (l23 : K.lookup f23 = some ⟨oc23, od23, .func (PySem.W.fnOf "__init__" "Frame.__init__" (defArgs sFrame__init__) (defBody sFrame__init__) (defScope sFrame__init__) .none kV23 dc23 pm23 an23 cd23 ct23), sl23⟩) (c23 : PySem.W.codeIn K cd23 "Frame.__init__" = true) (k23 : PySem.W.keepIn K (.ref f23) = true)
    (pg0 : PySem.W.plainGet K C0 Str.empty = true) (hd0 : PySem.W.hasDictIn K C0 = true) (po0 : PySem.W.plainOver K C0 = true) (sa0 : PySem.W.findIn K (.ref C0) "__setattr__" = some (some (.builtin "object.__setattr__"))) (mk0 : PySem.W.makesIn K C0 = true) (kc0 : PySem.W.keepIn K (.ref C0) = true)
    (n0_0 : PySem.W.findIn K (.ref C0) "procs" = some none)
    (n0_1 : PySem.W.findIn K (.ref C0) "steps" = some none)
    (n0_2 : PySem.W.findIn K (.ref C0) "inputs" = some none)
    (n0_3 : PySem.W.findIn K (.ref C0) "taken" = some none)
    (n0_4 : PySem.W.findIn K (.ref C0) "most" = some none)
    (n0_5 : PySem.W.findIn K (.ref C0) "used" = some none)
    (n0_6 : PySem.W.findIn K (.ref C0) "frames" = some none)
    (pg1 : PySem.W.plainGet K C1 Str.empty = true) (hd1 : PySem.W.hasDictIn K C1 = true) (po1 : PySem.W.plainOver K C1 = true) (sa1 : PySem.W.findIn K (.ref C1) "__setattr__" = some (some (.builtin "object.__setattr__"))) (mk1 : PySem.W.makesIn K C1 = true) (kc1 : PySem.W.keepIn K (.ref C1) = true)
    (n1_0 : PySem.W.findIn K (.ref C1) "proc" = some none)
    (n1_1 : PySem.W.findIn K (.ref C1) "called_by" = some none)
    (n1_2 : PySem.W.findIn K (.ref C1) "numbers" = some none)
    (n1_3 : PySem.W.findIn K (.ref C1) "rows" = some none)
    (n1_4 : PySem.W.findIn K (.ref C1) "at" = some none)
    (z0 : PySem.W.nsIn K mainGlobals "len" = some none) (z1 : PySem.W.nsIn K mainGlobals "max" = some none) (z2 : PySem.W.nsIn K mainGlobals "min" = some none) (z3 : PySem.W.nsIn K mainGlobals "all" = some none) (z4 : PySem.W.nsIn K mainGlobals "isinstance" = some none) (z5 : PySem.W.nsIn K mainGlobals "abs" = some none) (z6 : PySem.W.nsIn K mainGlobals "sorted" = some none) (z7 : PySem.W.nsIn K mainGlobals "int" = some none) (z8 : PySem.W.nsIn K mainGlobals "str" = some none) (z9 : PySem.W.nsIn K mainGlobals "bool" = some none) (z10 : PySem.W.nsIn K mainGlobals "tuple" = some none) (z11 : PySem.W.nsIn K mainGlobals "list" = some none) (z12 : PySem.W.nsIn K mainGlobals "dict" = some none) (z13 : PySem.W.nsIn K mainGlobals "range" = some none) (z14 : PySem.W.nsIn K mainGlobals "set" = some none) (z15 : PySem.W.nsIn K mainGlobals "zip" = some none) (z16 : PySem.W.nsIn K mainGlobals "enumerate" = some none) :
    ∃ fd : FuncData, (∀ (s : Shared) (v : Value), BindsTo s fd ⟨[v], []⟩ [("_law_script", v)]) ∧ ∀ base : Heap, K.In base → base.Ns mainGlobals mg → FnOk l.prog w K mg base CX0 15 fa fd ["_law_script"] (spLaw K) := by
  have e := hfa.symm.trans (PySem.W.mg_of X G a21)
  cases e
  have B : Free0 mg := ⟨PySem.W.mg_none_of X G z0, PySem.W.mg_none_of X G z1, PySem.W.mg_none_of X G z2, PySem.W.mg_none_of X G z3, PySem.W.mg_none_of X G z4, PySem.W.mg_none_of X G z5, PySem.W.mg_none_of X G z6, PySem.W.mg_none_of X G z7, PySem.W.mg_none_of X G z8, PySem.W.mg_none_of X G z9, PySem.W.mg_none_of X G z10, PySem.W.mg_none_of X G z11, PySem.W.mg_none_of X G z12, PySem.W.mg_none_of X G z13, PySem.W.mg_none_of X G z14⟩
  have Z_zip : mg "zip" = none := PySem.W.mg_none_of X G z15
  have Z_enumerate : mg "enumerate" = none := PySem.W.mg_none_of X G z16
  have U0 := fun_mk (st := sRoom) l0 c0 k0
  have b0 := U0.binds (ps := ["steps"]) fun _ _ _ _ _ _ us hl => match us, hl with | [_], _ => rfl
  have U1 := fun_mk (st := sLay_body) l1 c1 k1
  have b1 := U1.binds (ps := ["steps", "body", "around"]) fun _ _ _ _ _ _ us hl => match us, hl with | [_, _, _], _ => rfl
  have U2 := fun_mk (st := sLay_if) l2 c2 k2
  have b2 := U2.binds (ps := ["steps", "statement", "path"]) fun _ _ _ _ _ _ us hl => match us, hl with | [_, _, _], _ => rfl
  have U3 := fun_mk (st := sLay_while) l3 c3 k3
  have b3 := U3.binds (ps := ["steps", "statement", "path"]) fun _ _ _ _ _ _ us hl => match us, hl with | [_, _, _], _ => rfl
  have U4 := fun_mk (st := sSteps_of) l4 c4 k4
  have b4 := U4.binds (ps := ["proc"]) fun _ _ _ _ _ _ us hl => match us, hl with | [_], _ => rfl
  have U5 := fun_mk (st := sNumber_at) l5 c5 k5
  have b5 := U5.binds (ps := ["x", "numbers"]) fun _ _ _ _ _ _ us hl => match us, hl with | [_, _], _ => rfl
  have U6 := fun_mk (st := sTerm_at) l6 c6 k6
  have b6 := U6.binds (ps := ["term", "numbers", "rows"]) fun _ _ _ _ _ _ us hl => match us, hl with | [_, _, _], _ => rfl
  have U7 := fun_mk (st := sLeast_holds) l7 c7 k7
  have b7 := U7.binds (ps := ["claim", "numbers", "rows"]) fun _ _ _ _ _ _ us hl => match us, hl with | [_, _, _], _ => rfl
  have U8 := fun_mk (st := sHolds) l8 c8 k8
  have b8 := U8.binds (ps := ["claim", "numbers", "rows"]) fun _ _ _ _ _ _ us hl => match us, hl with | [_, _, _], _ => rfl
  have U9 := fun_mk (st := sFirst_untrue) l9 c9 k9
  have b9 := U9.binds (ps := ["claims", "frame"]) fun _ _ _ _ _ _ us hl => match us, hl with | [_, _], _ => rfl
  have U10 := fun_mk (st := sLook) l10 c10 k10
  have b10 := U10.binds (ps := ["f", "kind", "path", "claims", "frame"]) fun _ _ _ _ _ _ us hl => match us, hl with | [_, _, _, _, _], _ => rfl
  have U11 := fun_mk (st := sAsk) l11 c11 k11
  have b11 := U11.binds (ps := ["frame", "step"]) fun _ _ _ _ _ _ us hl => match us, hl with | [_, _], _ => rfl
  have U12 := fun_mk (st := sDo) l12 c12 k12
  have b12 := U12.binds (ps := ["course", "frame", "statement", "path"]) fun _ _ _ _ _ _ us hl => match us, hl with | [_, _, _, _], _ => rfl
  have U13 := fun_mk (st := sCome_back) l13 c13 k13
  have b13 := U13.binds (ps := ["course"]) fun _ _ _ _ _ _ us hl => match us, hl with | [_], _ => rfl
  have U14 := fun_mk (st := sGone_on) l14 c14 k14
  have b14 := U14.binds (ps := ["course"]) fun _ _ _ _ _ _ us hl => match us, hl with | [_], _ => rfl
  have U15 := fun_mk (st := sProcs_by_name) l15 c15 k15
  have b15 := U15.binds (ps := ["program"]) fun _ _ _ _ _ _ us hl => match us, hl with | [_], _ => rfl
  have U16 := fun_mk (st := sRun) l16 c16 k16
  have b16 := U16.binds (ps := ["program", "f", "numbers", "rows", "inputs", "most"]) fun _ _ _ _ _ _ us hl => match us, hl with | [_, _, _, _, _, _], _ => rfl
  have U17 := fun_mk (st := sCell_at) l17 c17 k17
  have b17 := U17.binds (ps := ["_law_script", "_law_k"]) fun _ _ _ _ _ _ us hl => match us, hl with | [_, _], _ => rfl
  have U18 := fun_mk (st := sWords) l18 c18 k18
  have b18 := U18.binds (ps := ["_law_cell", "_law_many"]) fun _ _ _ _ _ _ us hl => match us, hl with | [_, _], _ => rfl
  have U19 := fun_mk (st := sProgram) l19 c19 k19
  have b19 := U19.binds (ps := ["_law_w", "_law_near", "_law_keeps", "_law_way"]) fun _ _ _ _ _ _ us hl => match us, hl with | [_, _, _, _], _ => rfl
  have U20 := fun_mk (st := sDue) l20 c20 k20
  have b20 := U20.binds (ps := ["_law_f", "_law_rounds", "_law_times", "_law_comings", "_law_totals", "_law_places", "_law_way", "_law_near"]) fun _ _ _ _ _ _ us hl => match us, hl with | [_, _, _, _, _, _, _, _], _ => rfl
  have U21 := fun_mk (st := sLaw) l21 c21 k21
  have U22 := fun_mk (st := s__init__) l22 c22 k22
  have b22 := U22.binds (ps := ["self", "program", "inputs", "most"]) fun _ _ _ _ _ _ us hl => match us, hl with | [_, _, _, _], _ => rfl
  have U23 := fun_mk (st := sFrame__init__) l23 c23 k23
  have b23 := U23.binds (ps := ["self", "proc", "numbers", "rows", "called_by"]) fun _ _ _ _ _ _ us hl => match us, hl with | [_, _, _, _, _], _ => rfl
  have T_Course : ClsC K C0 := ⟨⟨pg0, hd0, po0, sa0⟩, n0_0, n0_1, n0_2, n0_3, n0_4, n0_5, n0_6⟩
  have T_Frame : ClsF K C1 := ⟨⟨pg1, hd1, po1, sa1⟩, n1_0, n1_1, n1_2, n1_3, n1_4⟩
  refine ⟨PySem.W.fnOf "law" "law" (defArgs sLaw) (defBody sLaw) (defScope sLaw) .none kV21 dc21 pm21 an21 cd21 ct21, fun s v => .of_eq rfl, fun base _ _ => ?_⟩
  have F_room := Fn.mk' U0 b0 (PySem.W.mg_of X G a0) (ok_room (P := l.prog) (w := w) (base := base) U0 B)
  have F_lay_body := lay_tower (P := l.prog) (w := w) (base := base) B Z_enumerate U1 b1 (PySem.W.mg_of X G a1) U2 b2 (PySem.W.mg_of X G a2) U3 b3 (PySem.W.mg_of X G a3) F_room 4
  have F_steps_of := Fn.mk' U4 b4 (PySem.W.mg_of X G a4) (ok_steps_of (P := l.prog) (w := w) (base := base) U4 F_lay_body)
  have F_number_at := Fn.mk' U5 b5 (PySem.W.mg_of X G a5) (ok_number_at (P := l.prog) (w := w) (base := base) U5)
  have F_term_at := Fn.mk' U6 b6 (PySem.W.mg_of X G a6) (ok_term_at (P := l.prog) (w := w) (base := base) U6 F_number_at)
  have F_least_holds := Fn.mk' U7 b7 (PySem.W.mg_of X G a7) (ok_least_holds (P := l.prog) (w := w) (base := base) U7 F_term_at)
  have F_holds := Fn.mk' U8 b8 (PySem.W.mg_of X G a8) (ok_holds (P := l.prog) (w := w) (base := base) U8 F_least_holds)
  have F_first_untrue := Fn.mk' U9 b9 (PySem.W.mg_of X G a9) (ok_first_untrue (P := l.prog) (w := w) (base := base) T_Frame Z_enumerate U9 F_holds)
  have F_look := Fn.mk' U10 b10 (PySem.W.mg_of X G a10) (ok_look (P := l.prog) (w := w) (base := base) U10 F_first_untrue)
  have F_ask := Fn.mk' U11 b11 (PySem.W.mg_of X G a11) (ok_ask (P := l.prog) (w := w) (base := base) T_Frame U11 F_look F_holds)
  have F_do := Fn.mk' U12 b12 (PySem.W.mg_of X G a12) (ok_do (P := l.prog) (w := w) (base := base) T_Frame U12 F_term_at)
  have F_come_back := Fn.mk' U13 b13 (PySem.W.mg_of X G a13) (ok_come_back (P := l.prog) (w := w) (base := base) T_Course T_Frame U13 F_look F_number_at)
  have F_gone_on := Fn.mk' U14 b14 (PySem.W.mg_of X G a14) (ok_gone_on (P := l.prog) (w := w) (base := base) B T_Course T_Frame U14 F_come_back F_ask F_do)
  have F_procs_by_name := Fn.mk' U15 b15 (PySem.W.mg_of X G a15) (ok_procs (P := l.prog) (w := w) (base := base) U15)
  have M_Course : MkFn l.prog w K mg base _ "Course" C0 _ _ := ⟨f22, _, ⟨mk0, a22, i22, kc0⟩, ok_course (P := l.prog) (w := w) (base := base) T_Course U22 (by decide : 1 ≤ 11) F_procs_by_name F_steps_of, b22, PySem.W.mg_of X G aC0⟩
  have M_Frame : MkFn l.prog w K mg base _ "Frame" C1 _ _ := ⟨f23, _, ⟨mk1, a23, i23, kc1⟩, ok_frame (P := l.prog) (w := w) (base := base) T_Frame U23 B Z_zip, b23, PySem.W.mg_of X G aC1⟩
  have F_run := Fn.mk' U16 b16 (PySem.W.mg_of X G a16) (ok_run (P := l.prog) (w := w) (base := base) T_Course T_Frame U16 (by decide : 9 ≤ 13) M_Course M_Frame F_first_untrue F_gone_on)
  have F_cell_at := Fn.mk' U17 b17 (PySem.W.mg_of X G a17) (ok_cell (P := l.prog) (w := w) (base := base) U17 B)
  have F_words := Fn.mk' U18 b18 (PySem.W.mg_of X G a18) (ok_words (P := l.prog) (w := w) (base := base) U18 B)
  have F_program := Fn.mk' U19 b19 (PySem.W.mg_of X G a19) (ok_program (P := l.prog) (w := w) (base := base) U19)
  have F_due := Fn.mk' U20 b20 (PySem.W.mg_of X G a20) (ok_due (P := l.prog) (w := w) (base := base) U20 B)
  exact ok_law U21 B F_cell_at F_words F_program F_due F_run
theorem walk {l : PySem.W.OpenLaw} {q : Program} {loose : List Str} {XP : (Str → Option Value) → Heap → Prop} {YP : World → Heap → Prop} {d : DefRec} {K : Params → PySem.W.Frag} (hn : l.most = some 63) (hdf : d.params.defaults = [])
    (hY : ∀ (w : World) (h : Heap), YP w h → (K w.params).In h)
    (F : ∀ (w : World) (mg : Str → Option Value) (fa : Addr) (h : Heap), (K w.params).In h → h.Ns mainGlobals mg → mg d.name = some (.ref fa) →
      ∃ fd : FuncData, (∀ (s : Shared) (u : Value), BindsTo s fd ⟨[u], []⟩ [("_law_script", u)]) ∧ ∀ base : Heap, (K w.params).In base → base.Ns mainGlobals mg → FnOk l.prog w (K w.params) mg base CX0 15 fa fd ["_law_script"] (spLaw (K w.params))) :
    PySem.W.WalkO q loose XP YP l.row.toRowW d [] (fun f vs => PySem.call f vs) :=
  L2.walk_of (n := 63) (k := 15) (x := "_law_script") (CX := fun _ => CX0) (sp := fun w => spLaw (K w.params)) hn (by decide) hdf ⟨rfl, by decide, by decide⟩ hY F (fun _ _ a ns hl _ hS => ⟨a, ns, rfl, hS, hl, fun _ => rfl⟩) fun _ _ _ _ _ z => z
end LW
def PySem.W.Fast.tw10492333022714729756 : Unit := ()
def PySem.W.Fast.tw10671463700827241329 : Unit := ()
def PySem.W.Fast.tw10724992393379697773 : Unit := ()
def PySem.W.Fast.tw1078473097777374563 : Unit := ()
def PySem.W.Fast.tw11082818731233298685 : Unit := ()
def PySem.W.Fast.tw11161323748964959337 : Unit := ()
def PySem.W.Fast.tw11371133021041576921 : Unit := ()
def PySem.W.Fast.tw11375958774331917575 : Unit := ()
def PySem.W.Fast.tw11418987476641307373 : Unit := ()
def PySem.W.Fast.tw11460702261322236990 : Unit := ()
def PySem.W.Fast.tw11633286989233168112 : Unit := ()
def PySem.W.Fast.tw11826864241310939427 : Unit := ()
def PySem.W.Fast.tw11894289494248204761 : Unit := ()
def PySem.W.Fast.tw1236116576332586549 : Unit := ()
def PySem.W.Fast.tw12457277026623329649 : Unit := ()
def PySem.W.Fast.tw12629007735261825885 : Unit := ()
def PySem.W.Fast.tw12638252650385508577 : Unit := ()
def PySem.W.Fast.tw12872631057731867483 : Unit := ()
def PySem.W.Fast.tw12885309171302362031 : Unit := ()
def PySem.W.Fast.tw12896039316254006461 : Unit := ()
def PySem.W.Fast.tw12913535646090407113 : Unit := ()
def PySem.W.Fast.tw13718154336964762238 : Unit := ()
def PySem.W.Fast.tw14033184701279200201 : Unit := ()
def PySem.W.Fast.tw14097213414130280659 : Unit := ()
def PySem.W.Fast.tw1424974531616184530 : Unit := ()
def PySem.W.Fast.tw14322017244427832584 : Unit := ()
def PySem.W.Fast.tw14455963567552894512 : Unit := ()
def PySem.W.Fast.tw14527676675901911591 : Unit := ()
def PySem.W.Fast.tw14659150803381049785 : Unit := ()
def PySem.W.Fast.tw14709266250295213991 : Unit := ()
def PySem.W.Fast.tw14754973153892977882 : Unit := ()
def PySem.W.Fast.tw14829860766532180841 : Unit := ()
def PySem.W.Fast.tw15028752905271097901 : Unit := ()
def PySem.W.Fast.tw1507658930767315932 : Unit := ()
def PySem.W.Fast.tw15419339267071845512 : Unit := ()
def PySem.W.Fast.tw15788373906512028930 : Unit := ()
def PySem.W.Fast.tw1586851884615773073 : Unit := ()
def PySem.W.Fast.tw15913070061438003873 : Unit := ()
def PySem.W.Fast.tw15941516511739693592 : Unit := ()
def PySem.W.Fast.tw16156104764362478656 : Unit := ()
def PySem.W.Fast.tw16655309952962076518 : Unit := ()
def PySem.W.Fast.tw1685685270104456420 : Unit := ()
def PySem.W.Fast.tw16883213804038927400 : Unit := ()
def PySem.W.Fast.tw17053210527656825096 : Unit := ()
def PySem.W.Fast.tw17088683392181095485 : Unit := ()
def PySem.W.Fast.tw17154613329800920367 : Unit := ()
def PySem.W.Fast.tw17244430906133278993 : Unit := ()
def PySem.W.Fast.tw17357581864539136390 : Unit := ()
def PySem.W.Fast.tw1745753941898698966 : Unit := ()
def PySem.W.Fast.tw17502508163761934846 : Unit := ()
def PySem.W.Fast.tw17612811932193088840 : Unit := ()
def PySem.W.Fast.tw17716102983584511819 : Unit := ()
def PySem.W.Fast.tw17753051095639890171 : Unit := ()
def PySem.W.Fast.tw17915981079453862881 : Unit := ()
def PySem.W.Fast.tw18051602530507047282 : Unit := ()
def PySem.W.Fast.tw18305208616958706331 : Unit := ()
def PySem.W.Fast.tw2081007518591640289 : Unit := ()
def PySem.W.Fast.tw2085712775889391052 : Unit := ()
def PySem.W.Fast.tw2230863656187001662 : Unit := ()
def PySem.W.Fast.tw2573352792800436476 : Unit := ()
def PySem.W.Fast.tw2694576186372655834 : Unit := ()
def PySem.W.Fast.tw304468794761406906 : Unit := ()
def PySem.W.Fast.tw3122533091154844759 : Unit := ()
def PySem.W.Fast.tw3138375124266740269 : Unit := ()
def PySem.W.Fast.tw3143594730802785395 : Unit := ()
def PySem.W.Fast.tw3235476129211555113 : Unit := ()
def PySem.W.Fast.tw3283254997947889930 : Unit := ()
def PySem.W.Fast.tw3330301992720544380 : Unit := ()
def PySem.W.Fast.tw3648890808014240968 : Unit := ()
def PySem.W.Fast.tw3694734955435794636 : Unit := ()
def PySem.W.Fast.tw3778207526156367144 : Unit := ()
def PySem.W.Fast.tw3798015864344248081 : Unit := ()
def PySem.W.Fast.tw3990378044181613873 : Unit := ()
def PySem.W.Fast.tw4108483391786187223 : Unit := ()
def PySem.W.Fast.tw4117187497530622608 : Unit := ()
def PySem.W.Fast.tw4299929752720237579 : Unit := ()
def PySem.W.Fast.tw4527450130956492250 : Unit := ()
def PySem.W.Fast.tw4554658011563096508 : Unit := ()
def PySem.W.Fast.tw4624427237607718279 : Unit := ()
def PySem.W.Fast.tw4642998922033398442 : Unit := ()
def PySem.W.Fast.tw4736776257384707835 : Unit := ()
def PySem.W.Fast.tw4800862870403470715 : Unit := ()
def PySem.W.Fast.tw4891325308856597698 : Unit := ()
def PySem.W.Fast.tw5432050610563220115 : Unit := ()
def PySem.W.Fast.tw5461510270481194422 : Unit := ()
def PySem.W.Fast.tw5899760323982424863 : Unit := ()
def PySem.W.Fast.tw607951335480524102 : Unit := ()
def PySem.W.Fast.tw622525757964901539 : Unit := ()
def PySem.W.Fast.tw6591176371146086653 : Unit := ()
def PySem.W.Fast.tw714227380326327941 : Unit := ()
def PySem.W.Fast.tw7267169251547780288 : Unit := ()
def PySem.W.Fast.tw7496436503752072502 : Unit := ()
def PySem.W.Fast.tw7519451205494490486 : Unit := ()
def PySem.W.Fast.tw753502789786650488 : Unit := ()
def PySem.W.Fast.tw7812748341561762400 : Unit := ()
def PySem.W.Fast.tw7841210361298342754 : Unit := ()
def PySem.W.Fast.tw8054750560346999949 : Unit := ()
def PySem.W.Fast.tw8245647687600273161 : Unit := ()
def PySem.W.Fast.tw8305018813086234209 : Unit := ()
def PySem.W.Fast.tw836187697183778349 : Unit := ()
def PySem.W.Fast.tw8373564673119307585 : Unit := ()
def PySem.W.Fast.tw8595741202099642413 : Unit := ()
def PySem.W.Fast.tw8802308281612854065 : Unit := ()
def PySem.W.Fast.tw90055184053561531 : Unit := ()
def PySem.W.Fast.tw9005967154191669143 : Unit := ()
def PySem.W.Fast.tw9025255365538166016 : Unit := ()
def PySem.W.Fast.tw9205296619339839373 : Unit := ()
def PySem.W.Fast.tw9236412336640551891 : Unit := ()
def PySem.W.Fast.tw9321390874179273301 : Unit := ()
def PySem.W.Fast.tw9329962629538427400 : Unit := ()
def PySem.W.Fast.tw936787892830648189 : Unit := ()
def PySem.W.Fast.tw947300981255450792 : Unit := ()
def PySem.W.Fast.tw9480071469150792537 : Unit := ()
def PySem.W.Fast.tw9678652685861705870 : Unit := ()
open PySem PySem.W PyProof.Rows
set_option maxRecDepth 100000 in
set_option maxHeartbeats 0 in
theorem PySem.Challenge.cw_outlineward_k76_loops_come_to_again_holds : PySem.Challenge.rw_outlineward_k76_loops_come_to_again.Holds := by
  w_on; o_law; k_head; (case hw => w_witness2)
  k_fill
  refine LW.walk (l := PySem.Challenge.rw_outlineward_k76_loops_come_to_again) rfl rfl (fun w h Y => PySem.W.kIn_of Y) ?F
  case F =>
    intro w mg fa h KX G hmg
    refine' LW.all_mk KX G hmg ?a0 ?l0 ?c0 ?k0 ?a1 ?l1 ?c1 ?k1 ?a2 ?l2 ?c2 ?k2 ?a3 ?l3 ?c3 ?k3 ?a4 ?l4 ?c4 ?k4 ?a5 ?l5 ?c5 ?k5 ?a6 ?l6 ?c6 ?k6 ?a7 ?l7 ?c7 ?k7 ?a8 ?l8 ?c8 ?k8 ?a9 ?l9 ?c9 ?k9 ?a10 ?l10 ?c10 ?k10 ?a11 ?l11 ?c11 ?k11 ?a12 ?l12 ?c12 ?k12 ?a13 ?l13 ?c13 ?k13 ?a14 ?l14 ?c14 ?k14 ?a15 ?l15 ?c15 ?k15 ?a16 ?l16 ?c16 ?k16 ?a17 ?l17 ?c17 ?k17 ?a18 ?l18 ?c18 ?k18 ?a19 ?l19 ?c19 ?k19 ?a20 ?l20 ?c20 ?k20 ?a21 ?l21 ?c21 ?k21 ?aC0 ?a22 ?i22 ?l22 ?c22 ?k22 ?aC1 ?a23 ?i23 ?l23 ?c23 ?k23 ?pg0 ?hd0 ?po0 ?sa0 ?mk0 ?kc0 ?n0_0 ?n0_1 ?n0_2 ?n0_3 ?n0_4 ?n0_5 ?n0_6 ?pg1 ?hd1 ?po1 ?sa1 ?mk1 ?kc1 ?n1_0 ?n1_1 ?n1_2 ?n1_3 ?n1_4 ?z0 ?z1 ?z2 ?z3 ?z4 ?z5 ?z6 ?z7 ?z8 ?z9 ?z10 ?z11 ?z12 ?z13 ?z14 ?z15 ?z16
    (case a0 => k_is)
    (case l0 => k_is)
    (case c0 => k_is)
    (case k0 => k_is)
    (case a1 => k_is)
    (case l1 => k_is)
    (case c1 => k_is)
    (case k1 => k_is)
    (case a2 => k_is)
    (case l2 => k_is)
    (case c2 => k_is)
    (case k2 => k_is)
    (case a3 => k_is)
    (case l3 => k_is)
    (case c3 => k_is)
    (case k3 => k_is)
    (case a4 => k_is)
    (case l4 => k_is)
    (case c4 => k_is)
    (case k4 => k_is)
    (case a5 => k_is)
    (case l5 => k_is)
    (case c5 => k_is)
    (case k5 => k_is)
    (case a6 => k_is)
    (case l6 => k_is)
    (case c6 => k_is)
    (case k6 => k_is)
    (case a7 => k_is)
    (case l7 => k_is)
    (case c7 => k_is)
    (case k7 => k_is)
    (case a8 => k_is)
    (case l8 => k_is)
    (case c8 => k_is)
    (case k8 => k_is)
    (case a9 => k_is)
    (case l9 => k_is)
    (case c9 => k_is)
    (case k9 => k_is)
    (case a10 => k_is)
    (case l10 => k_is)
    (case c10 => k_is)
    (case k10 => k_is)
    (case a11 => k_is)
    (case l11 => k_is)
    (case c11 => k_is)
    (case k11 => k_is)
    (case a12 => k_is)
    (case l12 => k_is)
    (case c12 => k_is)
    (case k12 => k_is)
    (case a13 => k_is)
    (case l13 => k_is)
    (case c13 => k_is)
    (case k13 => k_is)
    (case a14 => k_is)
    (case l14 => k_is)
    (case c14 => k_is)
    (case k14 => k_is)
    (case a15 => k_is)
    (case l15 => k_is)
    (case c15 => k_is)
    (case k15 => k_is)
    (case a16 => k_is)
    (case l16 => k_is)
    (case c16 => k_is)
    (case k16 => k_is)
    (case a17 => k_is)
    (case l17 => k_is)
    (case c17 => k_is)
    (case k17 => k_is)
    (case a18 => k_is)
    (case l18 => k_is)
    (case c18 => k_is)
    (case k18 => k_is)
    (case a19 => k_is)
    (case l19 => k_is)
    (case c19 => k_is)
    (case k19 => k_is)
    (case a20 => k_is)
    (case l20 => k_is)
    (case c20 => k_is)
    (case k20 => k_is)
    (case a21 => k_is)
    (case l21 => k_is)
    (case c21 => k_is)
    (case k21 => k_is)
    (case aC0 => k_is)
    (case a22 => k_is)
    (case i22 => k_is)
    (case l22 => k_is)
    (case c22 => k_is)
    (case k22 => k_is)
    (case aC1 => k_is)
    (case a23 => k_is)
    (case i23 => k_is)
    (case l23 => k_is)
    (case c23 => k_is)
    (case k23 => k_is)
    (case pg0 => k_is)
    (case hd0 => k_is)
    (case po0 => k_is)
    (case sa0 => k_is)
    (case mk0 => k_is)
    (case kc0 => k_is)
    (case n0_0 => k_is)
    (case n0_1 => k_is)
    (case n0_2 => k_is)
    (case n0_3 => k_is)
    (case n0_4 => k_is)
    (case n0_5 => k_is)
    (case n0_6 => k_is)
    (case pg1 => k_is)
    (case hd1 => k_is)
    (case po1 => k_is)
    (case sa1 => k_is)
    (case mk1 => k_is)
    (case kc1 => k_is)
    (case n1_0 => k_is)
    (case n1_1 => k_is)
    (case n1_2 => k_is)
    (case n1_3 => k_is)
    (case n1_4 => k_is)
    (case z0 => k_is)
    (case z1 => k_is)
    (case z2 => k_is)
    (case z3 => k_is)
    (case z4 => k_is)
    (case z5 => k_is)
    (case z6 => k_is)
    (case z7 => k_is)
    (case z8 => k_is)
    (case z9 => k_is)
    (case z10 => k_is)
    (case z11 => k_is)
    (case z12 => k_is)
    (case z13 => k_is)
    (case z14 => k_is)
    (case z15 => k_is)
    (case z16 => k_is)
