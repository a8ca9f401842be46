import PyProof.Rows.All
import Wide.All
import OpenK.AllK
import Wide.FinOn
import Lean
import PyProof.EqAt
import PyProof.EqKinds
import PyProof.TupleCall
import PyProof.NeKinds
import KE.KEqDict
import KE.KDictSum
import PyProof.Rows.StrMul
import PyProof.Rows.SortStr
import PyProof.Rows.SortWalk
import KE.KSortTup
import PyProof.IsiH_list
import KE.KDictOf
import KE.KItemsList
import PyProof.SetKind
import PyProof.Rows.SetFrom
import PyProof.TupleKey
import PyProof.IsRules
import PyProof.EnumStmt
import PyProof.EnumFor
import PyProof.EnumMake
import PyProof.Rows.StrJoin2
import KE.KDictList
import PySem.Challenge.RW_outlineward_k32_whole_long_rings
set_option Elab.async false
set_option linter.all false
set_option maxRecDepth 100000
namespace L2
open PySem PySem.Spec PyProof.Rows
abbrev Key := Sum Int Str
def keyIs : Key → Value → Bool
  | .inl k, v => Value.isInt k v
  | .inr x, v => Value.isStrOf x v
def keyH (w : World) : Key → Int
  | .inl k => hashInt k
  | .inr x => hashStr w x
theorem keyIs_shape : ∀ {k : Key} {v : Value}, keyIs k v = true → (∃ i t, k = Sum.inl i ∧ v = Value.int i t) ∨ (∃ x t, k = Sum.inr x ∧ v = Value.str x t)
  | .inl i, v, h => by
    obtain ⟨t, e⟩ := Value.isInt_shape (k := i) (v := v) h
    exact .inl ⟨i, t, rfl, e⟩
  | .inr x, v, h => by
    obtain ⟨t, e⟩ := Value.isStrOf_shape (x := x) (v := v) h
    exact .inr ⟨x, t, rfl, e⟩
theorem key_ll (a b : Int) : decide ((Sum.inl a : Key) = Sum.inl b) = (a == b) := by
  by_cases e : a = b
  · subst e; simp
  · have h : ¬ (Sum.inl a : Key) = Sum.inl b := fun q => e (Sum.inl.inj q)
    rw [decide_eq_false h]
    exact (beq_eq_false_iff_ne.mpr e).symm
theorem key_rr (a b : Str) : decide ((Sum.inr a : Key) = Sum.inr b) = decide (a = b) := by
  by_cases e : a = b
  · subst e; simp
  · have h : ¬ (Sum.inr a : Key) = Sum.inr b := fun q => e (Sum.inr.inj q)
    rw [decide_eq_false h, decide_eq_false e]
theorem key_lr (a : Int) (b : Str) : decide ((Sum.inl a : Key) = Sum.inr b) = false := decide_eq_false (fun q => nomatch q)
theorem key_rl (a : Str) (b : Int) : decide ((Sum.inr a : Key) = Sum.inl b) = false := decide_eq_false (fun q => nomatch q)
def mixKind (prog : Program) (w : World) : PySem.KeyKind prog w Key where
  is := keyIs
  hash := keyH w
  inj := fun v a b ha hb => by
    rcases keyIs_shape ha with ⟨i, t, rfl, rfl⟩ | ⟨x, t, rfl, rfl⟩
    · rcases keyIs_shape hb with ⟨j, u, rfl, e⟩ | ⟨y, u, rfl, e⟩
      · injection e with e1 _; rw [e1]
      · exact nomatch e
    · rcases keyIs_shape hb with ⟨j, u, rfl, e⟩ | ⟨y, u, rfl, e⟩
      · exact nomatch e
      · injection e with e1 _; rw [e1]
  byValue := fun k v h => by
    rcases keyIs_shape h with ⟨i, t, rfl, rfl⟩ | ⟨x, t, rfl, rfl⟩ <;> rfl
  pyHash := fun hv h => by
    rcases keyIs_shape hv with ⟨i, t, rfl, rfl⟩ | ⟨x, t, rfl, rfl⟩
    · exact wpAny_pyHash_int h
    · exact wpAny_pyHash_str h
  eqBool := fun hu hv h => by
    rcases keyIs_shape hu with ⟨i, t, rfl, rfl⟩ | ⟨x, t, rfl, rfl⟩
    · rcases keyIs_shape hv with ⟨j, u, rfl, rfl⟩ | ⟨y, u, rfl, rfl⟩
      · rw [key_ll] at h; exact wpAny_eqBool_int h
      · rw [key_lr] at h; exact SeqAt.EqAt.int_str i t y u _ _ _ _ h
    · rcases keyIs_shape hv with ⟨j, u, rfl, rfl⟩ | ⟨y, u, rfl, rfl⟩
      · rw [key_rl] at h; exact SeqAt.EqAt.str_int x t j u _ _ _ _ h
      · rw [key_rr] at h; exact wpAny_eqBool_str h
  «strs» := fun k x t v h => by
    rcases keyIs_shape h with ⟨i, u, rfl, e⟩ | ⟨y, u, rfl, e⟩
    · exact nomatch e
    · injection e with e1 _
      subst e1
      cases v <;> rfl
end L2
namespace L2
open PySem PySem.Spec PyProof.Rows
inductive V where
  | non | bl (b : Bool) | int (i : Int) | str (x : Str) | byt (b : Array UInt8) | flt (b : UInt64) | ref (a : Addr) | ty (n : String)
  deriving DecidableEq
def RelV : V → Value → Prop
  | .non, u => u = Value.none
  | .bl b, u => u = Value.bool b
  | .int i, u => ∃ t, u = Value.int i t
  | .str x, u => ∃ t, u = Value.str x t
  | .byt b, u => ∃ t, u = Value.bytes b t
  | .flt b, u => ∃ t, u = Value.float b t
  | .ref a, u => u = Value.ref a
  | .ty n, u => u = Value.type n
abbrev Vals : List V → List Value → Prop := Paired RelV
theorem Vals.length {xs : List V} {us : List Value} (r : Vals xs us) : xs.length = us.length := Paired.length r
theorem Vals.get : ∀ {xs : List V} {us : List Value} {i : Nat} {x : V}, Vals xs us → xs[i]? = some x → ∃ u, us[i]? = some u ∧ RelV x u
  | _, _, _, _, .nil, e => by simp at e
  | _, _, 0, _, .cons r _, e => by simp at e; subst e; exact ⟨_, rfl, r⟩
  | _, _, i + 1, x, .cons _ t, e => by
    obtain ⟨u, h1, h2⟩ := Vals.get (i := i) (x := x) t (by simpa using e)
    exact ⟨u, by simpa using h1, h2⟩
theorem Vals.set {x : V} {u : Value} (r : RelV x u) : ∀ {xs : List V} {us : List Value} (i : Nat), Vals xs us → Vals (xs.set i x) (us.set i u)
  | _, _, _, .nil => .nil
  | _, _, 0, .cons _ t => .cons r t
  | _, _, i + 1, .cons q t => .cons q (Vals.set r i t)
theorem Vals.append : ∀ {xs ys : List V} {us ws : List Value}, Vals xs us → Vals ys ws → Vals (xs ++ ys) (us ++ ws)
  | _, _, _, _, .nil, s => s
  | _, _, _, _, .cons r t, s => .cons r (Vals.append t s)
theorem Vals.take : ∀ {xs : List V} {us : List Value} (n : Nat), Vals xs us → Vals (xs.take n) (us.take n)
  | _, _, 0, _ => .nil
  | _, _, _ + 1, .nil => .nil
  | _, _, n + 1, .cons r t => .cons r (Vals.take n t)
theorem Vals.drop : ∀ {xs : List V} {us : List Value} (n : Nat), Vals xs us → Vals (xs.drop n) (us.drop n)
  | _, _, 0, r => r
  | _, _, _ + 1, .nil => .nil
  | _, _, n + 1, .cons _ t => Vals.drop n t
def RelO : Option V → Option Value → Prop
  | some v, some u => RelV v u
  | none, none => True
  | _, _ => False
def KV {κ : Type} : List (κ × V) → List (κ × Value) → Prop := Paired fun (p : κ × V) (q : κ × Value) => p.1 = q.1 ∧ RelV p.2 q.2
def kV : Key → V
  | .inl i => .int i
  | .inr x => .str x
inductive HO where
  | lst (xs : List V)
  | tup (xs : List V)
  | dK (kvs : List (Key × V)) | dT (kvs : List (List Key × V))
  | set (S : Int → Bool) (n : Nat)
  | ins (C dx : Addr) (fs : List (Str × V))
  | own (x : Addr)
  | xd (fs : List (Str × V))
  | met (f x : Addr)
  | rng (lo hi : Int)
  | frz (o : Obj) (u : HO)
  | tbl (ps : Array Value)
  | ext (φ : Heap → Prop)
abbrev Hp := Addr → Option HO
def upd (H : Hp) (a : Addr) (o : HO) : Hp := fun b => if b = a then some o else H b
theorem upd_same {H : Hp} {a : Addr} {o : HO} : upd H a o a = some o := by unfold upd; rw [if_pos rfl]
theorem upd_ne {H : Hp} {a b : Addr} {o : HO} (h : b ≠ a) : upd H a o b = H b := by unfold upd; rw [if_neg h]
theorem ne_of {H : Hp} {a b : Addr} {o u : HO} (h : H a = some o) (h' : H b = some u) (d : o ≠ u) : a ≠ b := by
  intro e; subst e; rw [h] at h'; exact d (Option.some.inj h')
theorem ne_of_none {H : Hp} {a b : Addr} {o : HO} (h : H a = some o) (h' : H b = none) : a ≠ b := by
  intro e; subst e; rw [h] at h'; cases h'
section
variable (P : Program) (w : World)
def ObjOk (H : Hp) (h : Heap) (a : Addr) : HO → Prop
  | .lst xs => xs.length ≤ sizeLine ∧ ∃ (its : List Value) (n : Nat), Vals xs its ∧ h.get? a = some { cls := .type "list", data := .seq its.toArray n }
  | .tup xs => xs.length ≤ sizeLine ∧ ∃ its : List Value, Vals xs its ∧ IsTup h a its.toArray
  | .dK kvs => kvs.length ≤ sizeLine ∧ (a == sysModules) = false ∧ ∃ vs, KV kvs vs ∧ h.DictOf (mixKind P w) a vs
  | .dT kvs => kvs.length ≤ sizeLine ∧ (a == sysModules) = false ∧ ∃ xs : List (List Key × Addr × Value),
      Paired (fun (p : List Key × V) (q : List Key × Addr × Value) => p.1 = q.1 ∧ H q.2.1 = some (.tup (p.1.map kV)) ∧ RelV p.2 q.2.2) kvs xs ∧
      ∃ o es ep, h.get? a = some o ∧ o.ExactDict ∧ o.data = .dict es ep ∧ es.toList = xs.map (entryOfKey (tupleKind (mixKind P w))) ∧ (xs.map (·.1)).Nodup
  | .set S n => h.SetOf (intKind P w) a S n
  | .ins C dx fs => H dx = some (.own a) ∧ fs.length ≤ 1000 ∧ dx ≠ a ∧ h.get? a = some (PySem.W.instObj C dx) ∧
      ∃ mA, h.Ns1 dx mA ∧ (∀ f, RelO (fs.lookup f) (mA f)) ∧ PySem.Within mA (fs.map (·.1))
  | .own _ => ∃ o, h.get? a = some o
  | .xd fs => ∃ mA, h.Ns1 a mA ∧ ∀ f, RelO (fs.lookup f) (mA f)
  | .rng lo hi => ∃ t u v, h.get? a = some { cls := .type "range", data := .fields #[.int lo t, .int hi u, .int 1 v] }
  | .frz o u => h.get? a = some o ∧ ObjOk H h a u
  | .tbl ps => h.get? a = some { cls := .none, data := .fields ps }
  | .met f x => h.get? a = some (PySem.W.methodObj (.ref f) (.ref x))
  | .ext φ => φ h ∧ (∃ o, h.get? a = some o) ∧ ∀ h1 h2 : Heap, φ h1 → (∀ o, h1.get? a = some o → h2.get? a = some o) → φ h2
def HOk (H : Hp) (h : Heap) : Prop := ∀ a o, H a = some o → ObjOk P w H h a o
end
section
variable {P : Program} {w : World} {H H' : Hp} {h h' : Heap} {a : Addr} {o : HO}
theorem ObjOk.lt (x : ObjOk P w H h a o) : a < h.objs.size := by
  cases o with
  | lst xs => obtain ⟨_, _, _, _, e⟩ := x; exact Heap.lt_size e
  | tup xs => obtain ⟨_, _, _, p⟩ := x; exact p.lt
  | dK kvs => obtain ⟨_, _, _, _, o, _, _, e, _⟩ := x; exact Heap.lt_size e
  | dT kvs => obtain ⟨_, _, _, _, o, _, _, e, _⟩ := x; exact Heap.lt_size e
  | set S n => obtain ⟨o, _, _, _, e, _⟩ := x; exact Heap.lt_size e
  | ins C dx fs => obtain ⟨_, _, _, e, _⟩ := x; exact Heap.lt_size e
  | own y => obtain ⟨_, e⟩ := x; exact Heap.lt_size e
  | xd fs => obtain ⟨_, ⟨_, _, _, e, _⟩, _⟩ := x; exact Heap.lt_size e
  | rng lo hi => obtain ⟨_, _, _, e⟩ := x; exact Heap.lt_size e
  | frz ob u => obtain ⟨e, _⟩ := x; exact Heap.lt_size e
  | tbl ps => exact Heap.lt_size (show h.get? a = some _ from x)
  | met f y => exact Heap.lt_size (show h.get? a = some _ from x)
  | ext φ => obtain ⟨_, ⟨_, e⟩, _⟩ := x; exact Heap.lt_size e
theorem Paired.mapP {α β : Type} {F G : α → β → Prop} : ∀ {l₁ : List α} {l₂ : List β}, Paired F l₁ l₂ → (∀ a b, F a b → G a b) → Paired G l₁ l₂
  | _, _, .nil, _ => .nil
  | _, _, .cons r t, f => .cons (f _ _ r) (Paired.mapP t f)
theorem ObjOk.stay (x : ObjOk P w H h a o) (k : ∀ b u, (b = a ∨ H b = some (.own a)) → h.get? b = some u → h'.get? b = some u)
    (ho : ∀ b, H b = some (.own a) → H' b = some (.own a)) (ht : ∀ b xs, H b = some (.tup xs) → H' b = some (.tup xs)) : ObjOk P w H' h' a o := by
  induction o with
  | lst xs => obtain ⟨z, its, n, r, e⟩ := x; exact ⟨z, its, n, r, k _ _ (.inl rfl) e⟩
  | tup xs => obtain ⟨z, its, r, ob, e, c⟩ := x; exact ⟨z, its, r, ob, k _ _ (.inl rfl) e, c⟩
  | dK kvs => obtain ⟨z, y, vs, r, ob, es, ep, e, c⟩ := x; exact ⟨z, y, vs, r, ob, es, ep, k _ _ (.inl rfl) e, c⟩
  | dT kvs =>
    obtain ⟨z, y, xs, r, ob, es, ep, e, c⟩ := x
    exact ⟨z, y, xs, Paired.mapP r fun p q z => ⟨z.1, ht _ _ z.2.1, z.2.2⟩, ob, es, ep, k _ _ (.inl rfl) e, c⟩
  | set S n => obtain ⟨ob, es, ep, t, e, c⟩ := x; exact ⟨ob, es, ep, t, k _ _ (.inl rfl) e, c⟩
  | ins C dx fs =>
    obtain ⟨d, z, ne, e, mA, ⟨od, es, ep, e2, c⟩, r⟩ := x
    exact ⟨ho _ d, z, ne, k _ _ (.inl rfl) e, mA, ⟨od, es, ep, k _ _ (.inr d) e2, c⟩, r⟩
  | own y => obtain ⟨ob, e⟩ := x; exact ⟨ob, k _ _ (.inl rfl) e⟩
  | xd fs => obtain ⟨mA, ⟨od, es, ep, e, c⟩, r⟩ := x; exact ⟨mA, ⟨od, es, ep, k _ _ (.inl rfl) e, c⟩, r⟩
  | rng lo hi => obtain ⟨t, u, v, e⟩ := x; exact ⟨t, u, v, k _ _ (.inl rfl) e⟩
  | frz ob u ih => obtain ⟨e, q⟩ := x; exact ⟨k _ _ (.inl rfl) e, ih q⟩
  | tbl ps =>
    have e : h.get? a = some { cls := .none, data := .fields ps } := x
    show h'.get? a = some { cls := .none, data := .fields ps }
    exact k a _ (.inl rfl) e
  | met f y =>
    have e : h.get? a = some (PySem.W.methodObj (.ref f) (.ref y)) := x
    show h'.get? a = some (PySem.W.methodObj (.ref f) (.ref y))
    exact k a _ (.inl rfl) e
  | ext φ => obtain ⟨p, ⟨o, e⟩, st⟩ := x; exact ⟨st _ _ p fun o q => k _ _ (.inl rfl) q, ⟨o, k _ _ (.inl rfl) e⟩, st⟩
theorem HOk.lt (x : HOk P w H h) (e : H a = some o) : a < h.objs.size := (x a o e).lt
theorem HOk.fresh (x : HOk P w H h) (e : h.objs.size ≤ a) : H a = none := by
  cases q : H a with
  | none => rfl
  | some u => exact absurd (Nat.lt_of_lt_of_le (x.lt q) e) (Nat.lt_irrefl _)
theorem HOk.kept (x : HOk P w H h) (k : ∀ b u, h.get? b = some u → h'.get? b = some u) : HOk P w H h' := fun a o e =>
  (x a o e).stay (fun b u _ q => k b u q) (fun _ q => q) fun _ _ q => q
theorem HOk.laid (x : HOk P w H h) (k : ∀ b u, h.get? b = some u → h'.get? b = some u) (hp : h.objs.size ≤ a) (new : ObjOk P w (upd H a o) h' a o) : HOk P w (upd H a o) h' := fun b u e => by
  have hn := x.fresh hp
  by_cases hb : b = a
  · subst hb; rw [upd_same] at e; cases e; exact new
  · rw [upd_ne hb] at e
    exact (x b u e).stay (fun c v _ q => k c v q) (fun c q => by rw [upd_ne (ne_of_none q hn)]; exact q) fun c xs q => by rw [upd_ne (ne_of_none q hn)]; exact q
end
def Rd (H : Hp) (a : Addr) (u : HO) : Prop := H a = some u ∨ ∃ o, H a = some (.frz o u)
theorem Rd.ok {P : Program} {w : World} {H : Hp} {h : Heap} {a : Addr} {u : HO} (r : Rd H a u) (x : HOk P w H h) : ObjOk P w H h a u := by
  rcases r with r | ⟨o, r⟩
  · exact x a u r
  · obtain ⟨_, q⟩ := x a _ r
    exact q
def Mut : Option HO → Prop
  | some (.lst _) => True
  | some (.dK _) => True
  | some (.dT _) => True
  | some (.set _ _) => True
  | some (.ins _ _ _) => True
  | some (.ext _) => True
  | _ => False
section
variable {P : Program} {w : World} {H : Hp} {h h' : Heap} {x e : Addr} {o' : HO}
theorem HOk.write (ok : HOk P w H h) (mu : Mut (H x)) (he : e = x ∨ H e = some (.own x)) (k : ∀ b u, b ≠ e → h.get? b = some u → h'.get? b = some u) (heo : ∃ u, h'.get? e = some u)
    (new : ObjOk P w (upd H x o') h' x o') : HOk P w (upd H x o') h' := fun b u q => by
  have nown : ∀ c y, H c = some (.own y) → c ≠ x := fun c y r z => by subst z; rw [r] at mu; exact mu
  have ntup : ∀ c xs, H c = some (.tup xs) → c ≠ x := fun c xs r z => by subst z; rw [r] at mu; exact mu
  by_cases hb : b = x
  · subst hb; rw [upd_same] at q; cases q; exact new
  · rw [upd_ne hb] at q
    by_cases hbe : b = e
    · have q' : H b = some (.own x) := by
        rcases he with z | z
        · exact absurd (hbe.trans z) hb
        · rw [hbe]; exact z
      rw [q] at q'; cases q'
      obtain ⟨v, hv⟩ := heo
      exact ⟨v, by rw [hbe]; exact hv⟩
    · refine (ok b u q).stay (fun c v hc r => k c v ?_ r) (fun c r => by rw [upd_ne (nown c b r)]; exact r) fun c xs r => by rw [upd_ne (ntup c xs r)]; exact r
      rcases hc with rfl | hc
      · exact hbe
      · rintro rfl
        rcases he with z | z
        · exact nown c b hc z
        · rw [hc] at z; cases z; exact hb rfl
end
structure Un (fs ex : List Addr) (H H' : Hp) (h h' : Heap) : Prop where
  keep : ∀ b o, h.get? b = some o → H b = none → b ∉ fs → b ∉ ex → h'.get? b = some o
  slot : ∀ b o, h.get? b = some o → H b = none → b ∈ fs → b ∉ ex → ∃ sl, h'.get? b = some { o with slots := sl }
  free : ∀ b o, h.get? b = some o → H b = none → b ∉ ex → H' b = none
  there : ∀ b o, h.get? b = some o → b ∉ ex → ∃ o', h'.get? b = some o'
  tups : ∀ b xs, H b = some (.tup xs) → H' b = some (.tup xs)
  frzs : ∀ b o u, H b = some (.frz o u) → H' b = some (.frz o u)
  tbls : ∀ b ps, H b = some (.tbl ps) → ∃ more, H' b = some (.tbl (ps ++ more))
section
variable {fs fs' ex ex' : List Addr} {H H1 H2 : Hp} {h h1 h2 h' : Heap} {a x e : Addr} {o : HO}
theorem Un.any (u : Un fs ex H H1 h h1) {b : Addr} {ob : Obj} (q : h.get? b = some ob) (n : H b = none) (hx : b ∉ ex) : ∃ sl, h1.get? b = some { ob with slots := sl } := by
  by_cases hb : b ∈ fs
  · exact u.slot b ob q n hb hx
  · exact ⟨ob.slots, u.keep b ob q n hb hx⟩
theorem Un.kept (k : ∀ b u, h.get? b = some u → h'.get? b = some u) : Un fs ex H H h h' :=
  ⟨fun b ob q _ _ _ => k b ob q, fun b ob q _ _ _ => ⟨ob.slots, k b ob q⟩, fun _ _ _ n _ => n, fun b ob q _ => ⟨ob, k b ob q⟩, fun _ _ q => q, fun _ _ _ q => q, fun _ ps q => ⟨#[], by rw [q]; simp⟩⟩
theorem Un.refl : Un fs ex H H h h := Un.kept fun _ _ q => q
theorem Un.laid (k : ∀ b u, h.get? b = some u → h'.get? b = some u) (hp : h.objs.size ≤ a) (hn : H a = none) : Un fs ex H (upd H a o) h h' where
  keep := fun b u q _ _ _ => k b u q
  slot := fun b u q _ _ _ => ⟨u.slots, k b u q⟩
  free := fun b u q n _ => by rw [upd_ne (Nat.ne_of_lt (Nat.lt_of_lt_of_le (Heap.lt_size q) hp))]; exact n
  there := fun b u q _ => ⟨u, k b u q⟩
  tups := fun b xs q => by rw [upd_ne (ne_of_none q hn)]; exact q
  frzs := fun b u xs q => by rw [upd_ne (ne_of_none q hn)]; exact q
  tbls := fun b ps q => ⟨#[], by rw [upd_ne (ne_of_none q hn), q]; simp⟩
theorem Un.write (mu : Mut (H x)) (he : e = x ∨ H e = some (.own x)) (k : ∀ b u, b ≠ e → h.get? b = some u → h'.get? b = some u) (heo : ∃ u, h'.get? e = some u) : Un fs ex H (upd H x o) h h' := by
  have hx : ∀ b, H b = none → b ≠ x := fun b n z => by subst z; rw [n] at mu; exact mu
  have hb : ∀ b, H b = none → b ≠ e := fun b n z => by
    subst z
    rcases he with r | r
    · exact hx b n r
    · rw [n] at r; cases r
  have hm : ∀ b u, H b = some u → ¬ Mut (some u) → b ≠ x := fun b u q nm z => by subst z; rw [q] at mu; exact nm mu
  refine ⟨fun b u q n _ _ => k b u (hb b n) q, fun b u q n _ _ => ⟨u.slots, k b u (hb b n) q⟩, fun b u q n _ => by rw [upd_ne (hx b n)]; exact n, fun b u q _ => ?_,
    fun b xs q => by rw [upd_ne (hm b _ q fun z => z)]; exact q, fun b u xs q => by rw [upd_ne (hm b _ q fun z => z)]; exact q, fun b ps q => ⟨#[], by rw [upd_ne (hm b _ q fun z => z), q]; simp⟩⟩
  by_cases hbe : b = e
  · subst hbe; exact heo
  · exact ⟨u, k b u hbe q⟩
end
def trk (h : Heap) (H : Hp) : List Addr := (List.range h.objs.size).filter fun a => (H a).isSome
def hidT (h : Heap) (H : Hp) : Heap := PySem.W.hideAll h (trk h H)
theorem hidT_size (h : Heap) (H : Hp) : (hidT h H).objs.size = h.objs.size := PySem.W.hideAll_size _ _
theorem hidT_get {h : Heap} {H : Hp} {b : Addr} {o : Obj} (e : h.get? b = some o) (n : H b = none) : (hidT h H).get? b = some o :=
  PySem.W.hideAll_get _ e fun hm => by
    have q : (H b).isSome = true := (List.mem_filter.mp hm).2
    rw [n] at q; simp at q
theorem of_hidT {h : Heap} {H : Hp} {b : Addr} {o : Obj} (e : (hidT h H).get? b = some o) : h.get? b = some o ∧ H b = none := by
  have e' : h.get? b = some o := PySem.W.of_hideAll (trk h H) e
  refine ⟨e', ?_⟩
  cases q : H b with
  | none => rfl
  | some x =>
    have hm : b ∈ trk h H := List.mem_filter.mpr ⟨List.mem_range.mpr (Heap.lt_size e'), by simp [q]⟩
    have z : (hidT h H).get? b = none := PySem.W.hideAll_none (trk h H) hm
    rw [z] at e; cases e
end L2
namespace L2
open PySem PySem.Spec PyProof.Rows
structure Mod (K : PySem.W.Frag) (mg : Str → Option Value) (base : Heap) : Prop where
  kin : K.In base
  glob : base.Ns mainGlobals mg
  blt : ∃ mb, base.Ns builtinsNs mb ∧ ∀ x : Str, x ≠ "__name__" → mb x = bootBuiltins x
  nolimit : base.NoLimit
structure Cx where
  prog : Program
  w : World
  K : PySem.W.Frag
  mg : Str → Option Value
  base : Heap
  A : Around
  N : List Str
  s₀ : Shared
  H₀ : Hp
  env : Env
  outer : List Env
  stack : List Env
  ex : List Addr
  fn : Str → Bool
  calm : Bool
  pn : List (Addr × Obj)
  xe : Value → Shared → Prop
def frs (l : List Env) : List Addr := l.filterMap (·.frame)
abbrev Cx.fs (X : Cx) : List Addr := frs X.outer
def Vis (sc : Scope) (x : Str) : Prop := sc.names.lookup x = some .local ∨ sc.names.lookup x = some .cell ∨ sc.names.lookup x = some .free
def Loc (sc : Scope) (x : Str) : Prop := sc.names.lookup x = some .local ∨ sc.names.lookup x = some .cell
def Look (env : Env) (h : Heap) (m : Str → Option Value) (x : Str) (u : Value) : Prop :=
  (env.kindOf x = some .local ∧ m x = some u) ∨ ((env.kindOf x = some .cell ∨ env.kindOf x = some .free) ∧ ∃ c, env.cells.lookup x = some c ∧ h.IsCell c (some u))
structure Cx.Ok (X : Cx) : Prop where
  mod : Mod X.K X.mg X.base
  kind : X.env.scope.kind = .function
  glob : X.env.globals = mainGlobals
  blt : X.env.builtins = builtinsNs
  above : X.s₀.heap.objs.size ≤ X.env.locals
  inj : ∀ x y c, X.env.cells.lookup x = some c → X.env.cells.lookup y = some c → x = y
  has : ∀ x, (X.env.kindOf x = some .cell ∨ X.env.kindOf x = some .free) → ∃ c, X.env.cells.lookup x = some c
  cab : ∀ x c, X.fn x = true → X.env.cells.lookup x = some c → X.s₀.heap.objs.size ≤ c
  hd : X.calm = true → X.A.handled = none
  frames : X.A.frames = some X.stack
  stk : X.stack = X.outer ∨ (X.stack = X.env :: X.outer ∧ X.env.frame = some X.env.locals)
  exf : ∀ b ∈ X.ex, b ≠ X.env.locals ∧ ∀ x c, X.env.cells.lookup x = some c → c ≠ b
  bs : ∀ b o, X.base.get? b = some o → X.s₀.heap.get? b = some o ∧ X.H₀ b = none
  bsz : X.base.objs.size ≤ X.s₀.heap.objs.size
  noex : ∀ b o, X.base.get? b = some o → b ∉ X.ex
  exfs : ∀ b ∈ X.ex, b ∉ X.fs
  funs : X.s₀.heap.FunFrames X.base X.outer
  frf : ∀ b ∈ X.fs, X.H₀ b = none
structure Inv (X : Cx) (pins : List (Addr × Obj)) (σ : List (Option V)) (H : Hp) (s : Shared) : Prop where
  ok : X.Ok
  os : s.os = X.s₀.os
  bare : AllBare s.gens
  base : Un X.fs X.ex X.H₀ H X.s₀.heap s.heap
  loc : ∃ m, s.heap.Ns X.env.locals m ∧ ∀ (i : Nat) (x : Str) (v : V), X.N[i]? = some x → σ[i]? = some (some v) → Vis X.env.scope x → ∃ u, RelV v u ∧ Look X.env s.heap m x u
  cell : ∀ x c, X.env.cells.lookup x = some c → ∃ v, s.heap.IsCell c v
  free : H X.env.locals = none
  freeC : ∀ x c, X.env.cells.lookup x = some c → H c = none
  pin : ∀ p ∈ X.pn ++ pins, s.heap.get? p.1 = some p.2 ∧ H p.1 = none ∧ p.1 ≠ X.env.locals ∧ p.1 ∉ X.fs ∧ ∀ v, p.2.data ≠ .cell v
  hok : HOk X.prog X.w H s.heap
  len : σ.length = X.N.length
section
variable {X : Cx} {pins : List (Addr × Obj)} {σ : List (Option V)} {H H' : Hp} {s : Shared} {h' : Heap}
theorem Cx.Ok.nofr (ok : X.Ok) {b : Addr} {o : Obj} (e : X.base.get? b = some o) : b ∉ X.fs := fun hb => by
  have := (ok.funs.mem hb).1
  rw [e] at this; cases this
theorem Inv.bs (I : Inv X pins σ H s) : ∀ b o, X.base.get? b = some o → s.heap.get? b = some o ∧ H b = none := fun b o e =>
  ⟨I.base.keep b o (I.ok.bs b o e).1 (I.ok.bs b o e).2 (I.ok.nofr e) (I.ok.noex b o e), I.base.free b o (I.ok.bs b o e).1 (I.ok.bs b o e).2 (I.ok.noex b o e)⟩
theorem Inv.bk (I : Inv X pins σ H s) : ∀ b o, X.base.get? b = some o → s.heap.get? b = some o := fun b o e => (I.bs b o e).1
theorem Inv.mod (I : Inv X pins σ H s) : Mod X.K X.mg X.base := I.ok.mod
theorem Inv.kIn (I : Inv X pins σ H s) : X.K.In s.heap := I.ok.mod.kin.keeps I.bk
theorem Inv.nolimit (I : Inv X pins σ H s) : s.heap.NoLimit := I.ok.mod.nolimit.keeps I.bk
theorem Inv.fr (I : Inv X pins σ H s) : ∃ m, Fr X.base X.env.locals s.heap m :=
  let ⟨m, hn, _⟩ := I.loc
  ⟨m, hn, I.bk, Nat.le_trans I.ok.bsz I.ok.above⟩
theorem Inv.lt (I : Inv X pins σ H s) : X.env.locals < s.heap.objs.size := let ⟨_, hn, _⟩ := I.loc; hn.lt
theorem Inv.sz (I : Inv X pins σ H s) : X.s₀.heap.objs.size ≤ s.heap.objs.size := Nat.le_trans I.ok.above (Nat.le_of_lt I.lt)
theorem Inv.nofs (I : Inv X pins σ H s) {a : Addr} (h : s.heap.objs.size ≤ a) : a ∉ X.fs := fun hb => by
  obtain ⟨_, o, ho, _⟩ := I.ok.funs.mem hb
  exact absurd (Nat.lt_of_lt_of_le (Heap.lt_size ho) (Nat.le_trans I.sz h)) (Nat.lt_irrefl _)
theorem Inv.cne (I : Inv X pins σ H s) : ∀ x c, X.env.cells.lookup x = some c → c ≠ X.env.locals := fun x c e z => by
  obtain ⟨v, o, ho, hd⟩ := I.cell x c e
  obtain ⟨m, ⟨o', es, ep, ho', hd', _⟩, _⟩ := I.loc
  rw [z, ho'] at ho; cases ho; rw [hd'] at hd; cases hd
theorem Inv.funs (I : Inv X pins σ H s) : s.heap.FunFrames X.base X.outer := by
  have all : ∀ (l : List Env), (∀ b ∈ frs l, b ∈ X.fs) → X.s₀.heap.FunFrames X.base l → s.heap.FunFrames X.base l := by
    intro l
    induction l with
    | nil => intro _ _; trivial
    | cons env r ih =>
      intro hs hl
      obtain ⟨hk, ⟨L, o, hf, hn, ho, hd⟩, hr⟩ := hl
      have hL : L ∈ X.fs := hs L (by unfold frs; rw [List.filterMap_cons, hf]; exact List.mem_cons_self)
      obtain ⟨sl, e⟩ := I.base.slot L o ho (I.ok.frf L hL) hL fun z => I.ok.exfs L z hL
      exact ⟨hk, ⟨L, _, hf, hn, e, hd⟩, ih (fun b hb => hs b (by unfold frs; rw [List.filterMap_cons, hf]; exact List.mem_cons_of_mem _ hb)) hr⟩
  exact all X.outer (fun _ hb => hb) I.ok.funs
theorem Inv.stack (I : Inv X pins σ H s) : s.heap.FunFrames X.base X.stack := by
  rcases I.ok.stk with e | ⟨e, hf⟩
  · rw [e]; exact I.funs
  · rw [e]
    obtain ⟨m, hn, _⟩ := I.loc
    refine .cons (by rw [I.ok.kind]; decide) hf hn ?_ I.funs
    exact Heap.get?_none_of_le (Nat.le_trans I.ok.bsz I.ok.above)
theorem Inv.stkSub (I : Inv X pins σ H s) : ∀ b ∈ frs X.stack, b ∈ X.env.locals :: X.fs := fun b hb => by
  rcases I.ok.stk with e | ⟨e, hf⟩
  · rw [e] at hb; exact List.mem_cons_of_mem _ hb
  · rw [e] at hb
    unfold frs at hb
    rw [List.filterMap_cons, hf] at hb
    exact hb
theorem Inv.stkFree (I : Inv X pins σ H s) : ∀ b ∈ frs X.stack, H b = none := fun b hb => by
  rcases List.mem_cons.mp (I.stkSub b hb) with e | hb
  · rw [e]; exact I.free
  · obtain ⟨_, o, ho, _⟩ := I.ok.funs.mem hb
    exact I.base.free b o ho (I.ok.frf b hb) fun z => I.ok.exfs b z hb
theorem Inv.step {g' : Array GenState} {t' : Nat} {d' : Drawn} {ch : List Addr} (I : Inv X pins σ H s)
    (hch : ∀ b ∈ ch, (b ∈ X.ex ∨ X.s₀.heap.objs.size ≤ b) ∧ b ≠ X.env.locals ∧ (∀ x c, X.env.cells.lookup x = some c → c ≠ b) ∧ ∀ p ∈ X.pn ++ pins, p.1 ≠ b)
    (keep : ∀ b o, b ≠ X.env.locals → b ∉ X.fs → b ∉ ch → s.heap.get? b = some o → H b = none → h'.get? b = some o)
    (slot : ∀ b o, b ≠ X.env.locals → b ∈ X.fs → b ∉ ch → s.heap.get? b = some o → H b = none → ∃ sl, h'.get? b = some { o with slots := sl }) (free : ∀ b o, b ∉ ch → s.heap.get? b = some o → H b = none → H' b = none)
    (there : ∀ b o, b ∉ ch → s.heap.get? b = some o → ∃ o', h'.get? b = some o')
    (tups : ∀ b xs, H b = some (.tup xs) → H' b = some (.tup xs)) (frzs : ∀ b o u, H b = some (.frz o u) → H' b = some (.frz o u)) (tbls : ∀ b ps, H b = some (.tbl ps) → ∃ more, H' b = some (.tbl (ps ++ more)))
    (ns : ∀ m, s.heap.Ns X.env.locals m → h'.Ns X.env.locals m) (hok : HOk X.prog X.w H' h') (hg : AllBare g') :
    Inv X pins σ H' { s with heap := h', gens := g', drawn := d', toks := t' } := by
  have neL : ∀ b o, X.s₀.heap.get? b = some o → b ≠ X.env.locals := fun b o e => Nat.ne_of_lt (Nat.lt_of_lt_of_le (Heap.lt_size e) I.ok.above)
  have neC : ∀ b o, X.s₀.heap.get? b = some o → b ∉ X.ex → b ∉ ch := fun b o e hx hb => by
    rcases (hch b hb).1 with z | z
    · exact hx z
    · exact absurd (Nat.lt_of_lt_of_le (Heap.lt_size e) z) (Nat.lt_irrefl _)
  have cellK : ∀ x c, X.env.cells.lookup x = some c → ∀ v, s.heap.IsCell c v → h'.IsCell c v := fun x c e v ⟨o, ho, hd⟩ => by
    have nch : c ∉ ch := fun z => (hch c z).2.2.1 x c e rfl
    by_cases hc : c ∈ X.fs
    · obtain ⟨sl, q⟩ := slot c o (I.cne x c e) hc nch ho (I.freeC x c e)
      exact ⟨_, q, hd⟩
    · exact ⟨o, keep c o (I.cne x c e) hc nch ho (I.freeC x c e), hd⟩
  refine ⟨I.ok, I.os, hg, ⟨fun b o e n hb hx => ?_, fun b o e n hb hx => ?_, fun b o e n hx => ?_, fun b o e hx => ?_, fun b xs e => tups b xs (I.base.tups b xs e), fun b o xs e => frzs b o xs (I.base.frzs b o xs e), fun b ps e => ?_⟩, ?_, fun x c e => ?_, ?_, fun x c e => ?_, fun p hp => ?_, hok, I.len⟩
  · exact keep b o (neL b o e) hb (neC b o e hx) (I.base.keep b o e n hb hx) (I.base.free b o e n hx)
  · obtain ⟨sl, e1⟩ := I.base.slot b o e n hb hx
    obtain ⟨sl', e2⟩ := slot b _ (neL b o e) hb (neC b o e hx) e1 (I.base.free b o e n hx)
    exact ⟨sl', e2⟩
  · obtain ⟨o', e1⟩ := I.base.there b o e hx
    exact free b o' (neC b o e hx) e1 (I.base.free b o e n hx)
  · obtain ⟨o', e1⟩ := I.base.there b o e hx
    exact there b o' (neC b o e hx) e1
  · obtain ⟨m1, e1⟩ := I.base.tbls b ps e
    obtain ⟨m2, e2⟩ := tbls b _ e1
    exact ⟨m1 ++ m2, by rw [e2, Array.append_assoc]⟩
  · obtain ⟨m, hn, hl⟩ := I.loc
    refine ⟨m, ns m hn, fun i x v e1 e2 e3 => ?_⟩
    obtain ⟨u, r, l⟩ := hl i x v e1 e2 e3
    refine ⟨u, r, ?_⟩
    rcases l with l | ⟨k, c, e, z⟩
    · exact .inl l
    · exact .inr ⟨k, c, e, cellK x c e _ z⟩
  · obtain ⟨v, z⟩ := I.cell x c e
    exact ⟨v, cellK x c e v z⟩
  · obtain ⟨m, ⟨o, _, _, ho, _⟩, _⟩ := I.loc
    exact free _ o (fun z => (hch _ z).2.1 rfl) ho I.free
  · obtain ⟨v, o, ho, hd⟩ := I.cell x c e
    exact free c o (fun z => (hch c z).2.2.1 x c e rfl) ho (I.freeC x c e)
  · obtain ⟨e, n, ne, nf, d⟩ := I.pin p hp
    have nch : p.1 ∉ ch := fun z => (hch p.1 z).2.2.2 p hp rfl
    exact ⟨keep p.1 p.2 ne nf nch e n, free p.1 p.2 nch e n, ne, nf, d⟩
theorem Inv.un {t' : Nat} (I : Inv X pins σ H s) (u : Un X.fs [] H H' s.heap h') (hok : HOk X.prog X.w H' h') : Inv X pins σ H' { s with heap := h', toks := t' } := by
  obtain ⟨m, ⟨o, es, ep, ho, r⟩, _⟩ := id I.loc
  obtain ⟨sl, hL⟩ := u.any ho I.free (by simp)
  exact I.step (g' := s.gens) (d' := s.drawn) (ch := []) (fun _ z => nomatch z) (fun b o _ hb _ e n => u.keep b o e n hb (by simp)) (fun b o _ hb _ e n => u.slot b o e n hb (by simp)) (fun b o _ e n => u.free b o e n (by simp)) (fun b o _ e => u.there b o e (by simp)) u.tups u.frzs u.tbls (fun m' hm => by
    obtain ⟨o', es', ep', ho', r'⟩ := hm
    rw [ho] at ho'; cases ho'
    exact ⟨_, es', ep', hL, r'⟩) hok I.bare
theorem Inv.call {g' : Array GenState} {t' : Nat} {d' : Drawn} {ch : List Addr} (I : Inv X pins σ H s) (u : Un (frs X.stack) ch H H' s.heap h') (hok : HOk X.prog X.w H' h') (hg : AllBare g')
    (hch : ∀ b ∈ ch, (b ∈ X.ex ∨ X.s₀.heap.objs.size ≤ b) ∧ b ≠ X.env.locals ∧ (∀ x c, X.env.cells.lookup x = some c → c ≠ b) ∧ ∀ p ∈ X.pn ++ pins, p.1 ≠ b) :
    Inv X pins σ H' { s with heap := h', gens := g', drawn := d', toks := t' } := by
  obtain ⟨m, ⟨o, es, ep, ho, r⟩, _⟩ := id I.loc
  obtain ⟨sl, hL⟩ := u.any ho I.free fun z => (hch _ z).2.1 rfl
  exact I.step (ch := ch) hch (fun b o hL hb hc e n => u.keep b o e n (fun z => (List.mem_cons.mp (I.stkSub b z)).elim hL hb) hc) (fun b o _ _ hc e n => u.any e n hc) (fun b o hc e n => u.free b o e n hc) (fun b o hc e => u.there b o e hc) u.tups u.frzs u.tbls (fun m' hm => by
    obtain ⟨o', es', ep', ho', r'⟩ := hm
    rw [ho] at ho'; cases ho'
    exact ⟨_, es', ep', hL, r'⟩) hok hg
theorem Inv.turned {t' : Nat} {it : Addr} (I : Inv X pins σ H s) (k : ∀ b o, b ≠ it → s.heap.get? b = some o → h'.get? b = some o) (hn : H it = none) (hL : it ≠ X.env.locals)
    (h1 : it ∈ X.ex ∨ X.s₀.heap.objs.size ≤ it) (h2 : ∀ x c, X.env.cells.lookup x = some c → c ≠ it) (h3 : ∀ p ∈ X.pn ++ pins, p.1 ≠ it) : Inv X pins σ H { s with heap := h', toks := t' } := by
  have nit : ∀ b u, H b = some u → b ≠ it := fun b u e z => by rw [z, hn] at e; cases e
  refine I.step (g' := s.gens) (d' := s.drawn) (ch := [it]) (fun b hb => ?_) (fun b o _ _ hc e _ => k b o (fun z => hc (by simp [z])) e) (fun b o _ _ hc e _ => ⟨o.slots, k b o (fun z => hc (by simp [z])) e⟩) (fun _ _ _ _ n => n)
    (fun b o hc e => ⟨o, k b o (fun z => hc (by simp [z])) e⟩) (fun _ _ e => e) (fun _ _ _ e => e) (fun b ps e => ⟨#[], by rw [e]; simp⟩) (fun m hm => ?_) (fun b u e => ?_) I.bare
  · have e : b = it := by simpa using hb
    subst e
    exact ⟨h1, hL, h2, h3⟩
  · obtain ⟨o, es, ep, ho, r⟩ := hm
    exact ⟨o, es, ep, k _ o (Ne.symm hL) ho, r⟩
  · refine (I.hok b u e).stay (fun c v hc q => k c v ?_ q) (fun _ q => q) fun _ _ q => q
    rcases hc with z | z
    · rw [z]; exact nit b u e
    · exact nit c _ z
theorem Inv.tok (I : Inv X pins σ H s) (t : Nat) : Inv X pins σ H { s with toks := t } := I.un (h' := s.heap) (t' := t) Un.refl I.hok
theorem Inv.kept {t' : Nat} (I : Inv X pins σ H s) (k : ∀ b u, s.heap.get? b = some u → h'.get? b = some u) : Inv X pins σ H { s with heap := h', toks := t' } := I.un (Un.kept k) (I.hok.kept k)
theorem Inv.laid {a : Addr} {o : HO} {t' : Nat} (I : Inv X pins σ H s) (k : ∀ b u, s.heap.get? b = some u → h'.get? b = some u) (hp : s.heap.objs.size ≤ a) (new : ObjOk X.prog X.w (upd H a o) h' a o) :
    Inv X pins σ (upd H a o) { s with heap := h', toks := t' } := I.un (Un.laid k hp (I.hok.fresh hp)) (I.hok.laid k hp new)
theorem Inv.write {x e : Addr} {o : HO} {t' : Nat} (I : Inv X pins σ H s) (mu : Mut (H x)) (he : e = x ∨ H e = some (.own x)) (k : ∀ b u, b ≠ e → s.heap.get? b = some u → h'.get? b = some u) (heo : ∃ u, h'.get? e = some u)
    (new : ObjOk X.prog X.w (upd H x o) h' x o) : Inv X pins σ (upd H x o) { s with heap := h', toks := t' } := I.un (Un.write mu he k heo) (I.hok.write mu he k heo new)
theorem Inv.pins_of {pins' : List (Addr × Obj)} (I : Inv X pins σ H s) (h : ∀ p ∈ pins', s.heap.get? p.1 = some p.2 ∧ H p.1 = none ∧ p.1 ≠ X.env.locals ∧ p.1 ∉ X.fs ∧ ∀ v, p.2.data ≠ .cell v) : Inv X pins' σ H s :=
  ⟨I.ok, I.os, I.bare, I.base, I.loc, I.cell, I.free, I.freeC, fun p hp => (List.mem_append.mp hp).elim (fun z => I.pin p (List.mem_append_left _ z)) (h p), I.hok, I.len⟩
theorem nodup_ix {N : List Str} (hN : N.Nodup) {i j : Nat} {x : Str} (a : N[i]? = some x) (b : N[j]? = some x) : i = j := by
  obtain ⟨h1, e1⟩ := List.getElem?_eq_some_iff.mp a
  obtain ⟨h2, e2⟩ := List.getElem?_eq_some_iff.mp b
  exact (List.getElem_inj hN).mp (e1.trans e2.symm)
theorem store_ok2 {M : Model} {A : Around} {E : Value → Shared → Prop} {i : Nat} {x : Str} {v : V} {u : Value} {Q : Unit → Shared → Prop} (I : Inv X pins σ H s) (hN : X.N.Nodup) (hi : X.N[i]? = some x) (hx : Loc X.env.scope x) (r : RelV v u)
    (h : ∀ s', Inv X pins (σ.set i (some v)) H s' → (∃ a, Heap.SameBut a s.heap s'.heap ∧ (a = X.env.locals ∨ X.env.cells.lookup x = some a)) → Q () s') (hf : X.fn x = true ∨ X.env.scope.names.lookup x = some .local := by first | exact .inl rfl | exact .inr rfl | assumption) : wpAny M A (storeName X.env x u) Q E s := by
  obtain ⟨m, hn, hl⟩ := id I.loc
  have hcls : (X.env.scope.kind == .class || (X.env.scope.kind == .module && X.env.locals != X.env.globals)) = false := by rw [I.ok.kind]; rfl
  have hiσ : i < σ.length := by rw [I.len]; exact (List.getElem?_eq_some_iff.mp hi).1
  have cne := I.cne
  have tracked : ∀ {a : Addr} {h' : Heap}, (∃ o, s.heap.get? a = some o ∧ H a = none) → Heap.SameBut a s.heap h' → HOk X.prog X.w H h' := fun {a h'} ha hs b ob e => by
    obtain ⟨_, _, hfree⟩ := ha
    refine (I.hok b ob e).stay (fun c w' hc q => (hs.2 c ?_).trans q) (fun _ q => q) fun _ _ q => q
    rintro rfl
    rcases hc with rfl | hc
    · rw [hfree] at e; cases e
    · rw [hfree] at hc; cases hc
  rcases hx with hk | hk
  · refine wpAny_storeName_local hk hn (fun h' hn' hs => ?_) hcls
    obtain ⟨oL, _, _, hoL, _⟩ := id hn
    refine h _ ⟨I.ok, I.os, I.bare, ⟨fun b o e n hb hx => ?_, fun b o e n hb hx => ?_, I.base.free, fun b o e hx => ?_, I.base.tups, I.base.frzs, I.base.tbls⟩, ⟨_, hn', fun j y v' e1 e2 e3 => ?_⟩, fun y c e => ?_, I.free, I.freeC, fun p hp => ?_, tracked ⟨oL, hoL, I.free⟩ hs, by simpa using I.len⟩ ⟨_, hs, .inl rfl⟩
    · exact (hs.2 b (Nat.ne_of_lt (Nat.lt_of_lt_of_le (Heap.lt_size e) I.ok.above))).trans (I.base.keep b o e n hb hx)
    · obtain ⟨sl, e1⟩ := I.base.slot b o e n hb hx
      exact ⟨sl, (hs.2 b (Nat.ne_of_lt (Nat.lt_of_lt_of_le (Heap.lt_size e) I.ok.above))).trans e1⟩
    · obtain ⟨o', e1⟩ := I.base.there b o e hx
      exact ⟨o', (hs.2 b (Nat.ne_of_lt (Nat.lt_of_lt_of_le (Heap.lt_size e) I.ok.above))).trans e1⟩
    · by_cases hj : j = i
      · subst hj
        rw [hi] at e1; cases e1
        rw [List.getElem?_set_self hiσ] at e2
        cases e2
        exact ⟨u, r, .inl ⟨hk, by simp⟩⟩
      · rw [List.getElem?_set_ne (Ne.symm hj)] at e2
        obtain ⟨u', r', q⟩ := hl j y v' e1 e2 e3
        refine ⟨u', r', ?_⟩
        rcases q with ⟨k, e⟩ | ⟨k, c, e, z⟩
        · refine .inl ⟨k, ?_⟩
          have : y ≠ x := fun e => hj (nodup_ix hN e1 (e ▸ hi))
          simp [this, e]
        · exact .inr ⟨k, c, e, z.sameBut hs (cne y c e)⟩
    · obtain ⟨w', z⟩ := I.cell y c e
      exact ⟨w', z.sameBut hs (cne y c e)⟩
    · obtain ⟨e, n, ne, nf, d⟩ := I.pin p hp
      exact ⟨(hs.2 p.1 ne).trans e, n, ne, nf, d⟩
  · have hfn : X.fn x = true := by
      rcases hf with z | z
      · exact z
      · rw [z] at hk; cases hk
    obtain ⟨c, hc⟩ := I.ok.has x (.inl hk)
    obtain ⟨w', z⟩ := I.cell x c hc
    refine wpAny_storeName_cell I.ok.kind hk hc z (fun h' hc' hs => ?_)
    obtain ⟨oc, hoc, hocd⟩ := id z
    refine h { s with heap := h' } ⟨I.ok, I.os, I.bare, ⟨fun b o e n hb hx => ?_, fun b o e n hb hx => ?_, I.base.free, fun b o e hx => ?_, I.base.tups, I.base.frzs, I.base.tbls⟩, ⟨m, hn.sameBut hs (Ne.symm (cne x c hc)), fun j y v' e1 e2 e3 => ?_⟩, fun y c' e => ?_, I.free, I.freeC, fun p hp => ?_, tracked ⟨oc, hoc, I.freeC x c hc⟩ hs, by simpa using I.len⟩ ⟨c, hs, .inr hc⟩
    · exact (hs.2 b (Nat.ne_of_lt (Nat.lt_of_lt_of_le (Heap.lt_size e) (I.ok.cab x c hfn hc)))).trans (I.base.keep b o e n hb hx)
    · obtain ⟨sl, e1⟩ := I.base.slot b o e n hb hx
      exact ⟨sl, (hs.2 b (Nat.ne_of_lt (Nat.lt_of_lt_of_le (Heap.lt_size e) (I.ok.cab x c hfn hc)))).trans e1⟩
    · obtain ⟨o', e1⟩ := I.base.there b o e hx
      exact ⟨o', (hs.2 b (Nat.ne_of_lt (Nat.lt_of_lt_of_le (Heap.lt_size e) (I.ok.cab x c hfn hc)))).trans e1⟩
    · by_cases hj : j = i
      · subst hj
        rw [hi] at e1; cases e1
        rw [List.getElem?_set_self hiσ] at e2
        cases e2
        exact ⟨u, r, .inr ⟨.inl hk, c, hc, hc'⟩⟩
      · rw [List.getElem?_set_ne (Ne.symm hj)] at e2
        obtain ⟨u', r', q⟩ := hl j y v' e1 e2 e3
        refine ⟨u', r', ?_⟩
        rcases q with q | ⟨k, c', e, z'⟩
        · exact .inl q
        · refine .inr ⟨k, c', e, z'.sameBut hs ?_⟩
          rintro rfl
          exact hj (nodup_ix hN e1 (I.ok.inj _ _ _ e hc ▸ hi))
    · by_cases hcc : c' = c
      · subst hcc; exact ⟨_, hc'⟩
      · obtain ⟨w2, z2⟩ := I.cell y c' e
        exact ⟨w2, z2.sameBut hs hcc⟩
    · obtain ⟨e, n, ne, nf, d⟩ := I.pin p hp
      refine ⟨(hs.2 p.1 ?_).trans e, n, ne, nf, d⟩
      intro q
      rw [q, hoc] at e
      have q' : oc = p.2 := Option.some.inj e
      exact d w' (by rw [← q']; exact hocd)
theorem store_ok {M : Model} {A : Around} {E : Value → Shared → Prop} {i : Nat} {x : Str} {v : V} {u : Value} {Q : Unit → Shared → Prop} (I : Inv X pins σ H s) (hN : X.N.Nodup) (hi : X.N[i]? = some x) (hx : Loc X.env.scope x) (r : RelV v u)
    (h : ∀ s', Inv X pins (σ.set i (some v)) H s' → Q () s') (hf : X.fn x = true ∨ X.env.scope.names.lookup x = some .local := by first | exact .inl rfl | exact .inr rfl | assumption) : wpAny M A (storeName X.env x u) Q E s :=
  store_ok2 I hN hi hx r (fun s' I' _ => h s' I') hf
theorem Inv.call' {s' : Shared} {ch : List Addr} (I : Inv X pins σ H s) (ho : s'.os = s.os) (u : Un (frs X.stack) ch H H' s.heap s'.heap) (hok : HOk X.prog X.w H' s'.heap) (hg : AllBare s'.gens)
    (hch : ∀ b ∈ ch, (b ∈ X.ex ∨ X.s₀.heap.objs.size ≤ b) ∧ b ≠ X.env.locals ∧ (∀ x c, X.env.cells.lookup x = some c → c ≠ b) ∧ ∀ p ∈ X.pn ++ pins, p.1 ≠ b) : Inv X pins σ H' s' := by
  obtain ⟨h', g', d', t', o'⟩ := s'
  have e : o' = s.os := ho
  subst e
  exact I.call (g' := g') (t' := t') (d' := d') u hok hg hch
end
abbrev XK := Value → Option Addr → Hp → Prop
abbrev St := List (Option V)
abbrev VK := V → Hp → Prop
abbrev TE := St → Hp → VK → Prop
abbrev TT := St → Hp → (Bool → Hp → Prop) → Prop
abbrev TA := St → Hp → (List V → Hp → Prop) → Prop
structure Ends where
  nx : St → Hp → Prop
  rt : VK
  bk : St → Hp → Prop := fun _ _ => False
  ct : St → Hp → Prop := fun _ _ => False
abbrev TS := Ends → St → Hp → Prop
def EP (X : Cx) (pins : List (Addr × Obj)) (σ : St) (Q : VK) (u : Value) (s' : Shared) : Prop := ∃ v H', Inv X pins σ H' s' ∧ RelV v u ∧ Q v H'
def TP (X : Cx) (pins : List (Addr × Obj)) (σ : St) (Q : Bool → Hp → Prop) (b : Bool) (s' : Shared) : Prop := ∃ H', Inv X pins σ H' s' ∧ Q b H'
def AP (X : Cx) (pins : List (Addr × Obj)) (σ : St) (Q : List V → Hp → Prop) (us : List Value) (s' : Shared) : Prop := ∃ vs H', Inv X pins σ H' s' ∧ Vals vs us ∧ Q vs H'
def SP (X : Cx) (pins : List (Addr × Obj)) (D : Ends) (f : Flow) (s' : Shared) : Prop :=
  match f with
  | .next => ∃ σ' H', Inv X pins σ' H' s' ∧ D.nx σ' H'
  | .brk => ∃ σ' H', Inv X pins σ' H' s' ∧ D.bk σ' H'
  | .cont => ∃ σ' H', Inv X pins σ' H' s' ∧ D.ct σ' H'
  | .ret u => ∃ v σ' H', Inv X pins σ' H' s' ∧ RelV v u ∧ D.rt v H'
def PE (X : Cx) (e : Expr) (t : TE) : Prop :=
  ∀ (pins : List (Addr × Obj)) (s : Shared) (σ : St) (H : Hp) (Q : VK), Inv X pins σ H s → t σ H Q → wpAny (model X.prog X.w) X.A (eval e X.env) (EP X pins σ Q) X.xe s
def PT (X : Cx) (e : Expr) (t : TT) : Prop :=
  ∀ (pins : List (Addr × Obj)) (s : Shared) (σ : St) (H : Hp) (Q : Bool → Hp → Prop), Inv X pins σ H s → t σ H Q → wpAny (model X.prog X.w) X.A (isTrue e X.env (eval e X.env)) (TP X pins σ Q) X.xe s
def PW (X : Cx) (e : Expr) (t : TT) : Prop :=
  ∀ (whole : Sem Value) (pins : List (Addr × Obj)) (s : Shared) (σ : St) (H : Hp) (Q : Bool → Hp → Prop), Inv X pins σ H s → t σ H Q → wpAny (model X.prog X.w) X.A (isTrue e X.env whole) (TP X pins σ Q) X.xe s
theorem PW.pt {X : Cx} {e : Expr} {t : TT} (h : PW X e t) : PT X e t := h _
def PA (X : Cx) (es : List Expr) (t : TA) : Prop :=
  ∀ (pos : Pos) (pins : List (Addr × Obj)) (s : Shared) (σ : St) (H : Hp) (Q : List V → Hp → Prop), Inv X pins σ H s → t σ H Q → wpAny (model X.prog X.w) X.A (spliced (backTo pos (starEach es X.env))) (AP X pins σ Q) X.xe s
def PS (X : Cx) (st : Stmt) (t : TS) : Prop :=
  ∀ (pins : List (Addr × Obj)) (s : Shared) (σ : St) (H : Hp) (D : Ends), Inv X pins σ H s → t D σ H → wpAny (model X.prog X.w) X.A (exec st X.env) (SP X pins D) X.xe s
def PSs (X : Cx) (st : List Stmt) (t : TS) : Prop :=
  ∀ (pins : List (Addr × Obj)) (s : Shared) (σ : St) (H : Hp) (D : Ends), Inv X pins σ H s → t D σ H → wpAny (model X.prog X.w) X.A (execs st X.env) (SP X pins D) X.xe s
theorem thn {α : Type} {t : Sem α} {Q Q' : α → Shared → Prop} {M : Model} {A : Around} {E : Value → Shared → Prop} {s : Shared} (h : wpAny M A t Q E s) (hQ : ∀ a s, Q a s → Q' a s) : wpAny M A t Q' E s := wpAny_mono h hQ fun _ _ x => x
end L2
namespace L2
open PySem PySem.Spec PyProof.Rows
section
variable {X : Cx}
theorem bin {a b : Expr} {ta tb : TE} (ha : PE X a ta) (hb : PE X b tb) {pins : List (Addr × Obj)} {s : Shared} {σ : St} {H : Hp} {R : V → V → Hp → Prop} (I : Inv X pins σ H s) (h : ta σ H fun x H1 => tb σ H1 fun y H2 => R x y H2)
    {α : Type} {Q : α → Shared → Prop} {f : Value → Value → Sem α}
    (hf : ∀ v u s2 x y H2, Inv X pins σ H2 s2 → RelV x v → RelV y u → R x y H2 → wpAny (model X.prog X.w) X.A (f v u) Q X.xe s2) :
    wpAny (model X.prog X.w) X.A (eval a X.env) (fun v s₁ => wpAny (model X.prog X.w) X.A (eval b X.env) (fun u s₂ => wpAny (model X.prog X.w) X.A (f v u) Q X.xe s₂) X.xe s₁) X.xe s := by
  refine thn (ha pins s σ H _ I h) fun v s1 ⟨x, H1, I1, r1, q1⟩ => ?_
  refine thn (hb pins s1 σ H1 _ I1 q1) fun u s2 ⟨y, H2, I2, r2, q2⟩ => ?_
  exact hf v u s2 x y H2 I2 r1 r2 q2
def tVar (i : Nat) : TE := fun σ H Q => ∃ v, σ[i]? = some (some v) ∧ Q v H
def tC (v : V) : TE := fun _ H Q => Q v H
theorem pe_var {i : Nat} {x : Str} {pos : Pos} (hN : X.N[i]? = some x) (hv : Vis X.env.scope x) (hd : (x == ("__debug__" : Str)) = false := by decide) (hcd : (x == ("__classdict__" : Str)) = false := by decide) : PE X (.Name x pos) (tVar i) := by
  intro pins s σ H Q I h
  obtain ⟨v, e, h⟩ := h
  obtain ⟨m, hn, hl⟩ := I.loc
  obtain ⟨u, r, l⟩ := hl i x v hN e hv
  have fin : EP X pins σ Q u s := ⟨v, H, I, r, h⟩
  rcases l with ⟨hk, hm⟩ | ⟨hk, c, hc, hcell⟩
  · exact wpAny_Name (wpAny_loadName_local I.ok.kind hk hn hm fin) hd
  · rcases hk with hk | hk
    · exact wpAny_Name (wpAny_loadName_cell I.ok.kind hk hc hcell fin) hd
    · exact wpAny_Name (wpAny_loadName_free I.ok.kind hk hc hcell fin hcd) hd
theorem pe_int {i j pos} : PE X (.Constant (.int i) j pos) (tC (.int i)) := fun _ _ _ H _ I h => wpAny_Constant_int ⟨.int i, H, I.tok _, ⟨_, rfl⟩, h⟩
theorem pe_bl {b j pos} : PE X (.Constant (.bool b) j pos) (tC (.bl b)) := fun _ _ _ H _ I h => Constant_bool ⟨.bl b, H, I, rfl, h⟩
theorem pe_non {j pos} : PE X (.Constant .none j pos) (tC .non) := fun _ _ _ H _ I h => Constant_none ⟨.non, H, I, rfl, h⟩
theorem pe_str {x j pos} : PE X (.Constant (.str x) j pos) (tC (.str x)) := fun _ _ _ H _ I h => Calls.Constant_str ⟨.str x, H, I.tok _, ⟨_, rfl⟩, h⟩
def Gl (X : Cx) (x : Str) : Prop := X.env.kindOf x = some .globalImplicit
theorem ld_glob {E : Value → Shared → Prop} {pins : List (Addr × Obj)} {s : Shared} {σ : St} {H : Hp} {x : Str} {u : Value} {pos : Pos} {Q : Value → Shared → Prop} (I : Inv X pins σ H s) (hg : Gl X x) (hm : X.mg x = some u) (h : Q u s)
    (hd : (x == ("__debug__" : Str)) = false := by decide) : wpAny (model X.prog X.w) X.A (eval (.Name x pos) X.env) Q E s :=
  Calls.Name_function_global I.ok.kind hg (Calls.loadGlobal_global (by rw [I.ok.glob]; exact I.mod.glob.keeps I.bk) hm h) hd
theorem ld_blt {E : Value → Shared → Prop} {pins : List (Addr × Obj)} {s : Shared} {σ : St} {H : Hp} {x : Str} {u : Value} {pos : Pos} {Q : Value → Shared → Prop} (I : Inv X pins σ H s) (hg : Gl X x) (hm : X.mg x = none) (hv : bootBuiltins x = some u) (h : Q u s)
    (hn : x ≠ "__name__" := by decide) (hd : (x == ("__debug__" : Str)) = false := by decide) : wpAny (model X.prog X.w) X.A (eval (.Name x pos) X.env) Q E s := by
  obtain ⟨mb, h1, h2⟩ := I.mod.blt
  exact Calls.Name_function_global I.ok.kind hg (Calls.loadGlobal_builtin (by rw [I.ok.glob]; exact I.mod.glob.keeps I.bk) hm (by rw [I.ok.blt]; exact h1.keeps I.bk) ((h2 x hn).trans hv) h) hd
theorem pe_bltn {x : Str} {v : V} {u : Value} {pos : Pos} (hg : Gl X x) (hm : X.mg x = none) (hv : bootBuiltins x = some u) (r : RelV v u) (hn : x ≠ "__name__" := by decide) (hd : (x == ("__debug__" : Str)) = false := by decide) : PE X (.Name x pos) (tC v) :=
  fun _ _ _ H _ I h => ld_blt I hg hm hv ⟨v, H, I, r, h⟩ hn hd
variable {a b : Expr} {ta tb : TE} {pos : Pos}
def PC (X : Cx) (op : CmpOp) (a b : Expr) (t : TE) : Prop :=
  ∀ (pins : List (Addr × Obj)) (s : Shared) (σ : St) (H : Hp) (Q : VK), Inv X pins σ H s → t σ H Q →
    wpAny (model X.prog X.w) X.A (eval a X.env) (fun v s₁ => wpAny (model X.prog X.w) X.A (eval b X.env) (fun u s₂ => wpAny (model X.prog X.w) X.A (compareOp op v u) (EP X pins σ Q) X.xe s₂) X.xe s₁) X.xe s
theorem nobehind (b : Expr) {op : CmpOp} (h : op ≠ .In) (h2 : op ≠ .NotIn) : behindInMarks op b = false := by
  have e1 : (op == CmpOp.In) = false := by cases op <;> first | rfl | exact absurd rfl h
  have e2 : (op == CmpOp.NotIn) = false := by cases op <;> first | rfl | exact absurd rfl h2
  cases b <;> simp [behindInMarks, e1, e2]
def tB (t : TE) : TT := fun σ H Q => t σ H fun x H1 => ∃ c, x = .bl c ∧ Q c H1
theorem pt_cmp {op : CmpOp} {t : TE} (h : PC X op a b t) (h1 : behindInMarks op b = false := by first | exact nobehind _ (by decide) (by decide) | rfl) : PT X (.Compare a [op] [b] pos) (tB t) := by
  intro pins s σ H Q I hw
  refine wpAny_isTrue_Compare1 (thn (h pins s σ H _ I hw) fun v s1 h1 => thn h1 fun u s2 h2 => thn h2 fun c s3 ⟨x, H1, I1, r1, q1⟩ => ?_) h1
  obtain ⟨d, rfl, q⟩ := q1
  cases r1
  exact wpAny_truthy_bool ⟨H1, I1, q⟩
theorem pt_val {e : Expr} {t : TE} (h : PE X e t) (he : ∀ whole, isTrue e X.env whole = (do let v ← whole; standAt e.pos; holding [v] (truthy v)) := by intro _; rfl) : PT X e (tB t) := by
  intro pins s σ H Q I hw
  refine isTrue_plain (thn (h pins s σ H _ I hw) fun v s1 ⟨x, H1, I1, r1, q1⟩ => ?_) (he _)
  obtain ⟨d, rfl, q⟩ := q1
  cases r1
  exact wpAny_truthy_bool ⟨H1, I1, q⟩
variable {tA tB' : TT} {rest : List Expr}
def tAnd (t u : TT) : TT := fun σ H Q => t σ H fun c H1 => if c = true then u σ H1 Q else Q false H1
def tOr (t u : TT) : TT := fun σ H Q => t σ H fun c H1 => if c = true then Q true H1 else u σ H1 Q
def tNot (t : TT) : TT := fun σ H Q => t σ H fun c H1 => Q (!c) H1
theorem pw_and1 (ha : PT X a tA) : PW X (.BoolOp .And [a] pos) tA := by
  intro wh pins s σ H Q I h
  refine isTrue_and (thn (ha pins s σ H Q I h) fun c s1 e => ?_)
  cases c with
  | true => exact isTrue_and_nil e
  | false => exact e
theorem pw_or1 (ha : PT X a tA) : PW X (.BoolOp .Or [a] pos) tA := by
  intro wh pins s σ H Q I h
  refine isTrue_or (thn (ha pins s σ H Q I h) fun c s1 e => ?_)
  cases c with
  | false => exact isTrue_or_nil e
  | true => exact e
theorem pw_and (ha : PT X a tA) (hb : PW X (.BoolOp .And (b :: rest) pos) tB') : PW X (.BoolOp .And (a :: b :: rest) pos) (tAnd tA tB') := by
  intro wh pins s σ H Q I h
  refine isTrue_and (thn (ha pins s σ H _ I h) fun c s1 ⟨H1, I1, q1⟩ => ?_)
  cases c with
  | true => exact hb wh pins s1 σ H1 Q I1 q1
  | false => exact ⟨H1, I1, q1⟩
theorem pw_or (ha : PT X a tA) (hb : PW X (.BoolOp .Or (b :: rest) pos) tB') : PW X (.BoolOp .Or (a :: b :: rest) pos) (tOr tA tB') := by
  intro wh pins s σ H Q I h
  refine isTrue_or (thn (ha pins s σ H _ I h) fun c s1 ⟨H1, I1, q1⟩ => ?_)
  cases c with
  | true => exact ⟨H1, I1, q1⟩
  | false => exact hb wh pins s1 σ H1 Q I1 q1
theorem pt_not (ha : PT X a tA) : PT X (.UnaryOp .Not a pos) (tNot tA) := by
  intro pins s σ H Q I h
  exact isTrue_not (ha pins s σ H (fun c H1 => Q (!c) H1) I h)
def tAndV (ta tb : TE) : TE := fun σ H Q => ta σ H fun x H1 => ∃ c, x = .bl c ∧ if c = true then tb σ H1 Q else Q (.bl false) H1
theorem pe_one {op} {t : TE} (h : PE X a t) : PE X (.BoolOp op [a] pos) t := fun pins s σ H Q I hw => BoolOp_one (h pins s σ H Q I hw)
theorem pe_and (ha : PE X a ta) (hb : PE X (.BoolOp .And (b :: rest) pos) tb) : PE X (.BoolOp .And (a :: b :: rest) pos) (tAndV ta tb) := by
  intro pins s σ H Q I h
  refine BoolOp_and (thn (ha pins s σ H _ I h) fun v s1 ⟨x, H1, I1, r1, q1⟩ => ?_)
  obtain ⟨c, rfl, q1⟩ := q1
  cases r1
  refine wpAny_truthy_bool ?_
  cases c with
  | true => exact hb pins s1 σ H1 Q I1 q1
  | false => exact ⟨.bl false, H1, I1, rfl, q1⟩
def tIf (t : TT) (ta tb : TE) : TE := fun σ H Q => t σ H fun c H1 => if c = true then ta σ H1 Q else tb σ H1 Q
theorem pe_ifExp {c : Expr} (hc : PT X c tA) (ha : PE X a ta) (hb : PE X b tb) : PE X (.IfExp c a b pos) (tIf tA ta tb) := by
  intro pins s σ H Q I h
  refine wpAny_IfExp (thn (hc pins s σ H _ I h) fun d s1 ⟨H1, I1, q1⟩ => ?_)
  cases d with
  | true => exact ha pins s1 σ H1 Q I1 q1
  | false => exact hb pins s1 σ H1 Q I1 q1
end
end L2
namespace L2
open PySem PySem.Spec PyProof.Rows
def SqL (K : PySem.W.Frag) (H : Hp) (a : Addr) (xs : List V) : Prop :=
  Rd H a (.lst xs) ∨
    ∃ (o : Obj) (its : Array Value) (n : Nat), K.lookup a = some o ∧ o.cls = .type "list" ∧ o.dict = none ∧ o.data = .seq its n ∧ its.size ≤ sizeLine ∧ Vals xs its.toList
def SqT (K : PySem.W.Frag) (H : Hp) (a : Addr) (xs : List V) : Prop :=
  Rd H a (.tup xs) ∨
    ∃ (o : Obj) (its : Array Value) (n : Nat), K.lookup a = some o ∧ o.cls = .type "tuple" ∧ o.data = .seq its n ∧ its.size ≤ sizeLine ∧ Vals xs its.toList
def absV : Value → Option V
  | .none => some .non
  | .bool b => some (.bl b)
  | .int i _ => some (.int i)
  | .str x _ => some (.str x)
  | .bytes b _ => some (.byt b)
  | .float b _ => some (.flt b)
  | .ref a => some (.ref a)
  | .type n => some (.ty n)
  | _ => none
theorem RelV.abs {x : V} {u : Value} (r : RelV x u) : absV u = some x := by
  cases x with
  | non => cases r; rfl
  | bl _ => cases r; rfl
  | int _ => obtain ⟨t, rfl⟩ := r; rfl
  | str _ => obtain ⟨t, rfl⟩ := r; rfl
  | byt _ => obtain ⟨t, rfl⟩ := r; rfl
  | flt _ => obtain ⟨t, rfl⟩ := r; rfl
  | ref _ => cases r; rfl
  | ty _ => cases r; rfl
theorem RelV.inj {x y : V} {u : Value} (r : RelV x u) (q : RelV y u) : x = y := Option.some.inj (r.abs.symm.trans q.abs)
theorem Vals.inj : ∀ {xs ys : List V} {us : List Value}, Vals xs us → Vals ys us → xs = ys
  | _, _, _, .nil, .nil => rfl
  | _, _, _, .cons r t, .cons r' t' => by rw [r.inj r', Vals.inj t t']
section
variable {X : Cx} {pins : List (Addr × Obj)} {σ : St} {H : Hp} {s : Shared} {a : Addr} {xs ys : List V}
theorem SqL.of {K : PySem.W.Frag} (h : H a = some (.lst xs)) : SqL K H a xs := .inl (.inl h)
theorem SqT.of {K : PySem.W.Frag} (h : H a = some (.tup xs)) : SqT K H a xs := .inl (.inl h)
theorem Inv.list (I : Inv X pins σ H s) (h : SqL X.K H a xs) : ∃ its : List Value, Vals xs its ∧ PlainL s.heap a its.toArray ∧ xs.length ≤ sizeLine := by
  rcases h with h | ⟨o, its, n, hk, hc, hd, hs, hz, r⟩
  · obtain ⟨z, its, n, r, e⟩ := h.ok I.hok
    exact ⟨its, r, ⟨_, n, e, rfl, rfl, rfl⟩, z⟩
  · refine ⟨its.toList, r, ⟨o, n, I.kIn a o hk, hc, hd, by simpa using hs⟩, ?_⟩
    have e := r.length
    simp only [Array.length_toList] at e
    omega
theorem Inv.tuple (I : Inv X pins σ H s) (h : SqT X.K H a xs) : ∃ its : List Value, Vals xs its ∧ IsTup s.heap a its.toArray ∧ xs.length ≤ sizeLine := by
  rcases h with h | ⟨o, its, n, hk, hc, hs, hz, r⟩
  · obtain ⟨z, its, r, p⟩ := h.ok I.hok
    exact ⟨its, r, p, z⟩
  · refine ⟨its.toList, r, ⟨o, I.kIn a o hk, hc, n, by simpa using hs⟩, ?_⟩
    have e := r.length
    simp only [Array.length_toList] at e
    omega
theorem Inv.list_inj (I : Inv X pins σ H s) (h : SqL X.K H a xs) (h' : SqL X.K H a ys) : xs = ys := by
  obtain ⟨its, r, ⟨o, n, e, _, _, d⟩, _⟩ := I.list h
  obtain ⟨its', r', ⟨o', n', e', _, _, d'⟩, _⟩ := I.list h'
  rw [e] at e'; cases e'
  rw [d] at d'
  injection d' with d1 _
  have : its = its' := by simpa using congrArg Array.toList d1
  subst this
  exact r.inj r'
theorem Inv.tuple_inj (I : Inv X pins σ H s) (h : SqT X.K H a xs) (h' : SqT X.K H a ys) : xs = ys := by
  obtain ⟨its, r, ⟨o, e, _, n, d⟩, _⟩ := I.tuple h
  obtain ⟨its', r', ⟨o', e', _, n', d'⟩, _⟩ := I.tuple h'
  rw [e] at e'; cases e'
  rw [d] at d'
  injection d' with d1 _
  have : its = its' := by simpa using congrArg Array.toList d1
  subst this
  exact r.inj r'
end
abbrev Cx.wish (X : Cx) (E : Value → Shared → Prop) : Cx := { X with xe := E }
abbrev Cx.nox (X : Cx) : Cx := X.wish fun _ _ => False
theorem Cx.Ok.wish {X : Cx} (ok : X.Ok) (E : Value → Shared → Prop) : (X.wish E).Ok :=
  ⟨ok.mod, ok.kind, ok.glob, ok.blt, ok.above, ok.inj, ok.has, ok.cab, ok.hd, ok.frames, ok.stk, ok.exf, ok.bs, ok.bsz, ok.noex, ok.exfs, ok.funs, ok.frf⟩
theorem Cx.Ok.unwish {X : Cx} {E : Value → Shared → Prop} (ok : (X.wish E).Ok) : X.Ok :=
  ⟨ok.mod, ok.kind, ok.glob, ok.blt, ok.above, ok.inj, ok.has, ok.cab, ok.hd, ok.frames, ok.stk, ok.exf, ok.bs, ok.bsz, ok.noex, ok.exfs, ok.funs, ok.frf⟩
section
variable {X : Cx} {pins : List (Addr × Obj)} {σ : St} {H : Hp} {s : Shared} {E : Value → Shared → Prop}
theorem Inv.wish (I : Inv X pins σ H s) (E : Value → Shared → Prop) : Inv (X.wish E) pins σ H s := ⟨I.ok.wish E, I.os, I.bare, I.base, I.loc, I.cell, I.free, I.freeC, I.pin, I.hok, I.len⟩
theorem Inv.unwish (I : Inv (X.wish E) pins σ H s) : Inv X pins σ H s := ⟨I.ok.unwish, I.os, I.bare, I.base, I.loc, I.cell, I.free, I.freeC, I.pin, I.hok, I.len⟩
theorem SP.unwish {D : Ends} {f : Flow} {s' : Shared} (h : SP (X.wish E) pins D f s') : SP X pins D f s' := by
  cases f with
  | next => obtain ⟨σ', H', I, q⟩ := h; exact ⟨σ', H', I.unwish, q⟩
  | brk => obtain ⟨σ', H', I, q⟩ := h; exact ⟨σ', H', I.unwish, q⟩
  | cont => obtain ⟨σ', H', I, q⟩ := h; exact ⟨σ', H', I.unwish, q⟩
  | ret u => obtain ⟨v, σ', H', I, r, q⟩ := h; exact ⟨v, σ', H', I.unwish, r, q⟩
theorem PSs.nox {st : List Stmt} {t : TS} (h : PSs X.nox st t) : PSs X st t := fun pins s σ H D I hw =>
  wpAny_mono (h pins s σ H D (I.wish _) hw) (fun _ _ q => q.unwish) fun _ _ z => False.elim z
end
section
variable {X : Cx} {st : Stmt} {rest : List Stmt} {t u : TS} {e : Expr} {te : TE} {pos : Pos}
def tNext : TS := fun D σ H => D.nx σ H
def tSeq (t u : TS) : TS := fun D σ H => t { D with nx := u D } σ H
theorem pss_nil : PSs X [] tNext := fun _ _ σ H _ I h => wpAny_execs_nil ⟨σ, H, I, h⟩
theorem pss_cons (h1 : PS X st t) (h2 : PSs X rest u) : PSs X (st :: rest) (tSeq t u) := by
  intro pins s σ H D I h
  refine wpAny_execs_cons (thn (h1 pins s σ H { D with nx := u D } I h) fun f s1 q => ?_)
  cases f with
  | next =>
    obtain ⟨σ', H', I', q⟩ := q
    exact h2 pins s1 σ' H' D I' q
  | ret v => exact q
  | brk => exact q
  | cont => exact q
theorem pss_one (h1 : PS X st t) : PSs X [st] t := by
  intro pins s σ H D I h
  refine wpAny_execs_cons (thn (h1 pins s σ H D I h) fun f s1 q => ?_)
  cases f with
  | next => exact wpAny_execs_nil q
  | ret v => exact q
  | brk => exact q
  | cont => exact q
theorem Inv.quiet {pins : List (Addr × Obj)} {σ : St} {H : Hp} {s : Shared} (I : Inv X pins σ H s) : interactive X.env = false := by simp [interactive, I.ok.kind]
def tDrop (te : TE) : TS := fun D σ H => te σ H fun _ H1 => D.nx σ H1
theorem ps_expr (he : PE X e te) (hs : swapsWith e none pos.line X.env = pure false := by rfl) : PS X (.Expr e pos) (tDrop te) := by
  intro pins s σ H D I h
  exact wpAny_Expr_any (thn (he pins s σ H _ I h) fun v s1 ⟨x, H1, I1, r1, q1⟩ => ⟨σ, H1, I1, q1⟩) I.quiet hs
def tRet (te : TE) : TS := fun D σ H => te σ H D.rt
theorem ps_ret (he : PE X e te) : PS X (.Return (some e) pos) (tRet te) := by
  intro pins s σ H D I h
  exact wpAny_Return_some (thn (he pins s σ H _ I h) fun v s1 ⟨x, H1, I1, r1, q1⟩ => ⟨x, σ, H1, I1, r1, q1⟩)
def tIfS (c : TT) (t u : TS) : TS := fun D σ H => c σ H fun b H1 => if b = true then t D σ H1 else u D σ H1
theorem ps_if {c : Expr} {a b : List Stmt} {tc : TT} (hc : PT X c tc) (ha : PSs X a t) (hb : PSs X b u) : PS X (.If c a b pos) (tIfS tc t u) := by
  intro pins s σ H D I h
  refine wpAny_If (thn (hc pins s σ H _ I h) fun d s1 ⟨H1, I1, q1⟩ => ?_)
  cases d with
  | true => exact ha pins s1 σ H1 D I1 q1
  | false => exact hb pins s1 σ H1 D I1 q1
end
abbrev TG := V → St → Hp → (St → Hp → Prop) → Prop
abbrev TGs := List V → St → Hp → (St → Hp → Prop) → Prop
def PG (X : Cx) (target : Expr) (t : TG) : Prop :=
  ∀ (pins : List (Addr × Obj)) (s : Shared) (σ : St) (H : Hp) (v : V) (u : Value) (Q : St → Hp → Prop), Inv X pins σ H s → RelV v u → t v σ H Q →
    wpAny (model X.prog X.w) X.A (assign target X.env u) (fun _ s' => ∃ σ' H', Inv X pins σ' H' s' ∧ Q σ' H') X.xe s
def PGs (X : Cx) (ts : List Expr) (t : TGs) : Prop :=
  ∀ (pins : List (Addr × Obj)) (s : Shared) (σ : St) (H : Hp) (vs : List V) (us : List Value) (Q : St → Hp → Prop), Inv X pins σ H s → Vals vs us → t vs σ H Q →
    wpAny (model X.prog X.w) X.A (assignInOrder ((assignEach ts X.env).map (·.2)) us) (fun _ s' => ∃ σ' H', Inv X pins σ' H' s' ∧ Q σ' H') X.xe s
abbrev TSet := V → V → V → Hp → (Hp → Prop) → Prop
def PSet (X : Cx) (t : TSet) : Prop :=
  ∀ (pins : List (Addr × Obj)) (s : Shared) (σ : St) (H : Hp) (o i v : V) (ov iv u : Value) (Q : Hp → Prop), Inv X pins σ H s → RelV o ov → RelV i iv → RelV v u → t o i v H Q →
    wpAny (model X.prog X.w) X.A (setItem ov iv u) (fun _ s' => ∃ H', Inv X pins σ H' s' ∧ Q H') X.xe s
abbrev TIp := V → V → Hp → VK → Prop
def PIp (X : Cx) (op : Operator) (t : TIp) : Prop :=
  ∀ (pins : List (Addr × Obj)) (s : Shared) (σ : St) (H : Hp) (x y : V) (v u : Value) (Q : VK), Inv X pins σ H s → RelV x v → RelV y u → t x y H Q →
    wpAny (model X.prog X.w) X.A (inplaceOp op v u) (EP X pins σ Q) X.xe s
section
variable {X : Cx} {pos : Pos}
def gName (i : Nat) : TG := fun v σ H Q => Q (σ.set i (some v)) H
theorem pg_name {i : Nat} {x : Str} (hN : X.N.Nodup) (hi : X.N[i]? = some x) (hx : Loc X.env.scope x) (hf : X.fn x = true ∨ X.env.scope.names.lookup x = some .local := by first | exact .inl rfl | exact .inr rfl | assumption) : PG X (.Name x pos) (gName i) := by
  intro pins s σ H v u Q I r h
  exact wpAny_assign_Name (store_ok I hN hi hx r (fun s' I' => ⟨_, H, I', h⟩) hf)
def gNil : TGs := fun vs σ H Q => vs = [] ∧ Q σ H
def gCons (t : TG) (u : TGs) : TGs := fun vs σ H Q => ∃ v r, vs = v :: r ∧ t v σ H fun σ' H' => u r σ' H' Q
theorem pgs_nil : PGs X [] gNil := by
  intro pins s σ H vs us Q I r h
  obtain ⟨e, h⟩ := h
  subst e
  cases r
  exact assignInOrder_nil ⟨σ, H, I, h⟩
theorem pgs_cons {e : Expr} {es : List Expr} {t : TG} {u : TGs} (h1 : PG X e t) (h2 : PGs X es u)
    (hs : (assignEach (e :: es) X.env).map (·.2) = assign e X.env :: (assignEach es X.env).map (·.2) := by rfl) : PGs X (e :: es) (gCons t u) := by
  intro pins s σ H vs us Q I r h
  obtain ⟨v, vr, e1, h⟩ := h
  subst e1
  cases r with
  | cons r rr =>
    rw [hs]
    refine assignInOrder_cons (thn (h1 pins s σ H _ _ _ I r h) fun _ s1 ⟨σ1, H1, I1, q1⟩ => ?_)
    exact h2 pins s1 σ1 H1 _ _ Q I1 rr q1
def gTup (K : PySem.W.Frag) (n : Nat) (t : TGs) : TG := fun v σ H Q => ∃ a xs, v = .ref a ∧ SqT K H a xs ∧ xs.length = n ∧ t xs σ H Q
theorem pg_tup {es : List Expr} {k : Nat} {t : TGs} {n : Nat} (hc : X.calm = true) (h : PGs X es t)
    (hn : (assignEach es X.env).length = n := by rfl) (hst : (assignEach es X.env).findIdx? (·.1) = none := by rfl) : PG X (.Tuple es k pos) (gTup X.K n t) := by
  intro pins s σ H v u Q I r hw
  obtain ⟨a, xs, e1, hq, hl, hw⟩ := hw
  subst e1
  cases r
  obtain ⟨its, rv, ht, hz⟩ := I.tuple hq
  refine assign_Tuple_tuple (I.ok.hd hc) ht (by simp [hn, ← hl, rv.length]) hst fun h' hx => ?_
  have I1 : Inv X pins σ H { s with heap := h' } := I.kept (t' := s.toks) fun b o e => hx b o (Nat.ne_of_lt (Heap.lt_size e)) e
  exact h pins _ σ H xs _ Q I1 (by simpa using rv) hw
def gSub (to ti : TE) (t : TSet) : TG := fun v σ H Q => to σ H fun o H1 => ti σ H1 fun i H2 => t o i v H2 fun H3 => Q σ H3
theorem pg_sub {o i : Expr} {to ti : TE} {t : TSet} (ho : PE X o to) (hi : PE X i ti) (hs : PSet X t)
    (ha : ∀ v, assign (.Subscript o i pos) X.env v = (do
      let ov ← holding [v] (eval o X.env)
      let iv ← holding [v, ov] (eval i X.env)
      standAt pos
      holding [v, ov, iv] (setItem ov iv v)
      release [v, ov, iv] []) := by intro _; rfl) : PG X (.Subscript o i pos) (gSub to ti t) := by
  intro pins s σ H v u Q I r h
  rw [ha]
  refine wpAny_bind (wpAny_holding (thn (ho pins s σ H _ I h) fun ov s1 ⟨x, H1, I1, r1, q1⟩ => ?_))
  refine wpAny_bind (wpAny_holding (thn (hi pins s1 σ H1 _ I1 q1) fun iv s2 ⟨y, H2, I2, r2, q2⟩ => ?_))
  refine wpAny_bind (wpAny_standAt (wpAny_bind (wpAny_holding (thn (hs pins s2 σ H2 x y v ov iv u _ I2 r1 r2 r q2) fun _ s3 ⟨H3, I3, q3⟩ => ?_))))
  exact wpAny_release ⟨σ, H3, I3, q3⟩
def tAsg (te : TE) (g : TG) : TS := fun D σ H => te σ H fun x H1 => g x σ H1 D.nx
theorem ps_asg {tg e : Expr} {te : TE} {g : TG} (he : PE X e te) (hg : PG X tg g) (hs : swapsWithSole [tg] e pos.line X.env = pure false := by rfl) (hw : swappedStores [tg] e X.env = pure none := by rfl)
    (h1 : (assignEach [tg] X.env).map (·.2) = [assign tg X.env] := by rfl) : PS X (.Assign [tg] e pos) (tAsg te g) := by
  intro pins s σ H D I h
  refine wpAny_Assign_stores (thn (he pins s σ H _ I h) fun v s1 ⟨x, H1, I1, r1, q1⟩ => ?_) hs hw
  rw [h1]
  exact thn (hg pins s1 σ H1 x v _ I1 r1 q1) fun _ s2 q => q
theorem ps_set {i : Nat} {x : Str} {e : Expr} {te : TE} {pos' : Pos} (hN : X.N.Nodup) (hi : X.N[i]? = some x) (hx : Loc X.env.scope x) (he : PE X e te) (hs : swapsWith e (some (.Name x pos')) pos.line X.env = pure false := by rfl) (hf : X.fn x = true ∨ X.env.scope.names.lookup x = some .local := by first | exact .inl rfl | exact .inr rfl | assumption) :
    PS X (.Assign [.Name x pos'] e pos) (tAsg te (gName i)) := by
  intro pins s σ H D I h
  refine wpAny_Assign_Name (thn (he pins s σ H _ I h) fun v s1 ⟨y, H1, I1, r1, q1⟩ => ?_) hs
  exact store_ok I1 hN hi hx r1 (fun s2 I2 => ⟨_, H1, I2, q1⟩) hf
def tPar (i j : Nat) (ta : TA) : TS := fun D σ H => ta σ H fun vs H1 => ∃ v w, vs = [v, w] ∧ D.nx ((σ.set i (some v)).set j (some w)) H1
theorem ps_par {i j : Nat} {x y : Str} {a b : Expr} {ta : TA} {px py pt : Pos} {kt k2 pt2} (hc : X.calm = true) (hN : X.N.Nodup) (hi : X.N[i]? = some x) (hj : X.N[j]? = some y) (hij : i ≠ j)
    (hx : X.env.scope.names.lookup x = some .local) (hy : X.env.scope.names.lookup y = some .local) (ha : PA X [a, b] ta)
    (hw : swappedStores [.Tuple [.Name x px, .Name y py] kt pt] (.Tuple [a, b] k2 pt2) X.env = pure (some [x, y]))
    (hs : swapsWithSole [.Tuple [.Name x px, .Name y py] kt pt] (.Tuple [a, b] k2 pt2) pos.line X.env = pure false := by rfl) :
    PS X (.Assign [.Tuple [.Name x px, .Name y py] kt pt] (.Tuple [a, b] k2 pt2) pos) (tPar i j ta) := by
  intro pins s σ H D I h
  rw [exec_Assign_arm]
  refine wpAny_bind (wpAny_standAt ?_)
  rw [hs]
  refine wpAny_bind (wpAny_pure ?_)
  rw [if_neg (by decide)]
  refine wpAny_bind (Tuple_ (thn (ha _ pins s σ H _ I h) fun us s1 ⟨vs, H1, I1, r1, q1⟩ => ?_))
  obtain ⟨v, w, e1, q1⟩ := q1
  subst e1
  obtain ⟨u1, u2, rfl, rv, rw'⟩ : ∃ u1 u2, us = [u1, u2] ∧ RelV v u1 ∧ RelV w u2 := by
    cases r1 with
    | cons p q =>
      cases q with
      | cons p' q' =>
        cases q'
        exact ⟨_, _, rfl, p, p'⟩
  refine wpAny_newObj_type ?_ (by show 2 ≤ sizeLine; decide)
  have I2 : Inv X pins σ H1 { s1 with heap := s1.heap.push { cls := .type "tuple", data := .seq [u1, u2].toArray } } := I1.kept (t' := s1.toks) fun b o e => Heap.get?_push_of_some _ e
  rw [hw]
  refine wpAny_bind (wpAny_pure ?_)
  show wpAny (model X.prog X.w) X.A (do rule "assign.swapped-stores"; let items ← unpackItems (.ref s1.heap.objs.size) 2 none; assignInOrder [fun v => bindName X.env y v, fun v => bindName X.env x v] items.reverse; pure Flow.next) _ _ _
  refine wpAny_bind (wpAny_rule (wpAny_bind (unpackItems_tuple (items := #[u1, u2]) (I.ok.hd hc) (IsTup.new s1.heap _) fun h' hx' => ?_)))
  have I3 := I2.kept (h' := h') (t' := s1.toks) fun b o e => hx' b o (Nat.ne_of_lt (Heap.lt_size e)) e
  show wpAny _ _ (assignInOrder [fun v => bindName X.env y v, fun v => bindName X.env x v] [u2, u1] >>= fun _ => pure Flow.next) _ _ _
  refine wpAny_bind (assignInOrder_cons (wpAny_bindName (store_ok I3 hN hj (.inl hy) rw' (fun s2 I4 => ?_) (.inr hy))))
  refine assignInOrder_cons (wpAny_bindName (store_ok I4 hN hi (.inl hx) rv (fun s3 I5 => assignInOrder_nil (wpAny_pure ?_)) (.inr hx)))
  rw [List.set_comm _ _ (Ne.symm hij)] at I5
  exact ⟨_, H1, I5, q1⟩
def tAug (i : Nat) (te : TE) (ti : TIp) : TS := fun D σ H => ∃ x, σ[i]? = some (some x) ∧ te σ H fun y H1 => ti x y H1 fun z H2 => D.nx (σ.set i (some z)) H2
theorem ps_aug {i : Nat} {x : Str} {e : Expr} {te : TE} {op : Operator} {ti : TIp} {pos' : Pos} (hN : X.N.Nodup) (hi : X.N[i]? = some x) (hx : Loc X.env.scope x) (he : PE X e te) (ho : PIp X op ti) (hf : X.fn x = true ∨ X.env.scope.names.lookup x = some .local := by first | exact .inl rfl | exact .inr rfl | assumption) :
    PS X (.AugAssign (.Name x pos') op e pos) (tAug i te ti) := by
  intro pins s σ H D I h
  obtain ⟨v, e1, h⟩ := h
  obtain ⟨m, hn, hl⟩ := I.loc
  have vis : Vis X.env.scope x := by rcases hx with k | k; exact .inl k; exact .inr (.inl k)
  obtain ⟨u, r, l⟩ := hl i x v hi e1 vis
  refine wpAny_AugAssign_Name ?_
  have go : wpAny (model X.prog X.w) X.A (eval e X.env) (fun w s₂ => wpAny (model X.prog X.w) X.A (inplaceOp op u w) (fun r s₃ => wpAny (model X.prog X.w) X.A (storeName X.env x r) (fun _ => SP X pins D .next) X.xe s₃) X.xe s₂) X.xe s := by
    refine thn (he pins s σ H _ I h) fun w s1 ⟨y, H1, I1, r1, q1⟩ => ?_
    refine thn (ho pins s1 σ H1 v y u w _ I1 r r1 q1) fun z s2 ⟨zv, H2, I2, r2, q2⟩ => ?_
    exact store_ok I2 hN hi hx r2 (fun s3 I3 => ⟨_, H2, I3, q2⟩) hf
  rcases l with ⟨hk, hm⟩ | ⟨hk, c, hc, hcell⟩
  · exact wpAny_loadName_local I.ok.kind hk hn hm go
  · rcases hk with hk | hk
    · exact wpAny_loadName_cell I.ok.kind hk hc hcell go
    · rcases hx with k | k
      · have : X.env.scope.names.lookup x = some .free := hk
        rw [k] at this; cases this
      · have : X.env.scope.names.lookup x = some .free := hk
        rw [k] at this; cases this
def ipI (f : Int → Int → Int) : TIp := fun x y H Q => ∃ i j, x = .int i ∧ y = .int j ∧ Q (.int (f i j)) H
theorem ip_add : PIp X .Add (ipI fun i j => i + j) := by
  intro pins s σ H x y v u Q I r1 r2 h
  obtain ⟨i, j, e1, e2, q⟩ := h
  subst e1; subst e2
  obtain ⟨t, rfl⟩ := r1
  obtain ⟨t', rfl⟩ := r2
  exact iadd_int ⟨.int _, H, I.tok _, ⟨_, rfl⟩, q⟩
end
section
variable {X : Cx} {pos : Pos}
def tWhile (c : TT) (tb : TS) : TS := fun D σ H => ∃ W : Nat → St → Hp → Prop, (∃ m, W m σ H) ∧ ∀ m σ H, W m σ H →
  c σ H fun b H1 => if b = true then ∃ N : St → Hp → Prop, (∀ σ' H', N σ' H' → ∃ m', m' < m ∧ W m' σ' H') ∧ tb { D with nx := N, ct := N, bk := D.nx } σ H1 else D.nx σ H1
theorem ps_while {c : Expr} {body : List Stmt} {tc : TT} {tb : TS} (hp : PassesOwn (model X.prog X.w) X.A X.env X.xe) (hc : PT X c tc) (hb : PSs X body tb) : PS X (.While c body [] pos) (tWhile tc tb) := by
  intro pins s σ H D I h
  obtain ⟨W, ⟨m0, w0⟩, turn⟩ := h
  refine wpAny_While (codeAny_whileLoop (fun n s' => ∃ σ' H', Inv X pins σ' H' s' ∧ W n σ' H') ?_ m0 ⟨σ, H, I, w0⟩)
  rintro n s1 ⟨σ1, H1, I1, w1⟩
  refine wpAny_passesOwn hp (thn (hc pins s1 σ1 H1 _ I1 (turn n σ1 H1 w1)) fun b s2 ⟨H2, I2, q2⟩ => ?_)
  cases b with
  | true =>
    obtain ⟨N, hN, q2⟩ := q2
    rw [if_pos rfl]
    refine wpAny_passesOwn hp (thn (hb pins s2 σ1 H2 _ I2 q2) fun f s3 q3 => ?_)
    cases f with
    | next =>
      obtain ⟨σ3, H3, I3, n3⟩ := q3
      obtain ⟨m', hm, w3⟩ := hN σ3 H3 n3
      exact ⟨m', hm, σ3, H3, I3, w3⟩
    | cont =>
      obtain ⟨σ3, H3, I3, n3⟩ := q3
      obtain ⟨m', hm, w3⟩ := hN σ3 H3 n3
      exact ⟨m', hm, σ3, H3, I3, w3⟩
    | brk => exact q3
    | ret v => exact q3
  | false =>
    rw [if_neg Bool.false_ne_true]
    exact wpAny_execs_nil ⟨σ1, H2, I2, q2⟩
end
structure It where
  go : Nat → Hp → Prop
  yld : Nat → Hp → V → Hp → Prop
  stop : Nat → Hp → Prop
def FpOk (X : Cx) (pins : List (Addr × Obj)) (H : Hp) (b : Addr) : Prop :=
  H b = none ∧ b ≠ X.env.locals ∧ b ∉ X.fs ∧ (b ∈ X.ex ∨ X.s₀.heap.objs.size ≤ b) ∧ (∀ x c, X.env.cells.lookup x = some c → c ≠ b) ∧ ∀ p ∈ X.pn ++ pins, p.1 ≠ b
theorem Inv.fpOk {X : Cx} {pins : List (Addr × Obj)} {σ : St} {H H' : Hp} {s : Shared} {b : Addr} (I : Inv X pins σ H s) (hb : s.heap.objs.size ≤ b) (hn : H' b = none) : FpOk X pins H' b := by
  refine ⟨hn, Nat.ne_of_gt (Nat.lt_of_lt_of_le I.lt hb), I.nofs hb, .inr (Nat.le_trans I.sz hb), fun x c e z => ?_, fun p hp z => ?_⟩
  · obtain ⟨v, q⟩ := I.cell x c e
    exact absurd (Nat.lt_of_lt_of_le q.lt (by rw [z]; exact hb)) (Nat.lt_irrefl _)
  · exact absurd (Nat.lt_of_lt_of_le (Heap.lt_size (I.pin p hp).1) (by rw [z]; exact hb)) (Nat.lt_irrefl _)
structure Turn (P : Program) (w : World) (K : PySem.W.Frag) (tg : Expr) (J : It) (fp : List Addr) (it : Addr) (tn : Nat → Heap → Prop) : Prop where
  mem : it ∈ fp
  obj : ∀ i h, tn i h → ∀ b ∈ fp, ∃ o, h.get? b = some o ∧ ∀ v, o.data ≠ .cell v
  keep : ∀ i h h', tn i h → (∀ b ∈ fp, ∀ o, h.get? b = some o → h'.get? b = some o) → tn i h'
  item : ∀ (X : Cx), X.prog = P → X.w = w → X.K = K → X.calm = true → ∀ (i : Nat) (pins : List (Addr × Obj)) (s : Shared) (σ : St) (H : Hp) (E : Value → Shared → Prop), Inv X pins σ H s → (∀ b ∈ fp, FpOk X pins H b) → tn i s.heap → J.go i H →
    wpAny (model P w) X.A (pyNext (.ref it)) (fun r s1 => ∃ u, r = some u ∧
      wpAny (model P w) X.A (letOwnedTupleGo tg (.ref it) u) (fun _ s2 => ∃ x H', Inv X pins σ H' s2 ∧ RelV x u ∧ J.yld i H x H' ∧ tn (i + 1) s2.heap ∧ ∀ b ∈ fp, H' b = none) E s1) E s
  done : ∀ (X : Cx), X.prog = P → X.w = w → X.K = K → X.calm = true → ∀ (i : Nat) (pins : List (Addr × Obj)) (s : Shared) (σ : St) (H : Hp) (E : Value → Shared → Prop), Inv X pins σ H s → (∀ b ∈ fp, FpOk X pins H b) → tn i s.heap → J.stop i H →
    wpAny (model P w) X.A (pyNext (.ref it)) (fun r s1 => r = none ∧ Inv X pins σ H s1) E s
  self : ∀ (A : Around) (i : Nat) (s : Shared) (Q : Value → Shared → Prop) (E : Value → Shared → Prop), tn i s.heap → Q (.ref it) s → wpAny (model P w) A (pyIter (.ref it)) Q E s
abbrev TI := St → Hp → (It → Hp → Prop) → Prop
def PIE (X : Cx) (pins : List (Addr × Obj)) (σ : St) (tg : Expr) (R : It → Hp → Prop) (itv : Value) (s2 : Shared) : Prop :=
  ∃ (it : Addr) (fp : List Addr) (tn : Nat → Heap → Prop) (J : It) (H' : Hp), itv = .ref it ∧ Inv X pins σ H' s2 ∧ Turn X.prog X.w X.K tg J fp it tn ∧ tn 0 s2.heap ∧ (∀ b ∈ fp, FpOk X pins H' b) ∧ R J H'
def PI (X : Cx) (tg iter : Expr) (wi : TI) : Prop :=
  ∀ (pins : List (Addr × Obj)) (s : Shared) (σ : St) (H : Hp) (R : It → Hp → Prop), Inv X pins σ H s → wi σ H R →
    wpAny (model X.prog X.w) X.A (eval iter X.env) (fun v s1 => wpAny (model X.prog X.w) X.A (pyIter v) (PIE X pins σ tg R) X.xe s1) X.xe s
theorem go_of {M : Model} {A : Around} {E : Value → Shared → Prop} {s : Shared} {tg : Expr} {it : Addr} {u : Value} {o : Obj} {n : String} {vs : Array Value} {Q : Unit → Shared → Prop} (ho : s.heap.get? it = some o) (hc : o.cls = .type n) (hd : o.data = .fields vs)
    (hn : ["enumerate", "zip", "dict_itemiterator", "dict_reverseitemiterator", "odict_iterator", "itertools.zip_longest", "itertools.pairwise"].contains n = false) (hQ : Q () s) : wpAny M A (letOwnedTupleGo tg (.ref it) u) Q E s := by
  unfold letOwnedTupleGo
  cases tg <;> first
    | exact wpAny_pure hQ
    | (cases u <;> first
        | exact wpAny_pure hQ
        | (refine wpAny_bind (wpAny_load ho ?_)
           rw [hc, hd]
           show wpAny M A (if (["enumerate", "zip", "dict_itemiterator", "dict_reverseitemiterator", "odict_iterator", "itertools.zip_longest", "itertools.pairwise"].contains n && vs[0]? == some (rawInt _)) = true then _ else _) Q E s
           rw [if_neg (by intro h; rw [hn, Bool.false_and] at h; cases h)]
           exact wpAny_pure hQ))
def Itl (K : PySem.W.Frag) (a : Addr) : It :=
  ⟨fun i H => ∃ xs x, SqL K H a xs ∧ xs[i]? = some x, fun i H x H' => H' = H ∧ ∀ xs, SqL K H a xs → xs[i]? = some x, fun i H => ∃ xs, SqL K H a xs ∧ xs.length ≤ i⟩
def Itt (K : PySem.W.Frag) (a : Addr) : It :=
  ⟨fun i H => ∃ xs x, SqT K H a xs ∧ xs[i]? = some x, fun i H x H' => H' = H ∧ ∀ xs, SqT K H a xs → xs[i]? = some x, fun i H => ∃ xs, SqT K H a xs ∧ xs.length ≤ i⟩
def Itr (lo : Int) (n : Nat) : It := ⟨fun i _ => i < n, fun i H x H' => H' = H ∧ x = .int (lo + i), fun i _ => n ≤ i⟩
theorem turn_list {P : Program} {w : World} {K : PySem.W.Frag} {tg : Expr} (a it : Addr) : Turn P w K tg (Itl K a) [it] it (fun i h => h.IsListIter it a i) where
  mem := by simp
  obj := fun i h st b hb => by
    have e : b = it := by simpa using hb
    subst e
    obtain ⟨o, e, c, d⟩ := st
    exact ⟨o, e, fun v z => by rw [d] at z; cases z⟩
  keep := fun i h h' st k => st.at fun o e => k it (by simp) o e
  item := by
    intro X hP hw hK hc i pins s σ H E I hf st hg
    subst hP hw hK
    obtain ⟨xs, x, hq, hx⟩ := hg
    obtain ⟨its, rv, p, hz⟩ := I.list hq
    obtain ⟨u, hu, ru⟩ := rv.get hx
    obtain ⟨f0, f1, f2, f3, f4, f5⟩ := hf it (by simp)
    refine wpAny_pyNext_list_item st p.isList (x := u) (by simpa using hu) fun h' st' sb => ?_
    have I1 : Inv X pins σ H { s with heap := h' } := I.turned (t' := s.toks) (fun b o hb e => (sb.2 b hb).trans e) f0 f1 f3 f4 f5
    obtain ⟨o, e, c, d⟩ := id st'
    exact ⟨u, rfl, go_of (s := { s with heap := h' }) e c d (by decide) ⟨x, H, I1, ru, ⟨rfl, fun ys hy => by rw [I.list_inj hy hq]; exact hx⟩, st', fun b hb => (hf b hb).1⟩⟩
  done := by
    intro X hP hw hK hc i pins s σ H E I hf st hg
    subst hP hw hK
    obtain ⟨xs, hq, hx⟩ := hg
    obtain ⟨its, rv, p, hz⟩ := I.list hq
    obtain ⟨f0, f1, f2, f3, f4, f5⟩ := hf it (by simp)
    have hl := rv.length
    exact wpAny_pyNext_list_end (I.ok.hd hc) st p.isList (by simp; omega) fun h' eb => ⟨rfl, I.turned (t' := s.toks) (fun b o hb e => eb b o hb e) f0 f1 f3 f4 f5⟩
  self := fun _ _ _ _ _ st h => wpAny_pyIter_listiter st h
theorem turn_tuple {P : Program} {w : World} {K : PySem.W.Frag} {tg : Expr} (a it : Addr) : Turn P w K tg (Itt K a) [it] it (fun i h => h.IsTupleIter it a i) where
  mem := by simp
  obj := fun i h st b hb => by
    have e : b = it := by simpa using hb
    subst e
    obtain ⟨o, e, c, d⟩ := st
    exact ⟨o, e, fun v z => by rw [d] at z; cases z⟩
  keep := fun i h h' st k => st.at fun o e => k it (by simp) o e
  item := by
    intro X hP hw hK hc i pins s σ H E I hf st hg
    subst hP hw hK
    obtain ⟨xs, x, hq, hx⟩ := hg
    obtain ⟨its, rv, p, hz⟩ := I.tuple hq
    obtain ⟨u, hu, ru⟩ := rv.get hx
    obtain ⟨f0, f1, f2, f3, f4, f5⟩ := hf it (by simp)
    refine wpAny_pyNext_tuple_item st (show s.heap.IsTuple a its.toArray from p) (x := u) (by simpa using hu) fun h' st' sb => ?_
    have I1 : Inv X pins σ H { s with heap := h' } := I.turned (t' := s.toks) (fun b o hb e => (sb.2 b hb).trans e) f0 f1 f3 f4 f5
    obtain ⟨o, e, c, d⟩ := id st'
    exact ⟨u, rfl, go_of (s := { s with heap := h' }) e c d (by decide) ⟨x, H, I1, ru, ⟨rfl, fun ys hy => by rw [I.tuple_inj hy hq]; exact hx⟩, st', fun b hb => (hf b hb).1⟩⟩
  done := by
    intro X hP hw hK hc i pins s σ H E I hf st hg
    subst hP hw hK
    obtain ⟨xs, hq, hx⟩ := hg
    obtain ⟨its, rv, p, hz⟩ := I.tuple hq
    obtain ⟨f0, f1, f2, f3, f4, f5⟩ := hf it (by simp)
    have hl := rv.length
    exact wpAny_pyNext_tuple_end (I.ok.hd hc) st (show s.heap.IsTuple a its.toArray from p) (by simp; omega) fun h' eb => ⟨rfl, I.turned (t' := s.toks) (fun b o hb e => eb b o hb e) f0 f1 f3 f4 f5⟩
  self := fun _ _ _ _ _ st h => wpAny_pyIter_tupleiter st h
theorem turn_range {P : Program} {w : World} {K : PySem.W.Frag} {tg : Expr} (it : Addr) (lo : Int) (n : Nat) : Turn P w K tg (Itr lo n) [it] it (fun i h => IsRangeIter h it (lo + (i : Nat) * 1) ((n : Int) - (i : Nat)) 1) where
  mem := by simp
  obj := fun i h st b hb => by
    have e : b = it := by simpa using hb
    subst e
    exact ⟨_, st, fun v z => by
      have z' : Data.fields _ = Data.cell v := z
      cases z'⟩
  keep := fun i h h' st k => k it (by simp) _ st
  item := by
    intro X hP hw hK hc i pins s σ H E I hf st hg
    subst hP hw hK
    obtain ⟨f0, f1, f2, f3, f4, f5⟩ := hf it (by simp)
    have W := Walks.range (prog := X.prog) (w := X.w) (I.ok.hd hc) it lo 1 n
    refine W.item i s _ _ hg st fun v h' tk hv st' kk => ?_
    obtain ⟨t, rfl⟩ := hv
    have I1 : Inv X pins σ H { s with heap := h', toks := tk } := I.turned (fun b o hb e => kk b o (by simpa using hb) e) f0 f1 f3 f4 f5
    refine ⟨_, rfl, go_of (s := { s with heap := h', toks := tk }) (n := "range_iterator") st' rfl rfl (by decide) ⟨.int (lo + i), H, I1, ⟨t, ?_⟩, ⟨rfl, rfl⟩, st', fun b hb => (hf b hb).1⟩⟩
    rw [Int.mul_one]
  done := by
    intro X hP hw hK hc i pins s σ H E I hf st hg
    subst hP hw hK
    obtain ⟨f0, f1, f2, f3, f4, f5⟩ := hf it (by simp)
    exact wpAny_pyNext_range_end (I.ok.hd hc) st (by have : n ≤ i := hg; omega) fun h' eb => ⟨rfl, I.turned (t' := s.toks) (fun b o hb e => eb b o hb e) f0 f1 f3 f4 f5⟩
  self := fun _ _ _ _ _ st h => wpAny_pyIter_rangeiter st h
end L2
namespace L2
open PySem PySem.Spec PyProof.Rows
section
variable {X : Cx} {tg : Expr}
def iList (K : PySem.W.Frag) (tl : TE) : TI := fun σ H R => tl σ H fun x H1 => ∃ a, x = .ref a ∧ (∃ xs, SqL K H1 a xs) ∧ R (Itl K a) H1
def iTup (K : PySem.W.Frag) (tl : TE) : TI := fun σ H R => tl σ H fun x H1 => ∃ a, x = .ref a ∧ (∃ xs, SqT K H1 a xs) ∧ R (Itt K a) H1
theorem pi_list {l : Expr} {tl : TE} (hl : PE X l tl) : PI X tg l (iList X.K tl) := by
  intro pins s σ H R I h
  refine thn (hl pins s σ H _ I h) fun v s1 ⟨x, H1, I1, r1, q1⟩ => ?_
  obtain ⟨a, e, ⟨xs, hq⟩, q⟩ := q1
  subst e
  cases r1
  obtain ⟨its, rv, p, hz⟩ := I1.list hq
  refine wpAny_pyIter_list p.isList ?_
  refine ⟨s1.heap.objs.size, [s1.heap.objs.size], _, _, H1, rfl, I1.kept (t' := s1.toks) fun b o e => Heap.get?_push_of_some _ e, turn_list a _, ⟨_, Heap.get?_push_size _ rfl, rfl, rfl⟩, fun b hb => ?_, q⟩
  have e : b = s1.heap.objs.size := by simpa using hb
  subst e
  exact I1.fpOk (Nat.le_refl _) (I1.hok.fresh (Nat.le_refl _))
theorem pi_tup {l : Expr} {tl : TE} (hl : PE X l tl) : PI X tg l (iTup X.K tl) := by
  intro pins s σ H R I h
  refine thn (hl pins s σ H _ I h) fun v s1 ⟨x, H1, I1, r1, q1⟩ => ?_
  obtain ⟨a, e, ⟨xs, hq⟩, q⟩ := q1
  subst e
  cases r1
  obtain ⟨its, rv, p, hz⟩ := I1.tuple hq
  refine wpAny_pyIter_tuple (show s1.heap.IsTuple a its.toArray from p) ?_
  refine ⟨s1.heap.objs.size, [s1.heap.objs.size], _, _, H1, rfl, I1.kept (t' := s1.toks) fun b o e => Heap.get?_push_of_some _ e, turn_tuple a _, ⟨_, Heap.get?_push_size _ rfl, rfl, rfl⟩, fun b hb => ?_, q⟩
  have e : b = s1.heap.objs.size := by simpa using hb
  subst e
  exact I1.fpOk (Nat.le_refl _) (I1.hok.fresh (Nat.le_refl _))
theorem range_it {pins : List (Addr × Obj)} {σ : St} {H : Hp} {s : Shared} {R : It → Hp → Prop} {E : Value → Shared → Prop} {lo hi : Int} {t u v : Tok} {tk : Nat} (I : Inv X pins σ H s) (h1 : -(2 ^ 62) ≤ lo) (h2 : lo < 2 ^ 62) (h3 : -(2 ^ 62) ≤ hi) (h4 : hi < 2 ^ 62)
    (q : R (Itr lo (hi - lo).toNat) H) : wpAny (model X.prog X.w) X.A (pyIter (.ref s.heap.objs.size)) (PIE X pins σ tg R) E { s with heap := s.heap.push { cls := .type "range", data := .fields #[.int lo t, .int hi u, .int 1 v] }, toks := tk } := by
  refine wpAny_pyIter_range (IsRange.new ..) (small_one h1 h2 h3 h4) ?_
  have I1 : Inv X pins σ H { s with heap := s.heap.push { cls := .type "range", data := .fields #[.int lo t, .int hi u, .int 1 v] }, toks := tk } := I.kept fun b o e => Heap.get?_push_of_some _ e
  refine ⟨(s.heap.push { cls := .type "range", data := .fields #[.int lo t, .int hi u, .int 1 v] }).objs.size, [(s.heap.push { cls := .type "range", data := .fields #[.int lo t, .int hi u, .int 1 v] }).objs.size], _, _, H, rfl,
    I1.kept (t' := tk) fun b o e => Heap.get?_push_of_some _ e, turn_range _ lo (hi - lo).toNat, ?_, fun b hb => ?_, q⟩
  · have e1 : lo + ((0 : Nat) : Int) * 1 = lo := by simp
    have e2 : (((hi - lo).toNat : Nat) : Int) - ((0 : Nat) : Int) = Builtin.Range.rangeSize lo hi 1 := by rw [rangeSize_one]; split <;> omega
    show IsRangeIter _ _ (lo + ((0 : Nat) : Int) * 1) ((((hi - lo).toNat : Nat) : Int) - ((0 : Nat) : Int)) 1
    rw [e1, e2]
    exact Heap.get?_push_size _ rfl
  · have e : b = (s.heap.push { cls := .type "range", data := .fields #[.int lo t, .int hi u, .int 1 v] }).objs.size := by simpa using hb
    subst e
    exact I1.fpOk (Nat.le_refl _) (I1.hok.fresh (Nat.le_refl _))
def iRng1 (ta : TA) : TI := fun σ H R => ta σ H fun vs H1 => ∃ j : Int, vs = [.int j] ∧ -(2 ^ 62) ≤ j ∧ j < 2 ^ 62 ∧ R (Itr 0 j.toNat) H1
theorem pi_range1 {a : Expr} {ta : TA} {p pos : Pos} (hg : Gl X "range") (hm : X.mg "range" = none) (ha : PA X [a] ta) (hs : starEach [a] X.env = [(false, eval a X.env)] := by rfl) : PI X tg (.Call (.Name "range" p) [a] [] pos) (iRng1 ta) := by
  intro pins s σ H R I h
  refine Call_ (ld_blt I hg hm boot_range (PyProof.Rows.callWith_type1 (thn (ha pos pins s σ H _ I h) fun us s1 ⟨vs, H1, I1, r1, q1⟩ => ?_) hs rfl))
  obtain ⟨j, e, q1, q2, q⟩ := q1
  subst e
  cases r1 with
  | cons r rr =>
    cases rr
    obtain ⟨t, rfl⟩ := r
    exact call_range_1 (range_it I1 (by omega) (by omega) q1 q2 (by simpa using q))
def tFor (wi : TI) (g : TG) (tb : TS) : TS := fun D σ H => wi σ H fun J H1 => ∃ W : Nat → Nat → St → Hp → Prop, (∃ m, W 0 m σ H1) ∧ ∀ i m σ H, W i m σ H →
  (J.stop i H ∧ D.nx σ H) ∨ (J.go i H ∧ ∃ N : St → Hp → Prop, (∀ σ' H', N σ' H' → ∃ m', m' < m ∧ W (i + 1) m' σ' H') ∧ ∀ x H', J.yld i H x H' → g x σ H' fun σ2 H2 => tb { D with nx := N, ct := N, bk := D.nx } σ2 H2)
def pinsAt (fp : List Addr) (h : Heap) : List (Addr × Obj) := fp.filterMap fun b => (h.get? b).map fun o => (b, o)
theorem mem_pinsAt {fp : List Addr} {h : Heap} {b : Addr} {o : Obj} (hb : b ∈ fp) (e : h.get? b = some o) : (b, o) ∈ pinsAt fp h := List.mem_filterMap.mpr ⟨b, hb, by rw [e]; rfl⟩
theorem of_pinsAt {fp : List Addr} {h : Heap} {p : Addr × Obj} (hp : p ∈ pinsAt fp h) : p.1 ∈ fp ∧ h.get? p.1 = some p.2 := by
  obtain ⟨b, hb, e⟩ := List.mem_filterMap.mp hp
  cases q : h.get? b with
  | none => rw [q] at e; cases e
  | some o =>
    rw [q] at e
    have e' : (b, o) = p := Option.some.inj e
    subst e'
    exact ⟨hb, q⟩
theorem Inv.pinned {pins : List (Addr × Obj)} {σ : St} {H : Hp} {s : Shared} {fp : List Addr} (I : Inv X pins σ H s) (hf : ∀ b ∈ fp, FpOk X pins H b) (ho : ∀ b ∈ fp, ∃ o, s.heap.get? b = some o ∧ ∀ v, o.data ≠ .cell v) : Inv X (pins ++ pinsAt fp s.heap) σ H s :=
  I.pins_of fun p hp => (List.mem_append.mp hp).elim (fun z => I.pin p (List.mem_append_right _ z)) fun z => by
    obtain ⟨hb, e⟩ := of_pinsAt z
    obtain ⟨f0, f1, f2, _⟩ := hf p.1 hb
    obtain ⟨o, e', d⟩ := ho p.1 hb
    rw [e] at e'; cases e'
    exact ⟨e, f0, f1, f2, d⟩
theorem Inv.unpinned {pins pl : List (Addr × Obj)} {σ : St} {H : Hp} {s : Shared} (I : Inv X (pins ++ pl) σ H s) : Inv X pins σ H s := I.pins_of fun p hp => I.pin p (List.mem_append_right _ (List.mem_append_left _ hp))
theorem ps_for {iter : Expr} {body : List Stmt} {wi : TI} {g : TG} {tb : TS} {pos : Pos} (hp : PassesOwn (model X.prog X.w) X.A X.env X.xe) (hc : X.calm = true) (hi : PI X tg iter wi) (hg : PG X tg g) (hb : PSs X body tb)
    (hs : ∀ x, foldedSetIterable iter X.env x = pure x := by intro _; rfl) : PS X (.For tg iter body [] pos) (tFor wi g tb) := by
  intro pins s σ H D I h
  refine wpAny_For (thn (hi pins s σ H _ I h) fun v s1 h1 => thn h1 fun itv s2 h2 => ?_) hs
  obtain ⟨it, fp, tn, J, H2, e, I2, T, st2, f2, W, ⟨m0, w0⟩, turn⟩ := h2
  subst e
  have stat : ∀ {H' : Hp}, (∀ b ∈ fp, H' b = none) → ∀ b ∈ fp, FpOk X pins H' b := fun hn b hb => ⟨hn b hb, (f2 b hb).2⟩
  refine codeAny_forLoop_any (fun n s' => ∃ i σ' H', Inv X pins σ' H' s' ∧ tn i s'.heap ∧ (∀ b ∈ fp, H' b = none) ∧ W i n σ' H') ?_ m0 ⟨0, σ, H2, I2, st2, fun b hb => (f2 b hb).1, w0⟩
  rintro n s3 ⟨i, σ3, H3, I3, st3, fr3, w3⟩
  rcases turn i n σ3 H3 w3 with ⟨stop, qn⟩ | ⟨go, N, hN, step⟩
  · refine wpAny_passesOwn hp (thn (T.done X rfl rfl rfl hc i pins s3 σ3 H3 X.xe I3 (stat fr3) st3 stop) fun r s4 ⟨hr, I4⟩ => ?_)
    subst hr
    exact wpAny_execs_nil ⟨σ3, H3, I4, qn⟩
  · refine wpAny_passesOwn hp (thn (T.item X rfl rfl rfl hc i pins s3 σ3 H3 X.xe I3 (stat fr3) st3 go) fun r s4 ⟨u, hr, h4⟩ => ?_)
    subst hr
    refine wpAny_passesOwn hp (thn h4 fun _ s5 ⟨x, H5, I5, r5, y5, st5, fr5⟩ => ?_)
    have I5' := I5.pinned (stat fr5) (T.obj _ _ st5)
    refine wpAny_passesOwn hp (thn (hg _ s5 σ3 H5 x u _ I5' r5 (step x H5 y5)) fun _ s6 ⟨σ6, H6, I6, q6⟩ => ?_)
    refine wpAny_passesOwn hp (thn (hb _ s6 σ6 H6 _ I6 q6) fun f s7 q7 => ?_)
    have again : ∀ {σ7 : St} {H7 : Hp}, Inv X (pins ++ pinsAt fp s5.heap) σ7 H7 s7 → N σ7 H7 → ∃ m, m < n ∧ ∃ i σ' H', Inv X pins σ' H' s7 ∧ tn i s7.heap ∧ (∀ b ∈ fp, H' b = none) ∧ W i m σ' H' := fun {σ7 H7} I7 n7 => by
      obtain ⟨m', hm, w7⟩ := hN σ7 H7 n7
      refine ⟨m', hm, i + 1, σ7, H7, I7.unpinned, T.keep _ _ _ st5 fun b hb o e => (I7.pin (b, o) (List.mem_append_right _ (List.mem_append_right _ (mem_pinsAt hb e)))).1, fun b hb => ?_, w7⟩
      obtain ⟨o, e, d⟩ := T.obj _ _ st5 b hb
      exact (I7.pin (b, o) (List.mem_append_right _ (List.mem_append_right _ (mem_pinsAt hb e)))).2.1
    cases f with
    | next => obtain ⟨σ7, H7, I7, n7⟩ := q7; exact again I7 n7
    | cont => obtain ⟨σ7, H7, I7, n7⟩ := q7; exact again I7 n7
    | brk => obtain ⟨σ7, H7, I7, q7⟩ := q7; exact ⟨σ7, H7, I7.unpinned, q7⟩
    | ret v => obtain ⟨x7, σ7, H7, I7, r7, q7⟩ := q7; exact ⟨x7, σ7, H7, I7.unpinned, r7, q7⟩
end
theorem for_list {K : PySem.W.Frag} {a : Addr} {xs : List V} {g : TG} {tb : TS} {D : Ends} {σ : St} {H : Hp} (Pv : Nat → St → Hp → Prop) (h0 : Pv 0 σ H) (hl : ∀ i σ H, i ≤ xs.length → Pv i σ H → SqL K H a xs)
    (hs : ∀ i x σ H, xs[i]? = some x → Pv i σ H → g x σ H fun σ2 H2 => tb { D with nx := Pv (i + 1), ct := Pv (i + 1), bk := D.nx } σ2 H2) (hd : ∀ σ H, Pv xs.length σ H → D.nx σ H) :
    ∃ W : Nat → Nat → St → Hp → Prop, (∃ m, W 0 m σ H) ∧ ∀ i m σ H, W i m σ H →
      ((Itl K a).stop i H ∧ D.nx σ H) ∨ ((Itl K a).go i H ∧ ∃ N : St → Hp → Prop, (∀ σ' H', N σ' H' → ∃ m', m' < m ∧ W (i + 1) m' σ' H') ∧ ∀ x H', (Itl K a).yld i H x H' → g x σ H' fun σ2 H2 => tb { D with nx := N, ct := N, bk := D.nx } σ2 H2) := by
  refine ⟨fun i m σ H => m = xs.length - i ∧ i ≤ xs.length ∧ Pv i σ H, ⟨xs.length, by simp, Nat.zero_le _, h0⟩, ?_⟩
  rintro i m σ H ⟨rfl, hi, p⟩
  have q := hl i σ H hi p
  by_cases hlt : i < xs.length
  · refine .inr ⟨⟨xs, xs[i], q, by simp [hlt]⟩, Pv (i + 1), fun σ' H' p' => ⟨xs.length - (i + 1), by omega, rfl, hlt, p'⟩, fun x H' y => ?_⟩
    obtain ⟨e, y⟩ := y
    subst e
    exact hs i x σ _ (y xs q) p
  · have e : i = xs.length := by omega
    subst e
    exact .inl ⟨⟨xs, q, Nat.le_refl _⟩, hd σ H p⟩
theorem for_range {lo : Int} {n : Nat} {g : TG} {tb : TS} {D : Ends} {σ : St} {H : Hp} (Pv : Nat → St → Hp → Prop) (h0 : Pv 0 σ H)
    (hs : ∀ i σ H, i < n → Pv i σ H → g (.int (lo + i)) σ H fun σ2 H2 => tb { D with nx := Pv (i + 1), ct := Pv (i + 1), bk := D.nx } σ2 H2) (hd : ∀ σ H, Pv n σ H → D.nx σ H) :
    ∃ W : Nat → Nat → St → Hp → Prop, (∃ m, W 0 m σ H) ∧ ∀ i m σ H, W i m σ H →
      ((Itr lo n).stop i H ∧ D.nx σ H) ∨ ((Itr lo n).go i H ∧ ∃ N : St → Hp → Prop, (∀ σ' H', N σ' H' → ∃ m', m' < m ∧ W (i + 1) m' σ' H') ∧ ∀ x H', (Itr lo n).yld i H x H' → g x σ H' fun σ2 H2 => tb { D with nx := N, ct := N, bk := D.nx } σ2 H2) := by
  refine ⟨fun i m σ H => m = n - i ∧ i ≤ n ∧ Pv i σ H, ⟨n, by simp, Nat.zero_le _, h0⟩, ?_⟩
  rintro i m σ H ⟨rfl, hi, p⟩
  by_cases hlt : i < n
  · refine .inr ⟨hlt, Pv (i + 1), fun σ' H' p' => ⟨n - (i + 1), by omega, rfl, hlt, p'⟩, fun x H' y => ?_⟩
    obtain ⟨e, y⟩ := y
    subst e y
    exact hs i σ _ hlt p
  · have e : i = n := by omega
    subst e
    exact .inl ⟨Nat.le_refl _, hd σ H p⟩
theorem while_by {c : TT} {tb : TS} {D : Ends} {σ : St} {H : Hp} (Pv : St → Hp → Prop) (μ : St → Hp → Nat) (h0 : Pv σ H)
    (hs : ∀ σ H, Pv σ H → c σ H fun b H1 => if b = true then tb { D with nx := fun σ' H' => Pv σ' H' ∧ μ σ' H' < μ σ H, ct := fun σ' H' => Pv σ' H' ∧ μ σ' H' < μ σ H, bk := D.nx } σ H1 else D.nx σ H1)
    (mono : ∀ σ H Q Q', (∀ b H1, Q b H1 → Q' b H1) → c σ H Q → c σ H Q') : tWhile c tb D σ H := by
  refine ⟨fun m σ H => m = μ σ H ∧ Pv σ H, ⟨_, rfl, h0⟩, ?_⟩
  rintro m σ H ⟨rfl, p⟩
  refine mono σ H _ _ (fun b H1 q => ?_) (hs σ H p)
  cases b with
  | true => exact ⟨_, fun σ' H' ⟨p', l⟩ => ⟨_, l, rfl, p'⟩, q⟩
  | false => exact q
end L2
namespace L2
open PySem PySem.Spec PyProof.Rows
abbrev R2 := V → V → Hp → VK → Prop
def OpR (X : Cx) (f : Value → Value → Sem Value) (r : R2) : Prop :=
  ∀ (pins : List (Addr × Obj)) (s : Shared) (σ : St) (H : Hp) (x y : V) (v u : Value) (Q : VK), Inv X pins σ H s → RelV x v → RelV y u → r x y H Q →
    wpAny (model X.prog X.w) X.A (f v u) (EP X pins σ Q) X.xe s
def UnR (X : Cx) (f : Value → Sem Value) (r : V → Hp → VK → Prop) : Prop :=
  ∀ (pins : List (Addr × Obj)) (s : Shared) (σ : St) (H : Hp) (x : V) (v : Value) (Q : VK), Inv X pins σ H s → RelV x v → r x H Q →
    wpAny (model X.prog X.w) X.A (f v) (EP X pins σ Q) X.xe s
def CallR (X : Cx) (f : Value) (r : List V → Hp → VK → Prop) : Prop :=
  ∀ (pins : List (Addr × Obj)) (s : Shared) (σ : St) (H : Hp) (xs : List V) (us : List Value) (Q : VK), Inv X pins σ H s → Vals xs us → r xs H Q →
    wpAny (model X.prog X.w) X.A (call f us) (EP X pins σ Q) X.xe s
def tOp (r : R2) (ta tb : TE) : TE := fun σ H Q => ta σ H fun x H1 => tb σ H1 fun y H2 => r x y H2 Q
def tUn (r : V → Hp → VK → Prop) (ta : TE) : TE := fun σ H Q => ta σ H fun x H1 => r x H1 Q
def rI (C : Int → Int → Prop) (g : Int → Int → V) : R2 := fun x y H Q => ∃ i j, x = .int i ∧ y = .int j ∧ C i j ∧ Q (g i j) H
def rI0 (g : Int → Int → V) : R2 := fun x y H Q => ∃ i j, x = .int i ∧ y = .int j ∧ Q (g i j) H
def rU (g : Int → V) : V → Hp → VK → Prop := fun x H Q => ∃ i, x = .int i ∧ Q (g i) H
section
variable {X : Cx} {a b c : Expr} {ta tb tc : TE} {pos : Pos}
theorem binT (ha : PE X a ta) (hb : PE X b tb) {pins : List (Addr × Obj)} {s : Shared} {σ : St} {H : Hp} {R : V → V → Hp → Prop} (I : Inv X pins σ H s)
    (h : ta σ H fun x H1 => tb σ H1 fun y H2 => R x y H2) {Q : Value → Shared → Prop} {f : Value → Value → Sem Value}
    (hf : ∀ v u s2 x y H2, Inv X pins σ H2 s2 → RelV x v → RelV y u → R x y H2 → wpAny (model X.prog X.w) X.A (f v u) Q X.xe s2) :
    wpAny (model X.prog X.w) X.A (eval a X.env) (fun v s₁ => wpAny (model X.prog X.w) X.A (eval b X.env) (fun u s₂ => wpAny (model X.prog X.w) X.A (f v u) Q X.xe s₂) X.xe s₁) X.xe s := by
  refine thn (ha pins s σ H _ I h) fun v s1 ⟨x, H1, I1, r1, q1⟩ => ?_
  refine thn (hb pins s1 σ H1 _ I1 q1) fun u s2 ⟨y, H2, I2, r2, q2⟩ => ?_
  exact hf v u s2 x y H2 I2 r1 r2 q2
theorem pe_op {op : Operator} {r : R2} (ho : OpR X (binaryOp op) r) (ha : PE X a ta) (hb : PE X b tb) : PE X (.BinOp a op b pos) (tOp r ta tb) := by
  intro pins s σ H Q I h
  exact wpAny_BinOp (binT ha hb I h fun v u s2 x y H2 I2 rx ry q => ho pins s2 σ H2 x y v u Q I2 rx ry q)
theorem pe_un {op : UnaryOp} {r : V → Hp → VK → Prop} (ho : UnR X (unaryOp op) r) (ha : PE X a ta) : PE X (.UnaryOp op a pos) (tUn r ta) := by
  intro pins s σ H Q I h
  exact UnaryOp_ (thn (ha pins s σ H _ I h) fun v s1 ⟨x, H1, I1, r1, q1⟩ => ho pins s1 σ H1 x v Q I1 r1 q1)
theorem opI {f : Value → Value → Sem Value} {C : Int → Int → Prop} {g : Int → Int → Int}
    (rule : ∀ (i j : Int) (t u : Tok) (s : Shared) (Q : Value → Shared → Prop) (E : Value → Shared → Prop), C i j → Q (.int (g i j) s.toks) { s with toks := s.toks + 1 } → wpAny (model X.prog X.w) X.A (f (.int i t) (.int j u)) Q E s) :
    OpR X f (rI C fun i j => .int (g i j)) := by
  intro pins s σ H x y v u Q I rx ry h
  obtain ⟨i, j, rfl, rfl, hc, q⟩ := h
  obtain ⟨t, rfl⟩ := rx
  obtain ⟨t', rfl⟩ := ry
  exact rule i j t t' s _ _ hc ⟨.int (g i j), H, I.tok _, ⟨_, rfl⟩, q⟩
theorem opI0 {f : Value → Value → Sem Value} {g : Int → Int → Int}
    (rule : ∀ (i j : Int) (t u : Tok) (s : Shared) (Q : Value → Shared → Prop) (E : Value → Shared → Prop), Q (.int (g i j) s.toks) { s with toks := s.toks + 1 } → wpAny (model X.prog X.w) X.A (f (.int i t) (.int j u)) Q E s) :
    OpR X f (rI0 fun i j => .int (g i j)) := by
  intro pins s σ H x y v u Q I rx ry h
  obtain ⟨i, j, rfl, rfl, q⟩ := h
  obtain ⟨t, rfl⟩ := rx
  obtain ⟨t', rfl⟩ := ry
  exact rule i j t t' s _ _ ⟨.int (g i j), H, I.tok _, ⟨_, rfl⟩, q⟩
theorem opB0 {f : Value → Value → Sem Value} {g : Int → Int → Bool}
    (rule : ∀ (i j : Int) (t u : Tok) (s : Shared) (Q : Value → Shared → Prop) (E : Value → Shared → Prop), Q (.bool (g i j)) s → wpAny (model X.prog X.w) X.A (f (.int i t) (.int j u)) Q E s) :
    OpR X f (rI0 fun i j => .bl (g i j)) := by
  intro pins s σ H x y v u Q I rx ry h
  obtain ⟨i, j, rfl, rfl, q⟩ := h
  obtain ⟨t, rfl⟩ := rx
  obtain ⟨t', rfl⟩ := ry
  exact rule i j t t' s _ _ ⟨.bl (g i j), H, I, rfl, q⟩
def CPow (i j : Int) : Prop := 0 ≤ j ∧ j ≤ 1000000 ∧ i.natAbs < 2 ^ 64
def CMul (i j : Int) : Prop := (-(2 ^ 64) < i ∧ i < 2 ^ 64) ∨ (-(2 ^ 64) < j ∧ j < 2 ^ 64)
theorem CMul.ok {i j : Int} (h : CMul i j) : IntMulOk i j := by
  rcases h with ⟨h1, h2⟩ | ⟨h1, h2⟩
  · exact .of_left (intBits_le_64 h1 h2)
  · exact .of_right (intBits_le_64 h1 h2)
theorem op_add : OpR X (binaryOp .Add) (rI0 fun i j => .int (i + j)) := opI0 fun _ _ _ _ _ _ _ q => add_int q
theorem op_sub : OpR X (binaryOp .Sub) (rI0 fun i j => .int (i - j)) := opI0 fun _ _ _ _ _ _ _ q => sub_int q
theorem op_mul : OpR X (binaryOp .Mult) (rI CMul fun i j => .int (i * j)) := opI fun _ _ _ _ _ _ _ hc q => mul_int q hc.ok
theorem op_mod : OpR X (binaryOp .Mod) (rI (fun _ j => 0 < j) fun i j => .int (i % j)) := opI fun i j _ _ _ _ _ hc q => by
  have h1 : (0 : Int) < j := hc
  exact mod_int' (by omega) (by rw [Int.fmod_eq_emod_of_nonneg i (by omega)]; exact q)
theorem op_pow : OpR X (binaryOp .Pow) (rI CPow fun i j => .int (i ^ j.toNat)) := opI fun _ _ _ _ _ _ _ hc q => pow_int_small hc.1 hc.2.1 hc.2.2 q
theorem unI {f : Value → Sem Value} {g : Int → Int}
    (rule : ∀ (i : Int) (t : Tok) (s : Shared) (Q : Value → Shared → Prop) (E : Value → Shared → Prop), Q (.int (g i) s.toks) { s with toks := s.toks + 1 } → wpAny (model X.prog X.w) X.A (f (.int i t)) Q E s) :
    UnR X f (rU fun i => .int (g i)) := by
  intro pins s σ H x v Q I rx h
  obtain ⟨i, rfl, q⟩ := h
  obtain ⟨t, rfl⟩ := rx
  exact rule i t s _ _ ⟨.int (g i), H, I.tok _, ⟨_, rfl⟩, q⟩
theorem un_neg : UnR X (unaryOp .USub) (rU fun i => .int (-i)) := unI fun _ _ _ _ _ q => neg_int q
end
def scal : V → V → Bool
  | .non, .non => true | .non, .int _ => true | .int _, .non => true | .non, .bl _ => true | .bl _, .non => true | .non, .str _ => true | .str _, .non => true
  | .int _, .int _ => true | .bl _, .bl _ => true | .str _, .str _ => true | .byt _, .byt _ => true
  | .int _, .str _ => true | .str _, .int _ => true | .bl _, .str _ => true | .str _, .bl _ => true
  | _, _ => false
def rEq : R2 := fun x y H Q => scal x y = true ∧ Q (.bl (decide (x = y))) H
def rNe : R2 := fun x y H Q => scal x y = true ∧ Q (.bl (!decide (x = y))) H
theorem dec_int {i j : Int} : decide (V.int i = V.int j) = (i == j) := by
  rw [Bool.eq_iff_iff]
  simp
theorem dec_bl {i j : Bool} : decide (V.bl i = V.bl j) = (i == j) := by
  rw [Bool.eq_iff_iff]
  simp
theorem dec_str {i j : Str} : decide (V.str i = V.str j) = (i == j) := by
  rw [Bool.eq_iff_iff]
  simp
theorem dec_byt {i j : Array UInt8} : decide (V.byt i = V.byt j) = (i.toList == j.toList) := by
  rw [Bool.eq_iff_iff]
  cases i
  cases j
  simp
section
variable {X : Cx} {a b c : Expr} {ta tb tc : TE} {pos : Pos}
theorem fin_bl {pins : List (Addr × Obj)} {σ : St} {H : Hp} {s : Shared} {Q : VK} {k k' : Bool} (I : Inv X pins σ H s) (q : Q (.bl k) H) (e : k = k') : EP X pins σ Q (.bool k') s := by
  subst e
  exact ⟨.bl k, H, I, rfl, q⟩
theorem op_eq : OpR X (compareOp .Eq) rEq := by
  intro pins s σ H x y v u Q I rx ry h
  obtain ⟨hs, q⟩ := h
  cases x with
  | non =>
    cases rx
    cases y with
    | non => cases ry; exact PySem.EqNone.eq_none_none (fin_bl I q (by simp))
    | bl j => cases ry; exact PySem.EqNone.eq_none_bool (fin_bl I q (by simp))
    | int j => obtain ⟨t', rfl⟩ := ry; exact PySem.EqNone.eq_none_int (fin_bl I q (by simp))
    | str j => obtain ⟨t', rfl⟩ := ry; exact PySem.EqNone.eq_none_str (fin_bl I q (by simp))
    | _ => exact absurd (show false = true from hs) Bool.false_ne_true
  | bl i =>
    cases rx
    cases y with
    | non => cases ry; exact PySem.EqNone.eq_bool_none (fin_bl I q (by simp))
    | bl j => cases ry; exact eq_bool (fin_bl I q dec_bl)
    | str j => obtain ⟨t', rfl⟩ := ry; exact PySem.EqMixed.eq_bool_str (fin_bl I q (by simp))
    | _ => exact absurd (show false = true from hs) Bool.false_ne_true
  | int i =>
    obtain ⟨t, rfl⟩ := rx
    cases y with
    | non => cases ry; exact PySem.EqNone.eq_int_none (fin_bl I q (by simp))
    | int j => obtain ⟨t', rfl⟩ := ry; exact eq_int (fin_bl I q dec_int)
    | str j => obtain ⟨t', rfl⟩ := ry; exact PySem.EqMixed.eq_int_str (fin_bl I q (by simp))
    | _ => exact absurd (show false = true from hs) Bool.false_ne_true
  | str i =>
    obtain ⟨t, rfl⟩ := rx
    cases y with
    | non => cases ry; exact PySem.EqNone.eq_str_none (fin_bl I q (by simp))
    | bl j => cases ry; exact PySem.EqMixed.eq_str_bool (fin_bl I q (by simp))
    | int j => obtain ⟨t', rfl⟩ := ry; exact PySem.EqMixed.eq_str_int (fin_bl I q (by simp))
    | str j => obtain ⟨t', rfl⟩ := ry; exact eq_str (fin_bl I q dec_str)
    | _ => exact absurd (show false = true from hs) Bool.false_ne_true
  | byt i =>
    obtain ⟨t, rfl⟩ := rx
    cases y with
    | byt j => obtain ⟨t', rfl⟩ := ry; exact PySem.W.eq_bytes (fin_bl I q dec_byt)
    | _ => exact absurd (show false = true from hs) Bool.false_ne_true
  | _ => cases y <;> exact absurd (show false = true from hs) Bool.false_ne_true
theorem op_ne : OpR X (compareOp .NotEq) rNe := by
  intro pins s σ H x y v u Q I rx ry h
  obtain ⟨hs, q⟩ := h
  cases x with
  | non =>
    cases rx
    cases y with
    | non => cases ry; exact PySem.EqNone.ne_none_none (fin_bl I q (by simp))
    | bl j => cases ry; exact PySem.EqNone.ne_none_bool (fin_bl I q (by simp))
    | int j => obtain ⟨t', rfl⟩ := ry; exact PySem.EqNone.ne_none_int (fin_bl I q (by simp))
    | str j => obtain ⟨t', rfl⟩ := ry; exact PySem.EqNone.ne_none_str (fin_bl I q (by simp))
    | _ => exact absurd (show false = true from hs) Bool.false_ne_true
  | bl i =>
    cases rx
    cases y with
    | non => cases ry; exact PySem.EqNone.ne_bool_none (fin_bl I q (by simp))
    | bl j => cases ry; exact ne_bool (fin_bl I q (congrArg not dec_bl))
    | str j => obtain ⟨t', rfl⟩ := ry; exact PySem.EqMixed.ne_bool_str (fin_bl I q (by simp))
    | _ => exact absurd (show false = true from hs) Bool.false_ne_true
  | int i =>
    obtain ⟨t, rfl⟩ := rx
    cases y with
    | non => cases ry; exact PySem.EqNone.ne_int_none (fin_bl I q (by simp))
    | int j => obtain ⟨t', rfl⟩ := ry; exact ne_int (fin_bl I q (congrArg not dec_int))
    | str j => obtain ⟨t', rfl⟩ := ry; exact PySem.EqMixed.ne_int_str (fin_bl I q (by simp))
    | _ => exact absurd (show false = true from hs) Bool.false_ne_true
  | str i =>
    obtain ⟨t, rfl⟩ := rx
    cases y with
    | non => cases ry; exact PySem.EqNone.ne_str_none (fin_bl I q (by simp))
    | bl j => cases ry; exact PySem.EqMixed.ne_str_bool (fin_bl I q (by simp))
    | int j => obtain ⟨t', rfl⟩ := ry; exact PySem.EqMixed.ne_str_int (fin_bl I q (by simp))
    | str j => obtain ⟨t', rfl⟩ := ry; exact ne_str (fin_bl I q (congrArg not dec_str))
    | _ => exact absurd (show false = true from hs) Bool.false_ne_true
  | byt i =>
    obtain ⟨t, rfl⟩ := rx
    cases y with
    | byt j => obtain ⟨t', rfl⟩ := ry; exact PySem.W.ne_bytes (fin_bl I q (congrArg not dec_byt))
    | _ => exact absurd (show false = true from hs) Bool.false_ne_true
  | _ => cases y <;> exact absurd (show false = true from hs) Bool.false_ne_true
theorem op_lt : OpR X (compareOp .Lt) (rI0 fun i j => .bl (decide (i < j))) := opB0 fun _ _ _ _ _ _ _ q => lt_int q
theorem op_gt : OpR X (compareOp .Gt) (rI0 fun i j => .bl (decide (j < i))) := opB0 fun _ _ _ _ _ _ _ q => gt_int q
theorem op_ge : OpR X (compareOp .GtE) (rI0 fun i j => .bl (decide (j ≤ i))) := opB0 fun _ _ _ _ _ _ _ q => ge_int q
theorem op_notN : OpR X (compareOp .IsNot) (fun x y H Q => y = .non ∧ Q (.bl (!decide (x = .non))) H) := by
  intro pins s σ H x y v u Q I rx ry h
  obtain ⟨rfl, q⟩ := h
  cases ry
  refine isnot_none_gen (fin_bl I q ?_)
  cases x <;> first
    | (cases rx; rfl)
    | (obtain ⟨t, rfl⟩ := rx; rfl)
theorem nomark (b : Expr) {op : CmpOp} (h : op ≠ .In := by decide) (h2 : op ≠ .NotIn := by decide) : behindInMarks op b = false := by
  have e1 : (op == CmpOp.In) = false := by cases op <;> first | rfl | exact absurd rfl h
  have e2 : (op == CmpOp.NotIn) = false := by cases op <;> first | rfl | exact absurd rfl h2
  cases b <;> simp [behindInMarks, e1, e2]
theorem pe_cmpR {op : CmpOp} {r : R2} (ho : OpR X (compareOp op) r) (ha : PE X a ta) (hb : PE X b tb) (hm : behindInMarks op b = false) : PE X (.Compare a [op] [b] pos) (tOp r ta tb) := by
  intro pins s σ H Q I h
  exact wpAny_Compare1 (binT ha hb I h fun v u s2 x y H2 I2 rx ry q => ho pins s2 σ H2 x y v u Q I2 rx ry q) hm
def tTest (t : TE) : TT := fun σ H Q => t σ H fun x H' => ∃ k, x = .bl k ∧ Q k H'
theorem pt_cmpR {op : CmpOp} {r : R2} (ho : OpR X (compareOp op) r) (ha : PE X a ta) (hb : PE X b tb) (hm : behindInMarks op b = false) : PT X (.Compare a [op] [b] pos) (tTest (tOp r ta tb)) := by
  intro pins s σ H Q I h
  refine wpAny_isTrue_Compare1 (thn (ha pins s σ H _ I h) fun v s1 ⟨x, H1, I1, r1, q1⟩ => thn (hb pins s1 σ H1 _ I1 q1) fun u s2 ⟨y, H2, I2, r2, q2⟩ =>
    thn (ho pins s2 σ H2 x y v u _ I2 r1 r2 q2) fun c s3 ⟨z, H3, I3, r3, k, e, q3⟩ => ?_) hm
  subst e
  cases r3
  exact wpAny_truthy_bool ⟨H3, I3, q3⟩
theorem line63 : (sizeLine : Nat) < 2 ^ 63 := by rw [sizeLine_eq]; decide
theorem vals1 {x : V} {us : List Value} (r : Vals [x] us) : ∃ u, us = [u] ∧ RelV x u := by
  cases r with
  | cons r1 r2 => cases r2; exact ⟨_, rfl, r1⟩
theorem vals2 {x y : V} {us : List Value} (r : Vals [x, y] us) : ∃ u w', us = [u, w'] ∧ RelV x u ∧ RelV y w' := by
  cases r with
  | cons r1 r2 =>
    cases r2 with
    | cons r3 r4 => cases r4; exact ⟨_, _, rfl, r1, r3⟩
theorem call_max2 (hc : X.calm = true) : CallR X (.builtin "max") (fun xs H Q => ∃ i j, xs = [.int i, .int j] ∧ Q (.int (if j > i then j else i)) H) := by
  intro pins s σ H xs us Q I r h
  obtain ⟨i, j, rfl, q⟩ := h
  obtain ⟨u, w', rfl, ⟨t, rfl⟩, ⟨t', rfl⟩⟩ := vals2 r
  refine max_two_ints (I.ok.hd hc) fun h' tk k => ⟨_, H, I.kept k, ?_, q⟩
  by_cases hj : j > i
  · rw [if_pos hj, if_pos hj]; exact ⟨_, rfl⟩
  · rw [if_neg hj, if_neg hj]; exact ⟨_, rfl⟩
theorem call_min2 (hc : X.calm = true) : CallR X (.builtin "min") (fun xs H Q => ∃ i j, xs = [.int i, .int j] ∧ Q (.int (if j < i then j else i)) H) := by
  intro pins s σ H xs us Q I r h
  obtain ⟨i, j, rfl, q⟩ := h
  obtain ⟨u, w', rfl, ⟨t, rfl⟩, ⟨t', rfl⟩⟩ := vals2 r
  refine min_two_ints (I.ok.hd hc) fun h' tk k => ⟨_, H, I.kept k, ?_, q⟩
  by_cases hj : j < i
  · rw [if_pos hj, if_pos hj]; exact ⟨_, rfl⟩
  · rw [if_neg hj, if_neg hj]; exact ⟨_, rfl⟩
end
end L2
namespace L2
open PySem PySem.Spec PyProof.Rows
structure ObjM (h : Heap) (x dx C : Addr) (mA : Str → Option Value) : Prop where
  obj : h.get? x = some (PySem.W.instObj C dx)
  ns : h.Ns1 dx mA
  ne : dx ≠ x
theorem lookIn_ns {h : Heap} {dx : Addr} {mA : Str → Option Value} (n : h.Ns1 dx mA) : ∃ od, h.get? dx = some od ∧ ∀ name, PySem.W.lookIn name od = some (mA name) := by
  obtain ⟨o, es, ep, ho, hd, hk, _, hm⟩ := n
  refine ⟨o, ho, fun name => ?_⟩
  have e := hm name
  unfold nsFind findBy at e
  rw [← Array.find?_toList] at e
  unfold PySem.W.lookIn
  rw [hd]
  dsimp only
  split
  · rename_i y q
    rw [q] at e
    exact congrArg some e
  · rename_i q
    rw [q] at e
    have a : es.toList.any (·.refKey) = false := by
      rw [List.any_eq_false]
      intro y hy
      obtain ⟨z, t, hkey⟩ := hk y (Array.mem_toList_iff.mp hy)
      simp [DictEntry.refKey, hkey]
    have a' : ¬ es.toList.any (·.refKey) = true := by rw [a]; exact Bool.false_ne_true
    rw [if_neg a']
    exact congrArg some e
theorem ObjM.look {h : Heap} {x dx C : Addr} {mA : Str → Option Value} (I : ObjM h x dx C mA) : ∃ od, PySem.W.InstAt h x (PySem.W.instObj C dx) C (some od) ∧ ∀ name, PySem.W.lookIn name od = some (mA name) :=
  let ⟨od, ho, hl⟩ := lookIn_ns I.ns
  ⟨od, ⟨I.obj, rfl, rfl, ho⟩, hl⟩
section
variable {prog : Program} {w : World} {A : Around} {E : Value → Shared → Prop} {s : Shared} {K : PySem.W.Frag} {x dx C f : Addr} {mA : Str → Option Value} {name : Str} {v : Value}
end
section
variable {P : Program} {w : World} {H H' : Hp} {h h' : Heap} {a C dx : Addr} {fs fs' : List (Str × V)}
theorem ins_get (hok : HOk P w H h) (e : H a = some (.ins C dx fs)) : ∃ mA, ObjM h a dx C mA ∧ (∀ f, RelO (fs.lookup f) (mA f)) ∧ PySem.Within mA (fs.map (·.1)) ∧ fs.length ≤ 1000 ∧ H dx = some (.own a) := by
  obtain ⟨d, z, ne, ob, mA, n, r, q⟩ := (show ObjOk P w H h a (.ins C dx fs) from hok a _ e)
  exact ⟨mA, ⟨ob, n, ne⟩, r, q, z, d⟩
end
structure Cls (K : PySem.W.Frag) (C : Addr) : Prop where
  pg : PySem.W.plainGet K C Str.empty = true
  hd : PySem.W.hasDictIn K C = true
  po : PySem.W.plainOver K C = true
  sa : PySem.W.findIn K (.ref C) "__setattr__" = some (some (.builtin "object.__setattr__"))
theorem Cls.get {K : PySem.W.Frag} {C : Addr} (c : Cls K C) (f : Str) : PySem.W.plainGet K C f = true := c.pg
section
variable {X : Cx} {pins : List (Addr × Obj)} {σ : St} {H : Hp} {s : Shared} {a C dx : Addr} {fs : List (Str × V)} {f : Str} {v : V} {A : Around} {E : Value → Shared → Prop}
theorem Inv.made (I : Inv X pins σ H s) : Inv X pins σ (upd (upd H s.heap.objs.size (.own (s.heap.objs.size + 1))) (s.heap.objs.size + 1) (.ins C s.heap.objs.size []))
    { s with heap := (s.heap.push PySem.W.emptyDict).push (PySem.W.instObj C s.heap.objs.size) } := by
  have e1 : (s.heap.push PySem.W.emptyDict).get? s.heap.objs.size = some PySem.W.emptyDict := Heap.get?_push_size s.heap rfl
  have e2 : ((s.heap.push PySem.W.emptyDict).push (PySem.W.instObj C s.heap.objs.size)).get? (s.heap.objs.size + 1) = some (PySem.W.instObj C s.heap.objs.size) := by
    have := Heap.get?_push_size (s.heap.push PySem.W.emptyDict) (o := PySem.W.instObj C s.heap.objs.size) rfl
    rwa [Heap.size_push] at this
  have e3 : (s.heap.push PySem.W.emptyDict).Ns s.heap.objs.size (fun _ => none) := ⟨PySem.W.emptyDict, #[], _, e1, rfl, (fun e he => absurd he (by simp)), fun _ => rfl⟩
  have I1 := I.laid (a := s.heap.objs.size) (o := .own (s.heap.objs.size + 1)) (h' := s.heap.push PySem.W.emptyDict) (t' := s.toks) (fun b u q => Heap.get?_push_of_some _ q) (Nat.le_refl _) ⟨_, e1⟩
  refine I1.laid (a := s.heap.objs.size + 1) (o := .ins C s.heap.objs.size []) (t' := s.toks) (fun b u q => Heap.get?_push_of_some _ q) (Nat.le_of_eq (Heap.size_push _ _)) ?_
  have ne : s.heap.objs.size ≠ s.heap.objs.size + 1 := Nat.ne_of_lt (Nat.lt_succ_self _)
  refine ⟨by rw [upd_ne ne, upd_same], Nat.zero_le _, ne, e2, fun _ => none, (Heap.Ns1.of_empty e3).at fun o q => Heap.get?_push_of_some _ q, fun _ => True.intro, fun y hy => absurd rfl hy⟩
end
section
variable {X : Cx} {o e value : Expr} {f : Str} {pos pos' tpos : Pos} {ta tv : TE}
end
section
variable {X : Cx} {pins : List (Addr × Obj)} {σ : St} {H : Hp} {s : Shared} {A : Around} {E : Value → Shared → Prop} {Q : Value → Shared → Prop} {c : Value} {b : Bool}
inductive TyOf (K : PySem.W.Frag) (H : Hp) : V → Value → Prop where
  | non : TyOf K H .non (.type "NoneType")
  | bl (x : Bool) : TyOf K H (.bl x) (.type "bool")
  | int (i : Int) : TyOf K H (.int i) (.type "int")
  | str (x : Str) : TyOf K H (.str x) (.type "str")
  | flt (x : UInt64) : TyOf K H (.flt x) (.type "float")
  | lst {a : Addr} {xs : List V} (e : H a = some (.lst xs)) : TyOf K H (.ref a) (.type "list")
  | frz {a : Addr} {o : Obj} {xs : List V} (e : H a = some (.frz o (.lst xs))) : TyOf K H (.ref a) (.type "list")
  | tup {a : Addr} {xs : List V} (e : H a = some (.tup xs)) : TyOf K H (.ref a) (.type "tuple")
  | dK {a : Addr} {kvs : List (Key × V)} (e : H a = some (.dK kvs)) : TyOf K H (.ref a) (.type "dict")
  | dT {a : Addr} {kvs : List (List Key × V)} (e : H a = some (.dT kvs)) : TyOf K H (.ref a) (.type "dict")
  | ins {a C dx : Addr} {fs : List (Str × V)} (e : H a = some (.ins C dx fs)) (cl : Cls K C) (ha : PySem.W.findIn K (.ref C) "__class__" = some (some (.builtin "object.__class__")))
      (hn : PySem.W.specialIn K (.builtin "object.__class__") "__get__" = some (some (.builtin "getset_descriptor.__get__"))) (htk : PySem.W.takesIn K (.builtin "object.__class__") = some true)
      (hm : PySem.W.mroIn K C (.type "object") = some true) : TyOf K H (.ref a) (.ref C)
theorem isinst_ok {x : V} {u t : Value} (I : Inv X pins σ H s) (rx : RelV x u) (ty : TyOf X.K H x t) (e : PySem.W.kitOne X.K t c = some b) (h : ∀ tk, Q (.bool b) { s with toks := tk }) :
    wpAny (model X.prog X.w) A (call (.builtin "isinstance") [u, c]) Q E s := by
  cases ty with
  | non => cases (show u = Value.none from rx); exact PySem.W.kia_one PySem.W.kitx_none I.kIn True.intro e (fun z => nomatch z) h
  | bl y => cases (show u = Value.bool y from rx); exact PySem.W.kia_one PySem.W.kitx_bool I.kIn True.intro e (fun z => nomatch z) h
  | int i => obtain ⟨t, q⟩ := (show ∃ t, u = Value.int i t from rx); cases q; exact PySem.W.kia_one PySem.W.kitx_int I.kIn True.intro e (fun z => nomatch z) h
  | str y => obtain ⟨t, q⟩ := (show ∃ t, u = Value.str y t from rx); cases q; exact PySem.W.kia_one PySem.W.kitx_str I.kIn True.intro e (fun z => nomatch z) h
  | flt y => obtain ⟨t, q⟩ := (show ∃ t, u = Value.float y t from rx); cases q; exact PySem.W.kia_one PySem.W.kitx_float I.kIn True.intro e (fun z => nomatch z) h
  | @lst a xs ea =>
    cases (show u = Value.ref a from rx)
    obtain ⟨_, _, n, _, h1⟩ := (show ObjOk X.prog X.w H s.heap a (.lst xs) from I.hok a _ ea)
    exact PySem.W.kia_one PySem.W.kitx_list I.kIn ⟨_, h1, rfl⟩ e (fun z => nomatch z) h
  | @frz a ob xs ea =>
    cases (show u = Value.ref a from rx)
    obtain ⟨_, _, _, n, _, h1⟩ := (show ObjOk X.prog X.w H s.heap a (.frz ob (.lst xs)) from I.hok a _ ea)
    exact PySem.W.kia_one PySem.W.kitx_list I.kIn ⟨_, h1, rfl⟩ e (fun z => nomatch z) h
  | @tup a xs ea =>
    cases (show u = Value.ref a from rx)
    obtain ⟨_, _, _, p⟩ := (show ObjOk X.prog X.w H s.heap a (.tup xs) from I.hok a _ ea)
    obtain ⟨o, h1, h2, _⟩ := p
    exact PySem.W.kia_one PySem.W.kitx_tuple I.kIn ⟨o, h1, h2⟩ e (fun z => nomatch z) h
  | @dK a kvs ea =>
    cases (show u = Value.ref a from rx)
    obtain ⟨_, _, vs, _, p⟩ := (show ObjOk X.prog X.w H s.heap a (.dK kvs) from I.hok a _ ea)
    obtain ⟨o, es, ep, h1, h2, _⟩ := p
    exact PySem.W.kia_one PySem.W.kitx_dict I.kIn ⟨o, h1, h2.1⟩ e (fun z => nomatch z) h
  | @dT a kvs ea =>
    cases (show u = Value.ref a from rx)
    obtain ⟨_, _, xs, _, o, es, ep, h1, h2, _⟩ := (show ObjOk X.prog X.w H s.heap a (.dT kvs) from I.hok a _ ea)
    exact PySem.W.kia_one PySem.W.kitx_dict I.kIn ⟨o, h1, h2.1⟩ e (fun z => nomatch z) h
  | @ins a C dx fs ea cl ha hn htk hm =>
    cases (show u = Value.ref a from rx)
    obtain ⟨mA, O, _⟩ := ins_get I.hok ea
    obtain ⟨od, J, _⟩ := O.look
    exact PySem.W.kia_one (PySem.W.kitx_own (cl.get _) cl.hd ha hn htk hm) I.kIn J e (fun z => nomatch z) h
end
end L2
namespace L2
open PySem PySem.Spec PyProof.Rows
structure Room (k : Nat) (A : Around) : Prop where
  hd : A.handled = none
  dp : A.depth + 3 * k + 5 < recursionLimit
  un : A.units + 16 * k + 200 < cLine
theorem Room.mono {j k : Nat} {A : Around} (r : Room k A) (h : j ≤ k) : Room j A := ⟨r.hd, by have := r.dp; omega, by have := r.un; omega⟩
theorem Room.deeper {k : Nat} {A : Around} (r : Room (k + 1) A) (env : Env) : Room k (A.deeper env) :=
  ⟨r.hd, by have := r.dp; show A.depth + 1 + 3 * k + 5 < _; omega, by have := r.un; show A.units + 3 + 16 * k + 200 < _; omega⟩
theorem Room.in1 {k : Nat} {A : Around} (r : Room (k + 1) A) : Room k A.in1 :=
  ⟨r.hd, by have := r.dp; show A.depth + 3 * k + 5 < _; omega, by have := r.un; show A.units + 1 + 16 * k + 200 < _; omega⟩
theorem Room.depth {k : Nat} {A : Around} (r : Room k A) : A.depth < recursionLimit := by have := r.dp; omega
theorem Room.units {k : Nat} {A : Around} (r : Room k A) : A.units + 64 < cLine := by have := r.un; omega
def tNil : TA := fun _ H Q => Q [] H
def tCons (ta : TE) (tr : TA) : TA := fun σ H Q => ta σ H fun x H1 => tr σ H1 fun xs H2 => Q (x :: xs) H2
section
variable {X : Cx} {e : Expr} {es : List Expr} {te : TE} {t : TA} {pos : Pos}
theorem pa_nil : PA X [] tNil := fun _ _ _ _ H Q I h => Calls.spliced_nil ⟨[], H, I, .nil, h⟩
theorem pa_cons (ha : PE X e te) (hr : PA X es t) (hs : starEach (e :: es) X.env = (false, eval e X.env) :: starEach es X.env := by rfl) : PA X (e :: es) (tCons te t) := by
  intro pos pins s σ H Q I h
  rw [hs]
  show wpAny _ _ (spliced ((false, eval e X.env) :: backTo pos (starEach es X.env))) _ _ s
  refine Calls.spliced_cons (thn (ha pins s σ H _ I h) fun u s1 ⟨x, H1, I1, r1, q1⟩ => ?_)
  exact thn (hr pos pins s1 σ H1 _ I1 q1) fun us s2 ⟨xs, H2, I2, r2, q2⟩ => ⟨x :: xs, H2, I2, .cons r1 r2, q2⟩
def tTup (t : TA) : TE := fun σ H Q => t σ H fun xs H1 => xs.length ≤ sizeLine ∧ ∀ p, H1 p = none → Q (.ref p) (upd H1 p (.tup xs))
def tLst (t : TA) : TE := fun σ H Q => t σ H fun xs H1 => xs.length ≤ sizeLine ∧ ∀ p, H1 p = none → Q (.ref p) (upd H1 p (.lst xs))
theorem pe_tup {x1} (h : PA X es t) : PE X (.Tuple es x1 pos) (tTup t) := by
  intro pins s σ H Q I hq
  refine wpAny_Tuple_spliced (thn (h pos pins s σ H _ I hq) fun us s1 ⟨xs, H1, I1, r, z, q⟩ => ⟨by rw [← r.length]; exact z, ?_⟩)
  have hf : H1 s1.heap.objs.size = none := I1.hok.fresh (Nat.le_refl _)
  refine ⟨.ref s1.heap.objs.size, upd H1 s1.heap.objs.size (.tup xs), I1.laid (t' := s1.toks) (fun b u e => Heap.get?_push_of_some _ e) (Nat.le_refl _) ?_, rfl, q _ hf⟩
  exact ⟨z, us, r, ⟨_, Heap.get?_push_size _ rfl, rfl, _, rfl⟩⟩
theorem pe_lst (h : PA X es t) : PE X (.List es pos) (tLst t) := by
  intro pins s σ H Q I hq
  refine wpAny_List_spliced (thn (h pos pins s σ H _ I hq) fun us s1 ⟨xs, H1, I1, r, z, q⟩ => ⟨by rw [← r.length]; exact z, ?_⟩)
  have hf : H1 s1.heap.objs.size = none := I1.hok.fresh (Nat.le_refl _)
  refine ⟨.ref s1.heap.objs.size, upd H1 s1.heap.objs.size (.lst xs), I1.laid (t' := s1.toks) (fun b u e => Heap.get?_push_of_some _ e) (Nat.le_refl _) ?_, rfl, q _ hf⟩
  exact ⟨z, us, 0, r, Heap.get?_push_size _ rfl⟩
end
abbrev Sp := List V → Hp → VK → XK → Prop
abbrev CXT := List Env → Hp → Shared → XK → Value → Shared → Prop
structure Env0 (P : Program) (w : World) (K : PySem.W.Frag) (mg : Str → Option Value) (base : Heap) (A : Around) (outer : List Env) (s : Shared) (H : Hp) : Prop where
  frames : A.frames = some outer
  mod : Mod K mg base
  bs : ∀ b o, base.get? b = some o → s.heap.get? b = some o ∧ H b = none
  bsz : base.objs.size ≤ s.heap.objs.size
  funs : s.heap.FunFrames base outer
  frf : ∀ b ∈ frs outer, H b = none
  hok : HOk P w H s.heap
  bare : AllBare s.gens
def CE (outer : List Env) (P : Program) (w : World) (H : Hp) (s : Shared) (Q : VK) (u : Value) (s' : Shared) : Prop :=
  ∃ v H', s'.os = s.os ∧ AllBare s'.gens ∧ Un (frs outer) [] H H' s.heap s'.heap ∧ HOk P w H' s'.heap ∧ RelV v u ∧ Q v H'
def CR (CX : CXT) (outer : List Env) (P : Program) (w : World) (H : Hp) (s : Shared) (Q : VK) (E : XK) (r : Result) (s' : Shared) : Prop :=
  match r with
  | .ok (.ret u) => CE outer P w H s Q u s'
  | .ok _ => False
  | .error e => CX outer H s E e s'
structure FnOk (P : Program) (w : World) (K : PySem.W.Frag) (mg : Str → Option Value) (base : Heap) (CX : CXT) (k : Nat) (f : Addr) (fd : FuncData) (ps : List Str) (sp : Sp) : Prop where
  len : ∀ vs H Q E, sp vs H Q E → vs.length = ps.length
  run : ∀ (A : Around) (outer : List Env) (s : Shared) (H : Hp) (args : Args) (us : List Value) (vs : List V) (Q : VK) (E : XK), Room k A → Env0 P w K mg base A outer s H → BindsTo s fd args (ps.zip us) → Vals vs us → sp vs H Q E →
    codeAny (model P w) A (.call (.ref f) args) (CR CX outer P w H s Q E) s
theorem Env0.in1 {P : Program} {w : World} {K : PySem.W.Frag} {mg : Str → Option Value} {base : Heap} {A : Around} {outer : List Env} {s : Shared} {H : Hp} (e : Env0 P w K mg base A outer s H) :
    Env0 P w K mg base A.in1 outer s H := ⟨e.frames, e.mod, e.bs, e.bsz, e.funs, e.frf, e.hok, e.bare⟩
section
variable {X : Cx} {pins : List (Addr × Obj)} {σ : St} {H : Hp} {s s' : Shared}
theorem Inv.env0 (I : Inv X pins σ H s) : Env0 X.prog X.w X.K X.mg X.base X.A X.stack s H :=
  ⟨I.ok.frames, I.ok.mod, I.bs, Nat.le_trans I.ok.bsz I.sz, I.stack, I.stkFree, I.hok, I.bare⟩
theorem Inv.after {Q : VK} {u : Value} (I : Inv X pins σ H s) (h : CE X.stack X.prog X.w H s Q u s') : EP X pins σ Q u s' := by
  obtain ⟨v, H', os, bare, un, hok, r, q⟩ := h
  obtain ⟨hh, g, d, t, os'⟩ := s'
  obtain rfl : os' = s.os := os
  exact ⟨v, H', I.call (h' := hh) (g' := g) (d' := d) (t' := t) (ch := []) un hok bare (fun b z => absurd z (by simp)), r, q⟩
end
def tCall (sp : Sp) (dvs : List V) (E : XK) (t : TA) : TE := fun σ H Q => t σ H fun vs H1 => sp (vs ++ dvs) H1 Q E
def Binds (K : PySem.W.Frag) (fd : FuncData) (ps : List Str) (ds : List Value) : Prop :=
  ∀ (s : Shared) (us : List Value), K.In s.heap → (us ++ ds).length = ps.length → BindsTo s fd ⟨us, []⟩ (ps.zip (us ++ ds))
theorem Binds.all {K : PySem.W.Frag} {fd : FuncData} {ps : List Str} (h : ∀ us : List Value, us.length = ps.length → bindArgs fd ⟨us, []⟩ = pure (ps.zip us)) : Binds K fd ps [] := fun s us _ hl => by
  rw [List.append_nil] at hl ⊢
  exact .of_eq (h us hl)
def Passes (CX : CXT) (X : Cx) (E : XK) : Prop := ∀ (pins : List (Addr × Obj)) (σ : St) (H : Hp) (s : Shared) (e : Value) (s' : Shared), Inv X pins σ H s → CX X.stack H s E e s' → X.xe e s'
section
variable {X : Cx} {CX : CXT} {k : Nat} {f C : Addr} {fd : FuncData} {ps : List Str} {sp : Sp} {dvs : List V} {ds : List Value} {E : XK} {x m : Str} {p pos apos : Pos} {e o : Expr} {es : List Expr} {ta : TE} {t : TA}
theorem run_fn {pins : List (Addr × Obj)} {σ : St} {H : Hp} {s : Shared} {Q : VK} {us : List Value} {vs : List V} (F : FnOk X.prog X.w X.K X.mg X.base CX k f fd ps sp) (hr : Room k X.A) (hb : Binds X.K fd ps ds) (hd : Vals dvs ds) (hx : Passes CX X E)
    (I : Inv X pins σ H s) (r : Vals vs us) (h : sp (vs ++ dvs) H Q E) : wpAny (model X.prog X.w) X.A (call (.ref f) us) (EP X pins σ Q) X.xe s := by
  have r2 : Vals (vs ++ dvs) (us ++ ds) := r.append hd
  have hl : (us ++ ds).length = ps.length := by rw [← r2.length]; exact F.len _ _ _ _ h
  refine wpAny_call (codeAny_mono (F.run X.A X.stack s H ⟨us, []⟩ (us ++ ds) (vs ++ dvs) Q E hr I.env0 (hb s us I.kIn hl) r2 h) fun r s' hq => ?_)
  cases r with
  | error e => exact hx pins σ H s e s' I hq
  | ok fl =>
    cases fl with
    | ret u => exact I.after hq
    | next => exact False.elim hq
    | brk => exact False.elim hq
    | cont => exact False.elim hq
theorem pe_call (F : FnOk X.prog X.w X.K X.mg X.base CX k f fd ps sp) (hr : Room k X.A) (hg : Gl X x) (hm : X.mg x = some (.ref f)) (hk : PySem.W.keepIn X.K (.ref f) = true) (hb : Binds X.K fd ps ds) (hd : Vals dvs ds) (hx : Passes CX X E)
    (ha : PA X (e :: es) t) (hdb : (x == ("__debug__" : Str)) = false := by decide) (he : starEach (e :: es) X.env = (false, eval e X.env) :: starEach es X.env := by rfl) (hpl : (backTo pos (starEach es X.env)).any (·.1) = false := by rfl) :
    PE X (.Call (.Name x p) (e :: es) [] pos) (tCall sp dvs E t) := by
  intro pins s σ H Q I h
  refine wpAny_Call_Name_kw (ld_glob I hg hm ?_ hdb)
  refine PySem.W.callWith_K (h₀ := X.base) I.ok.mod.kin hk (thn (ha pos pins s σ H _ I h) fun us s1 ⟨vs, H1, I1, r, q⟩ => ⟨I1.kIn, ?_⟩) he hpl
  exact run_fn F hr hb hd hx I1 r q
end
section
variable {X : Cx} {CX : CXT} {k : Nat} {f C : Addr} {fd : FuncData} {ps ks : List Str} {sp : Sp} {E : XK} {x m : Str} {p pos apos kpos : Pos} {e o : Expr} {es : List Expr} {kws : List Keyword} {te ta : TE} {t tk : TA} {nm : Option Str}
variable {g : List Value → List Value → List Value} {gV : List V → List V → List V}
end
structure FnScope (N P : List Str) (sc : Scope) : Prop where
  kind : sc.kind = .function
  co : sc.isCoroutine = false
  gen : sc.isGenerator = false
  nd : N.Nodup
  pre : N.take P.length = P
  par : ∀ x ∈ P, sc.names.lookup x = some .local ∨ sc.names.lookup x = some .cell
  nofree : ∀ y ∈ sc.names, y.2 ≠ .free
theorem bindL_out {kindOf : Str → Option NameKind} {x : Str} : ∀ {binds : List (Str × Value)} {m : Str → Option Value}, (∀ v, (x, v) ∉ binds) → bindL kindOf binds m x = m x
  | [], _, _ => rfl
  | (n, v) :: r, m, h => by
    unfold bindL
    rw [bindL_out fun w hw => h w (List.mem_cons_of_mem _ hw)]
    split
    · have : x ≠ n := by rintro rfl; exact h v List.mem_cons_self
      simp [this]
    · rfl
theorem bindC_out {kindOf : Str → Option NameKind} {x : Str} : ∀ {binds : List (Str × Value)} {m : Str → Option Value}, (∀ v, (x, v) ∉ binds) → bindC kindOf binds m x = m x
  | [], _, _ => rfl
  | (n, v) :: r, m, h => by
    unfold bindC
    rw [bindC_out fun w hw => h w (List.mem_cons_of_mem _ hw)]
    split
    · rfl
    · have : x ≠ n := by rintro rfl; exact h v List.mem_cons_self
      simp [this]
theorem bindL_get {kindOf : Str → Option NameKind} {x : Str} {v : Value} : ∀ {P : List Str} {vs : List Value} {i : Nat} {m : Str → Option Value}, P.Nodup → P[i]? = some x → vs[i]? = some v → kindOf x = some .local →
    bindL kindOf (P.zip vs) m x = some v
  | [], _, _, _, _, h, _, _ => by simp at h
  | _ :: _, [], _, _, _, _, h, _ => by simp at h
  | p :: P, w :: vs, 0, m, nd, h1, h2, hk => by
    simp at h1 h2; subst h1; subst h2
    show bindL kindOf ((p, w) :: P.zip vs) m p = _
    unfold bindL
    rw [bindL_out fun v hv => (List.nodup_cons.mp nd).1 (List.of_mem_zip hv).1, if_pos hk]
    simp
  | p :: P, w :: vs, i + 1, m, nd, h1, h2, hk => by
    show bindL kindOf ((p, w) :: P.zip vs) m x = _
    unfold bindL
    exact bindL_get (i := i) (List.nodup_cons.mp nd).2 (by simpa using h1) (by simpa using h2) hk
theorem bindC_get {kindOf : Str → Option NameKind} {x : Str} {v : Value} : ∀ {P : List Str} {vs : List Value} {i : Nat} {m : Str → Option Value}, P.Nodup → P[i]? = some x → vs[i]? = some v → kindOf x ≠ some .local →
    bindC kindOf (P.zip vs) m x = some v
  | [], _, _, _, _, h, _, _ => by simp at h
  | _ :: _, [], _, _, _, _, h, _ => by simp at h
  | p :: P, w :: vs, 0, m, nd, h1, h2, hk => by
    simp at h1 h2; subst h1; subst h2
    show bindC kindOf ((p, w) :: P.zip vs) m p = _
    unfold bindC
    rw [bindC_out fun v hv => (List.nodup_cons.mp nd).1 (List.of_mem_zip hv).1, if_neg hk]
    simp
  | p :: P, w :: vs, i + 1, m, nd, h1, h2, hk => by
    show bindC kindOf ((p, w) :: P.zip vs) m x = _
    unfold bindC
    exact bindC_get (i := i) (List.nodup_cons.mp nd).2 (by simpa using h1) (by simpa using h2) hk
def start (N : List Str) (vs : List V) : St := vs.map some ++ List.replicate (N.length - vs.length) none
def cxOf (CX : CXT) (P : Program) (w : World) (K : PySem.W.Frag) (mg : Str → Option Value) (base : Heap) (N : List Str) (qual : Str) (scope : Scope) (f : Addr) (cd : Value) (A : Around) (outer : List Env) (s : Shared) (H : Hp) (E : XK) : Cx where
  prog := P
  w := w
  K := K
  mg := mg
  base := base
  A := A.deeper (envOfC qual scope s.heap.objs.size f cd)
  N := N
  s₀ := s
  H₀ := H
  env := envOfC qual scope s.heap.objs.size f cd
  outer := outer
  stack := envOfC qual scope s.heap.objs.size f cd :: outer
  ex := []
  calm := true
  fn := fun _ => true
  pn := []
  xe := fun e s' => wpAny (model P w) (A.deeper (envOfC qual scope s.heap.objs.size f cd)) (leaving (envOfC qual scope s.heap.objs.size f cd) e) (fun _ s'' => CX outer H s E e s'') (fun e' s'' => CX outer H s E e' s'') s'
theorem cell_has {sc : Scope} {n : Nat} {x : Str} (h : sc.names.lookup x = some .cell) : ∃ c, (cellsFrom n sc.names []).lookup x = some c := by
  have q := PySem.W.cellsFrom_some sc.names n [] (.inl h)
  exact Option.isSome_iff_exists.mp q
theorem inv_start {CX : CXT} {P : Program} {w : World} {K : PySem.W.Frag} {mg : Str → Option Value} {base : Heap} {N ps : List Str} {qual : Str} {scope : Scope} {f : Addr} {cd : Value} {A : Around} {outer : List Env} {s s1 : Shared} {H : Hp} {E : XK} {us : List Value} {vs : List V}
    (S : FnScope N ps scope) (hd : A.handled = none) (e0 : Env0 P w K mg base A outer s H) (hl : vs.length = ps.length) (r : Vals vs us)
    (x : InCallC s s.heap.objs.size (bindL (envOfC qual scope s.heap.objs.size f cd).kindOf (ps.zip us) fun _ => none) (cellsFrom (s.heap.objs.size + 1) scope.names []) (bindC (envOfC qual scope s.heap.objs.size f cd).kindOf (ps.zip us) fun _ => none) s1) :
    Inv (cxOf CX P w K mg base N qual scope f cd A outer s H E) [] (start N vs) H s1 := by
  have hpl : ps.length ≤ N.length := by have := congrArg List.length S.pre; rw [List.length_take] at this; omega
  obtain ⟨h1, tk, rfl, hk⟩ := x.done
  have noA : ∀ b : Addr, b ∉ (cxOf CX P w K mg base N qual scope f cd A outer s H E).ex := fun b z => absurd (show b ∈ ([] : List Addr) from z) (by simp)
  refine ⟨⟨e0.mod, S.kind, rfl, rfl, Nat.le_refl _, fun y z c h1 h2 => ?_, fun y hy => ?_, fun y c _ h => ?_, fun _ => hd, Around.frames_deeper e0.frames, .inr ⟨rfl, rfl⟩, fun b z => absurd z (noA b), e0.bs, e0.bsz, fun b _ _ => noA b, fun b z => absurd z (noA b), e0.funs, e0.frf⟩,
    rfl, e0.bare, Un.kept hk, ⟨_, x.toInCall.ns, fun i y v h1 h2 h3 => ?_⟩, fun y c h => ⟨_, x.cell y c h⟩, e0.hok.fresh (Nat.le_refl _), fun y c h => ?_, fun p hp => absurd (show p ∈ ([] : List (Addr × Obj)) from hp) (by simp), e0.hok.kept hk, ?_⟩
  · exact name_of_addr x.apart (PySem.mem_of_lookup h1) (PySem.mem_of_lookup h2)
  · have hy : scope.names.lookup y = some .cell ∨ scope.names.lookup y = some .free := hy
    rcases hy with hy | hy
    · exact cell_has hy
    · exact absurd rfl (S.nofree _ (PySem.mem_of_lookup hy))
  · exact Nat.le_of_lt (x.above y c (PySem.mem_of_lookup h))
  · have hi : i < vs.length := by
      unfold start at h2
      by_cases hi : i < vs.length
      · exact hi
      · rw [List.getElem?_append_right (by simpa using hi)] at h2
        rw [List.getElem?_replicate] at h2
        split at h2 <;> cases h2
    have ha : vs[i]? = some v := by
      unfold start at h2
      rw [List.getElem?_append_left (by simpa using hi), List.getElem?_map] at h2
      cases e : vs[i]? with
      | none => rw [e] at h2; cases h2
      | some a => rw [e] at h2; cases h2; rfl
    obtain ⟨u, hu, rv⟩ := r.get ha
    have hp : ps[i]? = some y := by
      rw [← S.pre, List.getElem?_take_of_lt (by omega)]; exact h1
    have ndP : ps.Nodup := by rw [← S.pre]; exact S.nd.sublist (List.take_sublist _ _)
    refine ⟨u, rv, ?_⟩
    rcases S.par y (List.mem_of_getElem? hp) with k | k
    · exact .inl ⟨k, bindL_get ndP hp hu k⟩
    · obtain ⟨c, e⟩ := cell_has (n := s.heap.objs.size + 1) k
      refine .inr ⟨.inl k, c, e, ?_⟩
      have q := x.cell y c e
      rw [bindC_get ndP hp hu (by show scope.names.lookup y ≠ _; rw [k]; decide)] at q
      exact q
  · exact e0.hok.fresh (Nat.le_of_lt (x.above y c (PySem.mem_of_lookup h)))
  · unfold start
    show _ = N.length
    rw [List.length_append, List.length_map, List.length_replicate]
    omega
theorem fn_of {CX : CXT} {P : Program} {w : World} {K : PySem.W.Frag} {mg : Str → Option Value} {base : Heap} {k : Nat} {f : Addr} {name qual : Str} {params : Arguments} {body : List Stmt} {scope : Scope} {dV kV doc pm cdv ct oc : Value} {an od : Option Addr}
    {osl : Array (Option Value)} {N ps : List Str} {sp : Sp} (lk : K.lookup f = some ⟨oc, od, .func (PySem.W.fnOf name qual params body scope dV kV doc pm an cdv ct), osl⟩) (hcd : PySem.W.codeIn K cdv qual = true) (S : FnScope N ps scope)
    (len : ∀ vs H Q E, sp vs H Q E → vs.length = ps.length)
    (hbody : ∀ (A : Around) (outer : List Env) (s : Shared) (H : Hp) (vs : List V) (Q : VK) (E : XK), Room k (A.deeper (envOfC qual scope s.heap.objs.size f cdv)) → sp vs H Q E →
      ∃ t, PSs (cxOf CX P w K mg base N qual scope f cdv A outer s H E) body t ∧ t { nx := fun _ H' => Q .non H', rt := Q } (start N vs) H) :
    FnOk P w K mg base CX (k + 1) f (PySem.W.fnOf name qual params body scope dV kV doc pm an cdv ct) ps sp := by
  refine ⟨len, fun A outer s H args us vs Q E hr e0 hb r hsp => ?_⟩
  have hl := len _ _ _ _ hsp
  have KX : K.In s.heap := e0.mod.kin.keeps fun b o e => (e0.bs b o e).1
  have lim : s.heap.NoLimit := e0.mod.nolimit.keeps fun b o e => (e0.bs b o e).1
  have hkind : ∀ y ∈ ps.zip us, scope.names.lookup y.1 = some .local ∨ (scope.names.lookup y.1 = some .cell ∧ ((cellsFrom (s.heap.objs.size + 1) scope.names []).lookup y.1).isSome = true) := fun ⟨n, v⟩ hy => by
    rcases S.par n (List.of_mem_zip hy).1 with q | q
    · exact .inl q
    · exact .inr ⟨q, PySem.W.cellsFrom_some _ _ _ (.inl q)⟩
  refine codeAny_call_function hr.depth (KX _ _ lk) rfl S.co S.gen rfl (PySem.W.codeRec_of KX hcd) (hb _ _ _ _ ?_)
  refine wpAny_newFunctionEnv_cells S.kind hkind fun env he s1 x => ?_
  subst he
  refine ⟨lim.keeps x.toInCall.keep, codeAny_func ?_⟩
  obtain ⟨t, ht, hq⟩ := hbody A outer s H vs Q E (hr.deeper _) hsp
  have I : Inv (cxOf CX P w K mg base N qual scope f cdv A outer s H E) [] (start N vs) H s1 := inv_start S hr.hd e0 hl r x
  refine wpAny_mono (ht [] s1 (start N vs) H _ I hq) (fun fl s' hs => ?_) fun e s' hs => hs
  have fin : ∀ {σ' : St} {H' : Hp} {v : V} {u : Value}, Inv (cxOf CX P w K mg base N qual scope f cdv A outer s H E) [] σ' H' s' → RelV v u → Q v H' → CE outer P w H s Q u s' :=
    fun {σ' H' v u} J rv q => ⟨v, H', J.os, J.bare, J.base, J.hok, rv, q⟩
  cases fl with
  | ret u =>
    obtain ⟨v, σ', H', J, rv, q⟩ := hs
    exact fin J rv q
  | next =>
    obtain ⟨σ', H', J, q⟩ := hs
    exact fin (v := V.non) (u := Value.none) J rfl q
  | brk =>
    obtain ⟨_, _, _, q⟩ := hs
    exact False.elim q
  | cont =>
    obtain ⟨_, _, _, q⟩ := hs
    exact False.elim q
end L2
namespace L2
open PySem PySem.Spec PyProof.Rows
section
variable {X : Cx} {x : Str} {p pos : Pos} {e : Expr} {es : List Expr} {t : TA} {id T : String} {r : List V → Hp → VK → Prop}
def tCB (r : List V → Hp → VK → Prop) (t : TA) : TE := fun σ H Q => t σ H fun vs H1 => r vs H1 Q
theorem pe_callB (hc : CallR X (.builtin id) r) (hg : Gl X x) (hm : X.mg x = none) (hv : bootBuiltins x = some (.builtin id)) (ha : PA X (e :: es) t) (hn : x ≠ "__name__" := by decide) (hdb : (x == ("__debug__" : Str)) = false := by decide)
    (he : starEach (e :: es) X.env = (false, eval e X.env) :: starEach es X.env := by rfl) (hpl : (backTo pos (starEach es X.env)).any (·.1) = false := by rfl) : PE X (.Call (.Name x p) (e :: es) [] pos) (tCB r t) := by
  intro pins s σ H Q I h
  refine wpAny_Call_Name_kw (ld_blt I hg hm hv ?_ hn hdb)
  exact PyProof.Rows.callWith_builtin1 (thn (ha pos pins s σ H _ I h) fun us s1 ⟨vs, H1, I1, r1, q1⟩ => hc pins s1 σ H1 vs us Q I1 r1 q1) he hpl
theorem pe_callTy (hc : CallR X (.type T) r) (hg : Gl X x) (hm : X.mg x = none) (hv : bootBuiltins x = some (.type T)) (ha : PA X (e :: es) t) (hn : x ≠ "__name__" := by decide) (hdb : (x == ("__debug__" : Str)) = false := by decide)
    (he : starEach (e :: es) X.env = (false, eval e X.env) :: starEach es X.env := by rfl) (hpl : (backTo pos (starEach es X.env)).any (·.1) = false := by rfl) : PE X (.Call (.Name x p) (e :: es) [] pos) (tCB r t) := by
  intro pins s σ H Q I h
  refine wpAny_Call_Name_kw (ld_blt I hg hm hv ?_ hn hdb)
  exact PyProof.Rows.callWith_type1 (thn (ha pos pins s σ H _ I h) fun us s1 ⟨vs, H1, I1, r1, q1⟩ => hc pins s1 σ H1 vs us Q I1 r1 q1) he hpl
end
end L2
namespace HT
open PySem PyProof.Rows
section
open PySem.SeqAt
open PySem.AutoSeq1 (wpAny_loadPart')
open PySem.MeetsSeq PySem.MeetsSeq2 PySem.MeetsSeq3
end
section
variable {prog : Program} {w : World} {A : Around} {E : Value → Shared → Prop} {s : Shared}
def sIx (n d : Nat) : Option Int → Nat
  | none => d
  | some v => if v < 0 then (v + (n : Int)).toNat else min v.toNat n
theorem sIx_none (n d : Nat) : sIx n d none = d := rfl
theorem sIx_nat (n d k : Nat) : sIx n d (some (k : Int)) = min k n := by
  show (if (k : Int) < 0 then ((k : Int) + (n : Int)).toNat else min (k : Int).toNat n) = min k n
  rw [if_neg (by omega), Int.toNat_natCast]
end
end HT
namespace L2
open PySem PySem.Spec PyProof.Rows
abbrev TO := St → Hp → (Option Int → Hp → Prop) → Prop
def PO (X : Cx) (e : Option Expr) (t : TO) : Prop :=
  ∀ (pins : List (Addr × Obj)) (s : Shared) (σ : St) (H : Hp) (Q : Option Int → Hp → Prop), Inv X pins σ H s → t σ H Q →
    wpAny (model X.prog X.w) X.A (evalPart e X.env) (fun u s' => ∃ o H', Inv X pins σ H' s' ∧ IsPart u o ∧ Q o H') X.xe s
def tNoPart : TO := fun _ H Q => Q none H
def tPart (t : TE) : TO := fun σ H Q => t σ H fun x H1 => ∃ i, x = .int i ∧ Q (some i) H1
section
variable {X : Cx} {e : Expr} {te : TE} {lo hi : Option Expr} {tl th : TO} {pos p2 : Pos}
theorem po_none : PO X none tNoPart := by
  intro pins s σ H Q I h
  rw [evalPart_none]
  exact wpAny_pure ⟨none, H, I, .none, h⟩
theorem po_some (h : PE X e te) : PO X (some e) (tPart te) := by
  intro pins s σ H Q I hw
  rw [evalPart_some]
  refine thn (h pins s σ H _ I hw) fun u s1 ⟨x, H1, I1, r1, q1⟩ => ?_
  obtain ⟨i, rfl, q⟩ := q1
  obtain ⟨t, rfl⟩ := r1
  exact ⟨some i, H1, I1, .int i t, q⟩
def SlR (X : Cx) (r : V → Option Int → Option Int → Hp → VK → Prop) : Prop :=
  ∀ (pins : List (Addr × Obj)) (s : Shared) (σ : St) (H : Hp) (x : V) (v vl vu : Value) (lo hi : Option Int) (sl : Addr) (Q : VK), Inv X pins σ H s → RelV x v → s.heap.IsSliceOf sl vl vu .none → IsPart vl lo → IsPart vu hi → r x lo hi H Q →
    ∃ T id, typeLookup (.type T) "__getitem__" = pure (some (.builtin id)) ∧ s.TypeIs v T ∧ wpAny (model X.prog X.w) X.A (getItem v (.ref sl)) (EP X pins σ Q) X.xe s
def tSl (r : V → Option Int → Option Int → Hp → VK → Prop) (te : TE) (tl th : TO) : TE := fun σ H Q => te σ H fun x H1 => tl σ H1 fun l H2 => th σ H2 fun u H3 => r x l u H3 Q
theorem pe_slice {r : V → Option Int → Option Int → Hp → VK → Prop} (hr : SlR X r) (he : PE X e te) (hl : PO X lo tl) (hu : PO X hi th) : PE X (.Subscript e (.Slice lo hi none p2) pos) (tSl r te tl th) := by
  intro pins s σ H Q I h
  refine Subscript_ (thn (he pins s σ H _ I h) fun v s1 ⟨x, H1, I1, r1, q1⟩ => ?_)
  refine wpAny_Slice (thn (hl pins s1 σ H1 _ I1 q1) fun vl s2 ⟨l, H2, I2, pl, q2⟩ => thn (hu pins s2 σ H2 _ I2 q2) fun vu s3 ⟨u, H3, I3, pu, q3⟩ => ?_)
  rw [evalPart_none]
  refine wpAny_pure ?_
  have I4 : Inv X pins σ H3 { s3 with heap := s3.heap.push { cls := .type "slice", data := .fields #[vl, vu, .none] } } := I3.kept (t' := s3.toks) fun b ob q => Heap.get?_push_of_some _ q
  obtain ⟨T, id, hT, ht, hg⟩ := hr pins { s3 with heap := s3.heap.push { cls := .type "slice", data := .fields #[vl, vu, .none] } } σ H3 x v vl vu l u s3.heap.objs.size Q I4 r1 (Heap.IsSliceOf.new ..) pl pu q3
  show wpAny (model X.prog X.w) X.A (subscriptTail e (.Slice lo hi none p2) v (.ref s3.heap.objs.size)) (EP X pins σ Q) X.xe { s3 with heap := s3.heap.push { cls := .type "slice", data := .fields #[vl, vu, .none] } }
  exact tail_any (ops := [.ref s3.heap.objs.size, v]) ht hT hg (by with_unfolding_all rfl)
def cutV (xs : List V) (lo hi : Option Int) : List V := (xs.drop (HT.sIx xs.length 0 lo)).take (HT.sIx xs.length xs.length hi - HT.sIx xs.length 0 lo)
theorem cutV_length (xs : List V) (lo hi : Option Int) : (cutV xs lo hi).length ≤ xs.length := by
  unfold cutV
  rw [List.length_take, List.length_drop]
  omega
end
end L2
namespace L2
open PySem PySem.Spec PyProof.Rows
def ixN (n : Nat) (i : Int) : Option Nat := if 0 ≤ i then (if i < n then some i.toNat else none) else if -(n : Int) ≤ i then some (i + n).toNat else none
def atI {α : Type} (xs : List α) (i : Int) : Option α := (ixN xs.length i).bind fun j => xs[j]?
theorem ixN_seq {n : Nat} {i : Int} {j : Nat} (h : ixN n i = some j) : seqIndex? i n = some j ∧ j < n ∧ -(n : Int) ≤ i ∧ i < n := by
  unfold ixN at h
  by_cases h0 : 0 ≤ i
  · rw [if_pos h0] at h
    by_cases h1 : i < n
    · rw [if_pos h1] at h
      have e : i.toNat = j := Option.some.inj h
      exact ⟨by rw [seqIndex_of h0 h1, e], by omega, by omega, h1⟩
    · rw [if_neg h1] at h; cases h
  · rw [if_neg h0] at h
    by_cases h1 : -(n : Int) ≤ i
    · rw [if_pos h1] at h
      have e : (i + n).toNat = j := Option.some.inj h
      exact ⟨by rw [seqIndex_neg (by omega) h1, e], by omega, h1, by omega⟩
    · rw [if_neg h1] at h; cases h
theorem atI_get {α : Type} {xs : List α} {i : Int} {v : α} (h : atI xs i = some v) : ∃ j, seqIndex? i xs.length = some j ∧ xs[j]? = some v ∧ j < xs.length ∧ -(xs.length : Int) ≤ i ∧ i < xs.length := by
  unfold atI at h
  cases e : ixN xs.length i with
  | none => rw [e] at h; cases h
  | some j =>
    rw [e] at h
    obtain ⟨h1, h2, h3, h4⟩ := ixN_seq e
    exact ⟨j, h1, h, h2, h3, h4⟩
theorem atI_nat {α : Type} {xs : List α} {j : Nat} {v : α} (h : xs[j]? = some v) : atI xs (j : Int) = some v := by
  have hj : j < xs.length := (List.getElem?_eq_some_iff.mp h).1
  have e : ixN xs.length (j : Int) = some j := by
    unfold ixN
    rw [if_pos (by omega), if_pos (by omega)]; simp
  unfold atI; rw [e]; exact h
theorem atI_last {α : Type} (xs : List α) (v : α) : atI (xs ++ [v]) (-1) = some v := by
  have hl : (xs ++ [v]).length = xs.length + 1 := by simp
  have e : ixN (xs ++ [v]).length (-1) = some xs.length := by
    unfold ixN
    rw [hl, if_neg (by decide), if_pos (by omega)]
    congr 1
    omega
  unfold atI
  rw [e]
  show (xs ++ [v])[xs.length]? = some v
  simp
def PlainIx (b : Expr) : Prop := ∀ o i, subscripted b false o i = operate [o, i] (getItem o i)
def IxR (X : Cx) (r : R2) : Prop :=
  ∀ (value slice : Expr) (pins : List (Addr × Obj)) (s : Shared) (σ : St) (H : Hp) (x y : V) (v u : Value) (Q : VK), Inv X pins σ H s → RelV x v → RelV y u → r x y H Q →
    subscripted slice false v u = operate [v, u] (getItem v u) → wpAny (model X.prog X.w) X.A (subscriptTail value slice v u) (EP X pins σ Q) X.xe s
def MtR (X : Cx) (id : String) (r : V → List V → Hp → VK → Prop) : Prop :=
  ∀ (pins : List (Addr × Obj)) (s : Shared) (σ : St) (H : Hp) (x : V) (xs : List V) (v : Value) (us : List Value) (Q : VK), Inv X pins σ H s → RelV x v → Vals xs us → r x xs H Q →
    wpAny (model X.prog X.w) X.A (call (.builtin id) (v :: us)) (EP X pins σ Q) X.xe s
section
variable {X : Cx} {a b : Expr} {ta tb : TE} {pos : Pos}
theorem pe_ix {r : R2} (hr : IxR X r) (ha : PE X a ta) (hb : PE X b tb) (hs : PlainIx b) : PE X (.Subscript a b pos) (tOp r ta tb) := by
  intro pins s σ H Q I h
  exact Subscript_ (binT ha hb I h fun v u s2 x y H2 I2 rx ry q => hr a b pins s2 σ H2 x y v u Q I2 rx ry q (hs _ _))
def rIxL (K : PySem.W.Frag) : R2 := fun x y H Q => ∃ p xs i v, x = .ref p ∧ y = .int i ∧ SqL K H p xs ∧ atI xs i = some v ∧ Q v H
def rIxT (K : PySem.W.Frag) : R2 := fun x y H Q => ∃ p xs i v, x = .ref p ∧ y = .int i ∧ SqT K H p xs ∧ atI xs i = some v ∧ Q v H
theorem ix_list : IxR X (rIxL X.K) := by
  intro value slice pins s σ H x y v u Q I rx ry h hs
  obtain ⟨p, xs, i, z, rfl, rfl, hq, he, q⟩ := h
  cases rx
  obtain ⟨t, rfl⟩ := ry
  obtain ⟨its, r, pl, hz⟩ := I.list hq
  obtain ⟨j, h1, h2, h3, h4, h5⟩ := atI_get he
  obtain ⟨w, ew, rw'⟩ := r.get h2
  have hl := r.length
  have hn := line63
  have fin : EP X pins σ Q w s := ⟨z, H, I, rw', q⟩
  by_cases h0 : 0 ≤ i
  · have hj : i.toNat = j := by
      rw [seqIndex_of h0 h5] at h1
      exact Option.some.inj h1
    exact item_listR pl.isList h0 (by omega) (by rw [hj]; simpa using ew) fin hs
  · have hj : (i + (its.toArray.size : Int)).toNat = j := by
      rw [seqIndex_neg (by omega) h4] at h1
      rw [List.size_toArray, ← hl]
      exact Option.some.inj h1
    exact subscriptTail_builtinR (x := w) pl.isList.typeIs slot_list_getitem.lookup
      (wpAny_getItem_list_neg (Q := fun r s' => r = w ∧ EP X pins σ Q r s') pl.isList (by omega) (by rw [List.size_toArray] <;> omega) (by omega) (by rw [hj]; simpa using ew) ⟨rfl, fin⟩) hs
theorem ix_tup : IxR X (rIxT X.K) := by
  intro value slice pins s σ H x y v u Q I rx ry h hs
  obtain ⟨p, xs, i, z, rfl, rfl, hq, he, q⟩ := h
  cases rx
  obtain ⟨t, rfl⟩ := ry
  obtain ⟨its, r, pl, hz⟩ := I.tuple hq
  obtain ⟨j, h1, h2, h3, h4, h5⟩ := atI_get he
  obtain ⟨w, ew, rw'⟩ := r.get h2
  have hl := r.length
  have hn := line63
  have fin : EP X pins σ Q w s := ⟨z, H, I, rw', q⟩
  exact subscriptTail_builtinR (x := w) pl.typeIs slot_tuple_getitem.lookup
    (getItem_tuple (j := j) (Q := fun r s' => r = w ∧ EP X pins σ Q r s') pl (by omega) (by omega) (by rw [List.size_toArray, ← hl]; exact h1) (by simpa using ew) ⟨rfl, fin⟩) hs
theorem mapSeq_set (its : List Value) (n j : Nat) (u : Value) : Obj.mapSeq (·.setIfInBounds j u) { cls := .type "list", data := .seq its.toArray n } = { cls := .type "list", data := .seq (its.set j u).toArray n } := by
  simp [Obj.mapSeq]
theorem Inv.lst {pins : List (Addr × Obj)} {σ : St} {H : Hp} {s : Shared} {p : Addr} {xs : List V} (I : Inv X pins σ H s) (h : H p = some (.lst xs)) :
    ∃ (its : List Value) (n : Nat), Vals xs its ∧ s.heap.get? p = some { cls := .type "list", data := .seq its.toArray n } ∧ xs.length ≤ sizeLine := by
  obtain ⟨z, its, n, r, e⟩ := I.hok p _ h
  exact ⟨its, n, r, e, z⟩
theorem Inv.lstUpd {pins : List (Addr × Obj)} {σ : St} {H : Hp} {s : Shared} {p : Addr} {xs ys : List V} {its its' : List Value} {n n' : Nat} {f : Obj → Obj} (I : Inv X pins σ H s) (h : H p = some (.lst xs))
    (ho : s.heap.get? p = some { cls := .type "list", data := .seq its.toArray n }) (hf : f { cls := .type "list", data := .seq its.toArray n } = { cls := .type "list", data := .seq its'.toArray n' }) (r : Vals ys its') (hz : ys.length ≤ sizeLine) (t : Nat) :
    Inv X pins σ (upd H p (.lst ys)) { s with heap := s.heap.update p f, toks := t } := by
  have e : (s.heap.update p f).get? p = some { cls := .type "list", data := .seq its'.toArray n' } := by
    rw [Heap.get?_update_self f ho (by rw [hf] <;> rfl), hf]
  refine I.write (x := p) (e := p) (by rw [h]; trivial) (.inl rfl) (fun b u hb q => (Heap.get?_update_other _ _ (Ne.symm hb)).trans q) ⟨_, e⟩ ?_
  exact ⟨hz, its', n', r, e⟩
def rSetL : V → V → V → Hp → (Hp → Prop) → Prop := fun o i v H Q => ∃ p xs k j, o = .ref p ∧ i = .int k ∧ H p = some (.lst xs) ∧ ixN xs.length k = some j ∧ Q (upd H p (.lst (xs.set j v)))
theorem set_list : PSet X rSetL := by
  intro pins s σ H o i v ov iv u Q I ro ri rv h
  obtain ⟨p, xs, k, j, rfl, rfl, hp, hj, q⟩ := h
  cases ro
  obtain ⟨t, rfl⟩ := ri
  obtain ⟨its, n, r, ho, hz⟩ := I.lst hp
  obtain ⟨h1, h2, h3, h4⟩ := ixN_seq hj
  have hl := r.length
  have hn := line63
  have I' : Inv X pins σ (upd H p (.lst (xs.set j v))) { s with heap := s.heap.update p (Obj.mapSeq (·.setIfInBounds j u)) } :=
    I.lstUpd hp ho (mapSeq_set its n j u) (r.set rv j) (by rw [List.length_set]; exact hz) s.toks
  by_cases h0 : 0 ≤ k
  · have hk : k.toNat = j := by
      rw [seqIndex_of h0 h4] at h1
      exact Option.some.inj h1
    exact PySem.W.ki_setAt ho h0 (by omega) (by rw [List.size_toArray, ← hl]; exact h4) (by rw [hk]; exact ⟨_, I', q⟩)
  · have hk : (k + (its.toArray.size : Int)).toNat = j := by
      rw [seqIndex_neg (by omega) h3] at h1
      rw [List.size_toArray, ← hl]
      exact Option.some.inj h1
    exact PySem.W.ki_setBack ho (by omega) (by rw [List.size_toArray, ← hl]; exact h3) (by omega) (by rw [hk]; exact ⟨_, I', q⟩)
theorem slice_bounds (lo hi : Option Int) (n : Nat) : (sliceBounds lo hi none n).1 = ((HT.sIx n 0 lo : Nat) : Int) ∧ (sliceBounds lo hi none n).2.1 = ((HT.sIx n n hi : Nat) : Int) ∧ (sliceBounds lo hi none n).2.2 = 1 := by
  refine ⟨?_, ?_, rfl⟩
  · cases lo with
    | none => simp [sliceBounds, HT.sIx]
    | some i =>
      simp only [sliceBounds, HT.sIx, Option.getD_none, show (1 : Int) > 0 by decide, if_true]
      by_cases h : i < 0
      · simp only [h, if_true] <;> omega
      · simp only [h, if_false] <;> omega
  · cases hi with
    | none => simp [sliceBounds, HT.sIx]
    | some i =>
      simp only [sliceBounds, HT.sIx, Option.getD_none, show (1 : Int) > 0 by decide, if_true]
      by_cases h : i < 0
      · simp only [h, if_true] <;> omega
      · simp only [h, if_false] <;> omega
theorem slicePick_cut (its : List Value) (lo hi : Option Int) : slicePick its.toArray lo hi none = ((its.drop (HT.sIx its.length 0 lo)).take (HT.sIx its.length its.length hi - HT.sIx its.length 0 lo)).toArray := by
  obtain ⟨h1, h2, h3⟩ := slice_bounds lo hi its.toArray.size
  unfold slicePick
  rw [h1, h2, h3]
  simp only [sliceRange_one, pick_run, List.size_toArray] <;> rfl
def rSlL (K : PySem.W.Frag) : V → Option Int → Option Int → Hp → VK → Prop := fun x lo hi H Q => ∃ a xs, x = .ref a ∧ SqL K H a xs ∧ ∀ p, H p = none → Q (.ref p) (upd H p (.lst (cutV xs lo hi)))
theorem sl_list : SlR X (rSlL X.K) := by
  intro pins s σ H x v vl vu lo hi sl Q I rx hs pl pu h
  obtain ⟨a, xs, rfl, hx, q⟩ := h
  cases rx
  obtain ⟨its, r, ht, hz⟩ := I.list hx
  have hlen := r.length
  refine ⟨"list", _, slot_list_getitem.lookup, ht.isList.typeIs, ?_⟩
  refine wpAny_getItem_list_slice ht.isList hs pl pu .none (by simp) ?_ (by rw [List.size_toArray] <;> omega)
  rw [slicePick_cut, ← hlen]
  refine ⟨.ref s.heap.objs.size, _, I.laid (t' := s.toks) (o := .lst (cutV xs lo hi)) (fun b ob q => Heap.get?_push_of_some _ q) (Nat.le_refl _) ?_, rfl, q _ (I.hok.fresh (Nat.le_refl _))⟩
  exact ⟨Nat.le_trans (cutV_length xs lo hi) hz, _, 0, (r.drop (HT.sIx xs.length 0 lo)).take (HT.sIx xs.length xs.length hi - HT.sIx xs.length 0 lo), Heap.get?_push_size _ rfl⟩
def flatV : V → Bool
  | .non => true
  | .bl _ => true
  | .int _ => true
  | .str _ => true
  | _ => false
def eqV : V → V → Bool
  | .non, .non => true
  | .bl a, .bl b => a == b
  | .bl a, .int b => (if a then 1 else 0) == b
  | .int a, .bl b => a == (if b then 1 else 0)
  | .int a, .int b => a == b
  | .str a, .str b => a == b
  | _, _ => false
theorem eqAt_V {A : Around} {s : Shared} {y x : V} {u v : Value} (ry : RelV y u) (rx : RelV x v) (fy : flatV y = true) (fx : flatV x = true) : SeqAt.EqAt A s u v (eqV y x) := by
  cases y with
  | non =>
    cases ry
    cases x with
    | non => cases rx; exact SeqAt.EqAt.same _
    | bl b => cases rx; exact SeqAt.EqAt.none_bool b
    | int b => obtain ⟨t, rfl⟩ := rx; exact SeqAt.EqAt.none_int b t
    | str b => obtain ⟨t, rfl⟩ := rx; exact SeqAt.EqAt.none_str b t
    | _ => exact absurd (show false = true from fx) Bool.false_ne_true
  | bl a =>
    cases ry
    cases x with
    | non => cases rx; exact SeqAt.EqAt.bool_none a
    | bl b => cases rx; exact SeqAt.EqAt.bool_bool a b
    | int b => obtain ⟨t, rfl⟩ := rx; exact SeqAt.EqAt.bool_int a b t
    | str b => obtain ⟨t, rfl⟩ := rx; exact SeqAt.EqAt.bool_str a b t
    | _ => exact absurd (show false = true from fx) Bool.false_ne_true
  | int a =>
    obtain ⟨t', rfl⟩ := ry
    cases x with
    | non => cases rx; exact SeqAt.EqAt.int_none a t'
    | bl b => cases rx; exact SeqAt.EqAt.int_bool a t' b
    | int b => obtain ⟨t, rfl⟩ := rx; exact SeqAt.EqAt.int_int a t' b t
    | str b => obtain ⟨t, rfl⟩ := rx; exact SeqAt.EqAt.int_str a t' b t
    | _ => exact absurd (show false = true from fx) Bool.false_ne_true
  | str a =>
    obtain ⟨t', rfl⟩ := ry
    cases x with
    | non => cases rx; exact SeqAt.EqAt.str_none a t'
    | bl b => cases rx; exact SeqAt.EqAt.str_bool a t' b
    | int b => obtain ⟨t, rfl⟩ := rx; exact SeqAt.EqAt.str_int a t' b t
    | str b => obtain ⟨t, rfl⟩ := rx; exact SeqAt.EqAt.str_str a t' b t
    | _ => exact absurd (show false = true from fx) Bool.false_ne_true
  | _ => exact absurd (show false = true from fy) Bool.false_ne_true
def eqU (x : V) (u : Value) : Bool := match u with
  | .none => eqV .non x
  | .bool b => eqV (.bl b) x
  | .int i _ => eqV (.int i) x
  | .str z _ => eqV (.str z) x
  | _ => false
theorem eqU_of {x y : V} {u : Value} (r : RelV y u) (f : flatV y = true) : eqU x u = eqV y x := by
  cases y with
  | non => cases r; rfl
  | bl b => cases r; rfl
  | int i => obtain ⟨t, rfl⟩ := r; rfl
  | str z => obtain ⟨t, rfl⟩ := r; rfl
  | _ => exact absurd (show false = true from f) Bool.false_ne_true
theorem any_eqU {x : V} : ∀ {xs : List V} {us : List Value}, Vals xs us → xs.all flatV = true → us.any (eqU x) = xs.any fun y => eqV y x
  | _, _, .nil, _ => rfl
  | y :: xs, u :: us, .cons r t, f => by
    rw [List.all_cons, Bool.and_eq_true] at f
    rw [List.any_cons, List.any_cons, eqU_of r f.1, any_eqU t f.2]
theorem mem_eqAt {A : Around} {s : Shared} {x : V} {v : Value} (rx : RelV x v) (fx : flatV x = true) : ∀ {xs : List V} {us : List Value}, Vals xs us → xs.all flatV = true → ∀ u ∈ us, SeqAt.EqAt A s u v (eqU x u)
  | _, _, .nil, _ => fun u hu => by cases hu
  | y :: xs, u :: us, .cons r t, f => fun u' hu => by
    rw [List.all_cons, Bool.and_eq_true] at f
    rcases List.mem_cons.mp hu with rfl | hu
    · rw [eqU_of r f.1]; exact eqAt_V r rx f.1 fx
    · exact mem_eqAt rx fx t f.2 u' hu
def inV (x : V) (xs : List V) : Bool := xs.any fun y => eqV y x
def rIn (K : PySem.W.Frag) (neg : Bool) : R2 := fun x y H Q => ∃ p xs, y = .ref p ∧ (SqL K H p xs ∨ SqT K H p xs) ∧ flatV x = true ∧ xs.all flatV = true ∧ Q (.bl (if neg then !inV x xs else inV x xs)) H
theorem op_notIn_seq : OpR X (compareOp .NotIn) (rIn X.K true) := by
  intro pins s σ H x y v u Q I rx ry h
  obtain ⟨p, xs, rfl, hq, fx, fs, q⟩ := h
  cases ry
  rcases hq with hq | hq
  · obtain ⟨its, r, pl, hz⟩ := I.list hq
    refine SeqAt.notIn_listAt (eqU x) pl.isList (fun w hw => mem_eqAt rx fx r fs w (by simpa using hw)) ⟨.bl _, H, I, rfl, ?_⟩
    rw [show its.toArray.any (eqU x) = its.any (eqU x) by simp, any_eqU r fs]
    exact q
  · obtain ⟨its, r, pl, hz⟩ := I.tuple hq
    refine SeqAt.notIn_tupleAt (eqU x) pl (fun w hw => mem_eqAt rx fx r fs w (by simpa using hw)) ⟨.bl _, H, I, rfl, ?_⟩
    rw [show its.toArray.any (eqU x) = its.any (eqU x) by simp, any_eqU r fs]
    exact q
theorem call_len_seq : CallR X (.builtin "len") (fun xs H Q => ∃ p ys, xs = [.ref p] ∧ (SqL X.K H p ys ∨ SqT X.K H p ys) ∧ Q (.int ys.length) H) := by
  intro pins s σ H xs us Q I r h
  obtain ⟨p, ys, rfl, hq, q⟩ := h
  obtain ⟨u, rfl, rx⟩ := vals1 r
  cases rx
  have hn := line63
  rcases hq with hq | hq
  · obtain ⟨its, r', pl, hz⟩ := I.list hq
    have hlen := r'.length
    exact Calls.call_len_list pl.isList (by simp only [List.size_toArray] <;> omega) ⟨.int ys.length, H, I.tok _, ⟨s.toks + 1, by rw [List.size_toArray, hlen]⟩, q⟩
  · obtain ⟨its, r', pl, hz⟩ := I.tuple hq
    have hlen := r'.length
    exact len_tuple pl (by simp only [List.size_toArray] <;> omega) ⟨.int ys.length, H, I.tok _, ⟨s.toks + 1, by rw [List.size_toArray, hlen]⟩, q⟩
theorem call_list_of : CallR X (.type "list") (fun xs H Q => ∃ p ys, xs = [.ref p] ∧ (SqL X.K H p ys ∨ SqT X.K H p ys) ∧ ∀ l, H l = none → Q (.ref l) (upd H l (.lst ys))) := by
  intro pins s σ H xs us Q I r h
  obtain ⟨p, ys, rfl, hq, q⟩ := h
  obtain ⟨u, rfl, rx⟩ := vals1 r
  cases rx
  have fin : ∀ (its : List Value), Vals ys its → ys.length ≤ sizeLine → ∀ (h' : Heap) (c' : Nat), (∀ b o', s.heap.get? b = some o' → h'.get? b = some o') →
      h'.get? s.heap.objs.size = some { cls := .type "list", dict := none, data := .seq its.toArray c', slots := #[] } → EP X pins σ Q (.ref s.heap.objs.size) { s with heap := h' } := fun its r' hz h' c' kp e =>
    ⟨.ref s.heap.objs.size, _, I.laid (t' := s.toks) kp (Nat.le_refl _) (show ObjOk X.prog X.w _ h' _ (.lst ys) from ⟨hz, its, c', r', e⟩), rfl, q _ (I.hok.fresh (Nat.le_refl _))⟩
  rcases hq with hq | hq
  · obtain ⟨its, r', pl, hz⟩ := I.list hq
    have hlen := r'.length
    obtain ⟨o, ho, hc, n, hd⟩ := pl.isList
    exact call_list_seq p (.inl rfl) ho hc hd (fun h' c' kp e => fin its r' hz h' c' kp e) (by simp only [List.size_toArray] <;> omega)
  · obtain ⟨its, r', pl, hz⟩ := I.tuple hq
    have hlen := r'.length
    obtain ⟨o, ho, hc, n, hd⟩ := pl
    exact call_list_seq p (.inr rfl) ho hc hd (fun h' c' kp e => fin its r' hz h' c' kp e) (by simp only [List.size_toArray] <;> omega)
def tyV (K : PySem.W.Frag) (T : String) (x : V) (H : Hp) : Prop := match x with
  | .str _ => T = "str"
  | .int _ => T = "int"
  | .ref p => (T = "list" ∧ ∃ xs, SqL K H p xs) ∨ (T = "tuple" ∧ ∃ o, K.lookup p = some o ∧ o.cls = .type "tuple" ∧ o.dict = none) ∨
      (T = "dict" ∧ ((∃ kvs, H p = some (.dK kvs)) ∨ ∃ kvs, H p = some (.dT kvs))) ∨ (T = "set" ∧ ∃ S n, H p = some (.set S n))
  | _ => False
theorem tyV_is {pins : List (Addr × Obj)} {σ : St} {H : Hp} {s : Shared} {T : String} {x : V} {v : Value} (I : Inv X pins σ H s) (r : RelV x v) (ty : tyV X.K T x H) :
    s.TypeIs v T ∧ ∀ a, v = .ref a → ∃ ob, s.heap.get? a = some ob ∧ ob.dict = none := by
  cases x with
  | str z =>
    obtain ⟨t, rfl⟩ := r
    cases (show T = "str" from ty)
    exact ⟨typeIs_str s z t, fun _ e => nomatch e⟩
  | int i =>
    obtain ⟨t, rfl⟩ := r
    cases (show T = "int" from ty)
    exact ⟨typeIs_int s i t, fun _ e => nomatch e⟩
  | ref p =>
    cases r
    rcases ty with ⟨rfl, xs, hq⟩ | ⟨rfl, o, hk, hc, hd⟩ | ⟨rfl, hk⟩ | ⟨rfl, S, n, hk⟩
    · obtain ⟨its, _, pl, _⟩ := I.list hq
      refine ⟨pl.isList.typeIs, fun a e => ?_⟩
      cases e
      obtain ⟨o, n, e, c, hd, _⟩ := pl
      exact ⟨o, e, hd⟩
    · refine ⟨⟨o, I.kIn p o hk, hc⟩, fun a e => ?_⟩
      cases e
      exact ⟨o, I.kIn _ o hk, hd⟩
    · have z : ∃ o, s.heap.get? p = some o ∧ o.ExactDict := by
        rcases hk with ⟨kvs, hk⟩ | ⟨kvs, hk⟩
        · obtain ⟨_, _, _, _, o, _, _, e, ex, _⟩ := I.hok p _ hk
          exact ⟨o, e, ex⟩
        · obtain ⟨_, _, _, _, o, _, _, e, ex, _⟩ := I.hok p _ hk
          exact ⟨o, e, ex⟩
      obtain ⟨o, e, ex⟩ := z
      refine ⟨⟨o, e, ex.1⟩, fun a e2 => ?_⟩
      cases e2
      exact ⟨o, e, ex.2.1⟩
    · obtain ⟨o, _, _, _, e, ex, _⟩ := I.hok p _ hk
      refine ⟨⟨o, e, ex.1⟩, fun a e2 => ?_⟩
      cases e2
      exact ⟨o, e, ex.2.1⟩
  | _ => exact False.elim ty
def tBM (K : PySem.W.Frag) (T : String) (r : V → List V → Hp → VK → Prop) (to : TE) (t : TA) : TE := fun σ H Q => to σ H fun x H1 => tyV K T x H1 ∧ t σ H1 fun xs H2 => r x xs H2 Q
variable {o e : Expr} {es : List Expr} {to : TE} {t : TA} {name : Str} {apos cpos : Pos} {T id : String} {r : V → List V → Hp → VK → Prop}
theorem pe_bm (pa : PlainAttrs T) (slot : Slot T name id) (hty : typeOf (.builtin id) = pure (.type "method_descriptor")) (hm : MtR X id r) (ho : PE X o to) (ha : PA X (e :: es) t)
    (hbase : attributeBase o name X.env (eval o X.env) = eval o X.env := by rfl)
    (hfew : ((backTo cpos (starEach (e :: es) X.env)).all (fun x => !x.1) && (backToKw cpos (keywordEach [] X.env)).all (fun x => x.1.isSome)
      && decide ((e :: es).length + ([] : List Keyword).length + (if ([] : List Keyword).isEmpty then 0 else 1) < 30)) = true := by rfl)
    (hline : (apos.endLine == cpos.line) = true := by rfl) (hs : starEach (e :: es) X.env = (false, eval e X.env) :: starEach es X.env := by rfl) (hplain : (backTo cpos (starEach es X.env)).any (·.1) = false := by rfl) :
    PE X (.Call (.Attribute o name apos) (e :: es) [] cpos) (tBM X.K T r to t) := by
  intro pins s σ H Q I h
  refine wpAny_Call_method_late hbase hfew hline rfl (thn (ho pins s σ H _ I h) fun v s1 ⟨x, H1, I1, r1, ty, q1⟩ => ?_)
  obtain ⟨h1, h2⟩ := tyV_is I1 r1 ty
  refine ⟨T, id, pa, slot, hty, h1, h2, ?_⟩
  have hA := ha cpos pins s1 σ H1 _ I1 q1
  rw [hs] at hA ⊢
  refine Calls.callWith_builtin (by show (false || (backTo cpos (starEach es X.env)).any (·.1)) = false; rw [hplain] <;> rfl) (Calls.evalArgs_plain ?_)
  exact thn hA fun us s2 ⟨vs, H2, I2, r2, q2⟩ => hm pins s2 σ H2 x vs v us Q I2 r1 r2 q2
end
end L2
namespace L2
open PySem PySem.Spec PyProof.Rows
def MtM (X : Cx) (id : String) (r : V → List V → Hp → VK → Prop) : Prop :=
  ∀ (pins : List (Addr × Obj)) (s : Shared) (σ : St) (H : Hp) (x : V) (xs : List V) (v : Value) (us : List Value) (Q : VK), Inv X pins σ H s → RelV x v → Vals xs us → r x xs H Q →
    wpAny (model X.prog X.w) X.A (call (.builtin id) (v :: us)) (EP X pins σ Q) X.xe s
theorem Vals.one : ∀ {x : V} {us : List Value}, Vals [x] us → ∃ u, us = [u] ∧ RelV x u
  | _, _, .cons r .nil => ⟨_, rfl, r⟩
theorem Vals.two : ∀ {x y : V} {us : List Value}, Vals [x, y] us → ∃ u v, us = [u, v] ∧ RelV x u ∧ RelV y v
  | _, _, _, .cons r (.cons q .nil) => ⟨_, _, rfl, r, q⟩
theorem Vals.zero : ∀ {us : List Value}, Vals [] us → us = []
  | _, .nil => rfl
theorem Vals.eraseIdx : ∀ {xs : List V} {us : List Value} (i : Nat), Vals xs us → Vals (xs.eraseIdx i) (us.eraseIdx i)
  | _, _, _, .nil => .nil
  | _, _, 0, .cons _ t => t
  | _, _, i + 1, .cons r t => .cons r (Vals.eraseIdx i t)
theorem Vals.reverse {xs : List V} {us : List Value} (h : Vals xs us) : Vals xs.reverse us.reverse := by
  induction h with
  | nil => exact .nil
  | cons r t ih => rw [List.reverse_cons, List.reverse_cons]; exact Vals.append ih (.cons r .nil)
theorem len_erase {α : Type} : ∀ (l : List α) (i : Nat), (l.eraseIdx i).length ≤ l.length
  | [], _ => Nat.le_refl _
  | _ :: _, 0 => Nat.le_succ _
  | _ :: r, i + 1 => Nat.succ_le_succ (len_erase r i)
section
variable {X : Cx} {pins : List (Addr × Obj)} {σ : St} {H : Hp} {s : Shared} {l b : Addr} {xs ys zs : List V}
theorem Inv.lset {its its' : List Value} {n : Nat} {f : Array Value → Array Value} {t' : Nat} (I : Inv X pins σ H s) (hH : H l = some (.lst xs))
    (e : s.heap.get? l = some { cls := .type "list", data := .seq its.toArray n }) (hf : f its.toArray = its'.toArray) (hv : Vals ys its') (hz : ys.length ≤ sizeLine) :
    Inv X pins σ (upd H l (.lst ys)) { s with heap := s.heap.update l (Obj.mapSeq f), toks := t' } := by
  have q := PySem.IsL.update e f
  rw [hf] at q
  refine I.write (x := l) (e := l) (by rw [hH]; exact trivial) (.inl rfl) (fun b' u hb hu => (Heap.get?_update_other s.heap (Obj.mapSeq f) (Ne.symm hb)).trans hu) ⟨_, q⟩ ?_
  exact ⟨hz, its', _, hv, q⟩
theorem Inv.lnew {its : List Value} {t' : Nat} (I : Inv X pins σ H s) (hv : Vals ys its) (hz : ys.length ≤ sizeLine) :
    Inv X pins σ (upd H s.heap.objs.size (.lst ys)) { s with heap := s.heap.push { cls := .type "list", data := .seq its.toArray }, toks := t' } :=
  I.laid (fun _ _ q => Heap.get?_push_of_some _ q) (Nat.le_refl _) ⟨hz, its, 0, hv, Heap.get?_push_size _ rfl⟩
theorem Inv.fresh (I : Inv X pins σ H s) : H s.heap.objs.size = none := I.hok.fresh (Nat.le_refl _)
theorem Inv.lstM (I : Inv X pins σ H s) (hH : H l = some (.lst xs)) : xs.length ≤ sizeLine ∧ ∃ (its : List Value) (n : Nat), Vals xs its ∧ xs.length = its.length ∧ s.heap.get? l = some { cls := .type "list", data := .seq its.toArray n } := by
  obtain ⟨z, its, n, r, e⟩ := I.hok l _ hH
  exact ⟨z, its, n, r, r.length, e⟩
end
section
variable {X : Cx}
def rAppend : V → List V → Hp → VK → Prop := fun x vs H Q => ∃ l xs y, x = .ref l ∧ vs = [y] ∧ H l = some (.lst xs) ∧ xs.length < sizeLine ∧ Q .non (upd H l (.lst (xs ++ [y])))
theorem mt_append : MtM X "list.append" rAppend := by
  intro pins s σ H x vs v us Q I rx rv h
  obtain ⟨l, xs, y, rfl, rfl, hH, hz, q⟩ := h
  cases rx
  obtain ⟨u, rfl, ru⟩ := rv.one
  obtain ⟨z, its, n, r, hl, e⟩ := I.lstM hH
  refine call_meets F.slot_list_append ⟨_, e, rfl⟩ F.entry_list_append (F.args_list_append_2 _ _) (PySem.list_append l its.toArray n u (by rw [List.size_toArray]; omega)) ⟨e, ?_⟩
  refine ⟨.non, _, I.lset (its' := its ++ [u]) hH e (by simp) (r.append (.cons ru .nil)) ?_, rfl, q⟩
  rw [List.length_append, List.length_singleton]
  omega
def rPopAt : V → List V → Hp → VK → Prop := fun x vs H Q => ∃ l xs i k y, x = .ref l ∧ vs = [.int i] ∧ H l = some (.lst xs) ∧ -(2 ^ 63) ≤ i ∧ i < 2 ^ 63 ∧ seqIndex? i xs.length = some k ∧ xs[k]? = some y ∧ Q y (upd H l (.lst (xs.eraseIdx k)))
theorem mt_popAt : MtM X "list.pop" rPopAt := by
  intro pins s σ H x vs v us Q I rx rv h
  obtain ⟨l, xs, i, k, y, rfl, rfl, hH, h1, h2, hk, hy, q⟩ := h
  cases rx
  obtain ⟨u, rfl, ru⟩ := rv.one
  obtain ⟨t, rfl⟩ := ru
  obtain ⟨z, its, n, r, hl, e⟩ := I.lstM hH
  obtain ⟨w, hw, rw'⟩ := r.get hy
  refine call_meets F.slot_list_pop ⟨_, e, rfl⟩ F.entry_list_pop (F.args_list_pop_2 _ _)
    (MeetsSeq.list_pop_at l its.toArray n i t k w (fitsIndex_both h1 h2) (by rw [List.size_toArray, ← hl]; exact hk) (by rw [← Array.getElem?_toList]; exact hw) (by rw [List.size_toArray]; omega)) ⟨e, ?_⟩
  refine ⟨y, _, I.lset (its' := its.eraseIdx k) hH e ?_ (r.eraseIdx k) ?_, rw', q⟩
  · show its.toArray.eraseIdxIfInBounds k = (its.eraseIdx k).toArray
    rw [List.eraseIdxIfInBounds_toArray]
  · have := len_erase xs k
    omega
end
section
variable {prog : Program} {w : World} {A : Around} {E : Value → Shared → Prop} {s : Shared}
end
section
variable {X : Cx}
end
end L2
namespace L2
open PySem PySem.Spec PyProof.Rows
section
variable {κ : Type} [DecidableEq κ]
def valV (kvs : List (κ × V)) (k : κ) : Option V := (kvs.find? fun kv => decide (kv.1 = k)).map (·.2)
def putK (kvs : List (κ × V)) (k : κ) (v : V) : List (κ × V) :=
  if (kvs.any fun kv => decide (kv.1 = k)) = true then kvs.map (fun kv => if kv.1 = k then (kv.1, v) else kv) else kvs ++ [(k, v)]
theorem RelO.getD {o : Option V} {u : Option Value} {d : V} {d' : Value} (r : RelO o u) (rd : RelV d d') : RelV (o.getD d) (u.getD d') := by
  cases o with
  | none => cases u with
    | none => exact rd
    | some _ => exact (show False from r).elim
  | some _ => cases u with
    | none => exact (show False from r).elim
    | some _ => exact r
end
abbrev KT (H : Hp) : List (List Key × V) → List (List Key × Addr × Value) → Prop := Paired fun p q => p.1 = q.1 ∧ H q.2.1 = some (.tup (p.1.map kV)) ∧ RelV p.2 q.2.2
theorem KT.keeps {H H' : Hp} {kvs : List (List Key × V)} {xs : List (List Key × Addr × Value)} (r : KT H kvs xs) (ht : ∀ b ys, H b = some (.tup ys) → H' b = some (.tup ys)) : KT H' kvs xs :=
  Paired.mapP r fun _ _ z => ⟨z.1, ht _ _ z.2.1, z.2.2⟩
section
variable {P : Program} {w : World} {H : Hp} {h : Heap} {a : Addr}
end
def DGet (H : Hp) (a : Addr) (y : V) (r : Option V) : Prop :=
  (∃ kvs k, Rd H a (.dK kvs) ∧ y = kV k ∧ r = valV kvs k) ∨ ∃ kvs k b, Rd H a (.dT kvs) ∧ y = .ref b ∧ H b = some (.tup (k.map kV)) ∧ r = valV kvs k
def DPut (H : Hp) (a : Addr) (y v : V) (H' : Hp) : Prop :=
  (∃ kvs k, H a = some (.dK kvs) ∧ y = kV k ∧ kvs.length < sizeLine ∧ H' = upd H a (.dK (putK kvs k v))) ∨
  ∃ kvs k b, H a = some (.dT kvs) ∧ y = .ref b ∧ H b = some (.tup (k.map kV)) ∧ kvs.length < sizeLine ∧ H' = upd H a (.dT (putK kvs k v))
theorem DGet.k {H : Hp} {a : Addr} {kvs : List (Key × V)} {k : Key} (e : H a = some (.dK kvs)) : DGet H a (kV k) (valV kvs k) := .inl ⟨kvs, k, .inl e, rfl, rfl⟩
theorem DGet.t {H : Hp} {a b : Addr} {kvs : List (List Key × V)} {k : List Key} (e : H a = some (.dT kvs)) (eb : H b = some (.tup (k.map kV))) : DGet H a (.ref b) (valV kvs k) := .inr ⟨kvs, k, b, .inl e, rfl, eb, rfl⟩
theorem DPut.k {H : Hp} {a : Addr} {kvs : List (Key × V)} {k : Key} {v : V} (e : H a = some (.dK kvs)) (hl : kvs.length < sizeLine) : DPut H a (kV k) v (upd H a (.dK (putK kvs k v))) := .inl ⟨kvs, k, e, rfl, hl, rfl⟩
theorem DPut.t {H : Hp} {a b : Addr} {kvs : List (List Key × V)} {k : List Key} {v : V} (e : H a = some (.dT kvs)) (eb : H b = some (.tup (k.map kV))) (hl : kvs.length < sizeLine) :
    DPut H a (.ref b) v (upd H a (.dT (putK kvs k v))) := .inr ⟨kvs, k, b, e, rfl, eb, hl, rfl⟩
section
variable {X : Cx} {pins : List (Addr × Obj)} {σ : St} {H : Hp} {s : Shared} {a : Addr} {y v : V} {u r : Value} {o : Option V} {A : Around} {E : Value → Shared → Prop}
end
section
variable {X : Cx} {pins : List (Addr × Obj)} {σ : St} {H : Hp} {s : Shared} {a : Addr} {kvs : List (Key × V)} {k : Key} {u : Value} {A : Around} {E : Value → Shared → Prop}
end
section
variable {X : Cx} {o i e value : Expr} {pos pos' tpos : Pos} {td ty tv : TE}
end
section
variable {X : Cx} {pos : Pos}
end
section
variable {X : Cx} {pins : List (Addr × Obj)} {σ : St} {H : Hp} {s : Shared} {a : Addr} {y d : V} {u r : Value} {o : Option V} {A : Around} {E : Value → Shared → Prop}
end
section
variable {X : Cx} {o e f : Expr} {apos cpos : Pos} {td ty tx : TE}
end
section
variable {X : Cx} {pins : List (Addr × Obj)} {σ : St} {H : Hp} {s : Shared} {a : Addr} {kvs : List (Key × V)} {A : Around} {E : Value → Shared → Prop}
end
section
variable {X : Cx} {pins : List (Addr × Obj)} {σ : St} {H : Hp} {s : Shared} {a : Addr} {y : V} {u : Value} {A : Around} {E : Value → Shared → Prop}
end
end L2
namespace Att
open PySem PySem.W PySem.Calls PyProof.Rows
theorem ints_of_wellAll {P : Params} {h : Heap} : ∀ (ns : List Int) (vs : List Value), WellAll P h vs (ns.map WData.int) → IntsAre vs ns := by
  intro ns
  induction ns with
  | nil =>
    intro vs w
    rw [List.map_nil] at w
    cases w
    exact .nil
  | cons n ns ih =>
    intro vs w
    rw [List.map_cons] at w
    cases w with
    | cons a b =>
      cases a
      exact .cons _ _ (ih _ b)
theorem script_of {l : OpenLaw} {n : Nat} (hn : l.most = some n) {P : Params} {h : Heap} {args : List WData} {vals : List Value}
    (hpre : l.row.toRowW.claim.pre args = true) (hwl : WellAll P h vals args) :
    ∃ a vs ns, vals = [Value.ref a] ∧ args = [WData.list (ns.map WData.int)] ∧ h.get? a = some { cls := .type "list", data := .seq vs.toArray } ∧ IntsAre vs ns ∧ ns.length ≤ n := by
  have hsh : WShape.hasAll [] args [.list .int] = true := (pre_splitW hpre).1
  have hc : l.pre.holds [] { args := args } = true := (pre_splitW hpre).2
  obtain ⟨d, r, rfl, h1, h2⟩ := hasAllW_cons hsh
  obtain rfl := hasAllW_nil h2
  obtain ⟨xs, rfl, h3⟩ := hasW_list h1
  obtain ⟨ns, rfl⟩ := items_int h3
  have hlen : ns.length ≤ n := by
    unfold OpenLaw.pre at hc
    have h4 : (WTm.not (.lt (.lit (.int (n : Int))) (.len (.arg 0)))).holds [] { args := [.list (ns.map .int)] } = true := by
      have h4 := (holds_andW hc).1
      rw [hn] at h4
      exact h4
    have h5 := condW_of h4 (w_not (w_lt w_lit (w_len_list (w_arg rfl))))
    rw [List.length_map] at h5
    refine Nat.le_of_not_lt fun q => ?_
    have q' : (n : Int) < ((ns.length : Nat) : Int) := by omega
    first
      | (rw [decide_eq_true q'] at h5; exact absurd h5 (by decide))
      | (simp at h5; omega)
  cases hwl with
  | cons w1 w2 =>
    cases w2
    cases w1 with
    | list ho hall => exact ⟨_, _, ns, rfl, rfl, ho, ints_of_wellAll ns _ hall, hlen⟩
theorem post_true (l : OpenLaw) (args : List WData) : l.row.toRowW.claim.post args (.bool true) args = true :=
  postW_of (r := l.row.toRowW) (X := (true == true))
    (show WShape.has [] (.bool true) .bool = true by first | rfl | decide | simp [WShape.has, WShape.arms, WShape.armsAll])
    (show (WTm.eq .res (.lit (.bool true))).value [] { args := args, res := some (.bool true), after := args } = some (.bool (true == true)) from w_eq_bool (w_res rfl) w_lit) rfl
theorem attach_call {l : OpenLaw} {n : Nat} {q : Program} {loose : List Str} {XP : (Str → Option Value) → Heap → Prop} {YP : World → Heap → Prop} {d : DefRec}
    (hn : l.most = some n) (hdf : d.params.defaults = [])
    (call : ∀ (w : World) (s₀ s₁ : Shared) (mg mb : Str → Option Value) (fa : Addr) (o : Obj) (pm cd doc : Value) (a : Addr) (vs : List Value) (ns : List Int),
      Ground q loose [] XP w s₀ mg mb s₁.heap → YP w s₁.heap →
      s₁.heap.get? fa = some o → o.data = .func (docDef d.name d.params d.body d.scope pm cd doc) → s₁.heap.CodeRec cd d.name → mg d.name = some (.ref fa) →
      s₁.heap.get? a = some { cls := .type "list", data := .seq vs.toArray } → IntsAre vs ns → ns.length ≤ n → s₁.gens = #[] →
      codeAny (model l.prog w) callerA (.call (.ref fa) ⟨[.ref a], []⟩) (fun r s' => r = .ok (.ret (.bool true)) ∧ OldK s₁.heap s'.heap ∧ s'.os = s₁.os ∧ AllBare s'.gens) s₁) :
    WalkO q loose XP YP l.row.toRowW d [] (fun f vs => PySem.call f vs) := by
  intro w s₀ s₁ mg mb G Y fa o pm cd doc dV kV ho hd hcd hD hmg hg args vals as hpre hlay hrd hwl hlo
  obtain rfl : dV = .none := Dflts.none hD hdf
  obtain rfl : kV = .none := Dflts.noKw hD
  obtain ⟨a, vs, ns, rfl, rfl, hobj, hints, hlen⟩ := script_of hn hpre hwl
  refine enter_call (codeAny_mono (call w s₀ s₁ mg mb fa o pm cd doc a vs ns G Y ho (fd_plain hd) hcd hmg hobj hints hlen hg) fun r s' hq => ?_)
  obtain ⟨rfl, h2, h3, h4⟩ := hq
  exact ⟨.inl ⟨.bool true, .bool true, [], rfl, fun _ => rfl, .bool true, post_true l _, fun _ => ⟨List.Pairwise.nil, fun _ hm => (nomatch hm)⟩⟩, h2, h3, h4⟩
section
variable {prog : Program} {w : World} {A : Around} {E : Value → Shared → Prop} {s : Shared} {K : Frag}
end
end Att
namespace L2
open PySem PySem.Spec PyProof.Rows
theorem vals_ints : ∀ {vs : List Value} {ns : List Int}, IntsAre vs ns → Vals (ns.map V.int) vs
  | _, _, .nil => .nil
  | _, _, .cons n t h => .cons ⟨t, rfl⟩ (vals_ints h)
def Only (H : Hp) : Prop := ∀ b, H b = none ∨ ∃ o xs, H b = some (.frz o (.lst xs))
theorem law_call {P : Program} {w : World} {K : PySem.W.Frag} {mg mb : Str → Option Value} {CX : CXT} {k : Nat} {fa a : Addr} {fd : FuncData} {x : Str} {sp : Sp} {s₁ : Shared} {vs : List Value} {ns : List Int}
    (KX : K.In s₁.heap) (hns : s₁.heap.Ns mainGlobals mg) (hb : s₁.heap.Ns builtinsNs mb) (hbb : ∀ x : Str, x ≠ "__name__" → mb x = bootBuiltins x) (hlim : s₁.heap.NoLimit) (hg : s₁.gens = #[])
    (ha : s₁.heap.get? a = some { cls := .type "list", data := .seq vs.toArray }) (hi : IntsAre vs ns) (hl : ns.length ≤ sizeLine) (hr : Room k callerA)
    (F : ∀ base : Heap, K.In base → base.Ns mainGlobals mg → FnOk P w K mg base CX k fa fd [x] sp) (hbind : ∀ (s : Shared) (u : Value), BindsTo s fd ⟨[u], []⟩ [(x, u)])
    (hsp : ∀ H : Hp, Only H → SqL K H a (ns.map V.int) → sp [.ref a] H (fun v _ => v = .bl true) fun _ _ _ => False)
    (hCX : ∀ H e s', CX [] H s₁ (fun _ _ _ => False) e s' → False) :
    codeAny (model P w) callerA (.call (.ref fa) ⟨[.ref a], []⟩) (fun r s' => r = .ok (.ret (.bool true)) ∧ OldK s₁.heap s'.heap ∧ s'.os = s₁.os ∧ AllBare s'.gens) s₁ := by
  have rv := vals_ints hi
  have lenV := hi.length
  have core : ∀ H : Hp, Only H → SqL K H a (ns.map V.int) → HOk P w H s₁.heap → (∀ b, H b ≠ none → b = a) → (H a ≠ none → K.lookup a = none) →
      codeAny (model P w) callerA (.call (.ref fa) ⟨[.ref a], []⟩) (fun r s' => r = .ok (.ret (.bool true)) ∧ OldK s₁.heap s'.heap ∧ s'.os = s₁.os ∧ AllBare s'.gens) s₁ := by
    intro H hO hS hok hA hK
    have base_of : ∀ {b : Addr} {o : Obj}, s₁.heap.get? b = some o → H b = none → (hidT s₁.heap H).get? b = some o := fun e n => hidT_get e n
    have noA : ∀ {b : Addr} {o : Obj} {es : Array DictEntry} {ep : Nat}, s₁.heap.get? b = some o → o.data = .dict es ep → H b = none := fun {b o es ep} e d => by
      cases q : H b with
      | none => rfl
      | some u =>
        have e' : b = a := hA b (by rw [q]; simp)
        subst e'
        rw [ha] at e; cases e
        have d' : Data.seq vs.toArray _ = Data.dict es ep := d
        cases d'
    have nsK : ∀ {b : Addr} {m : Str → Option Value}, s₁.heap.Ns b m → (hidT s₁.heap H).Ns b m := fun {b m} ⟨o, es, ep, e, d, r⟩ => ⟨o, es, ep, base_of e (noA e d), d, r⟩
    have hKb : K.In (hidT s₁.heap H) := fun b o e => base_of (KX b o e) (by
      cases q : H b with
      | none => rfl
      | some u =>
        have e' : b = a := hA b (by rw [q]; simp)
        subst e'
        rw [hK (by rw [q]; simp)] at e; cases e)
    have hM : Mod K mg (hidT s₁.heap H) := ⟨hKb, nsK hns, ⟨mb, nsK hb, hbb⟩, let ⟨mc, h1, h2⟩ := hlim; ⟨mc, nsK h1, h2⟩⟩
    have e0 : Env0 P w K mg (hidT s₁.heap H) callerA [] s₁ H := ⟨rfl, hM, fun b o e => of_hidT e, Nat.le_of_eq (hidT_size _ _), trivial, fun b hb => absurd (show b ∈ ([] : List Addr) from hb) (by simp), hok, .of_eq hg⟩
    refine codeAny_mono ((F _ hKb (nsK hns)).run callerA [] s₁ H ⟨[.ref a], []⟩ [.ref a] [.ref a] _ _ hr e0 (hbind s₁ (.ref a)) (.cons rfl .nil) (hsp H hO hS)) fun r s' h => ?_
    cases r with
    | error e => exact (hCX H e s' h).elim
    | ok fl =>
      cases fl with
      | next => exact False.elim h
      | brk => exact False.elim h
      | cont => exact False.elim h
      | ret u =>
        obtain ⟨v, H', os, bare, un, hok', r', q⟩ := h
        have q' : v = .bl true := q
        subst q'
        obtain rfl : u = Value.bool true := r'
        refine ⟨rfl, OldK.of_keep fun b o e => ?_, os, bare⟩
        cases q : H b with
        | none => exact un.keep b o e q (by intro z; exact absurd (show b ∈ ([] : List Addr) from z) (by simp)) (by simp)
        | some u =>
          rcases hO b with z | ⟨ob, xs, z⟩
          · rw [q] at z; cases z
          · have z2 := un.frzs b ob _ z
            obtain ⟨e1, _⟩ := hok b _ z
            obtain ⟨e2, _⟩ := hok' b _ z2
            rw [e] at e1; cases e1
            exact e2
  cases hk : K.lookup a with
  | some o =>
    have e := KX a o hk
    rw [ha] at e
    cases e
    refine core (fun _ => none) (fun _ => .inl rfl) (.inr ⟨_, vs.toArray, _, hk, rfl, rfl, rfl, by rw [List.size_toArray, lenV]; exact hl, by simpa using rv⟩) (fun b u z => by have z' : (none : Option HO) = some u := z; cases z') (fun b z => absurd rfl z) fun z => absurd rfl z
  | none =>
    refine core (fun b => if b = a then some (.frz { cls := .type "list", data := .seq vs.toArray } (.lst (ns.map V.int))) else none) (fun b => ?_) (.inl (.inr ⟨{ cls := .type "list", data := .seq vs.toArray }, if_pos rfl⟩)) (fun b u z => ?_) (fun b z => ?_) fun _ => hk
    · by_cases hb : b = a
      · exact .inr ⟨_, _, if_pos hb⟩
      · exact .inl (if_neg hb)
    · by_cases hb : b = a
      · have z' := (if_pos hb).symm.trans z
        cases z'
        subst hb
        exact ⟨ha, by rw [List.length_map]; exact hl, vs, _, rv, ha⟩
      · have z' := (if_neg hb).symm.trans z
        cases z'
    · by_cases hb : b = a
      · exact hb
      · exact absurd (if_neg hb) z
end L2
namespace L2
open PySem PySem.Spec PyProof.Rows
theorem walk_of {l : PySem.W.OpenLaw} {n k : Nat} {q : Program} {loose : List Str} {XP : (Str → Option Value) → Heap → Prop} {YP : World → Heap → Prop} {d : DefRec} {K : Params → PySem.W.Frag} {CX : World → CXT} {sp : World → Sp} {x : Str}
    (hn : l.most = some n) (hn2 : n ≤ sizeLine) (hdf : d.params.defaults = []) (hr : Room k callerA)
    (hY : ∀ (w : World) (h : Heap), YP w h → (K w.params).In h)
    (F : ∀ (w : World) (mg : Str → Option Value) (fa : Addr) (h : Heap), (K w.params).In h → h.Ns mainGlobals mg → mg d.name = some (.ref fa) →
      ∃ fd : FuncData, (∀ (s : Shared) (u : Value), BindsTo s fd ⟨[u], []⟩ [(x, u)]) ∧
        ∀ base : Heap, (K w.params).In base → base.Ns mainGlobals mg → FnOk l.prog w (K w.params) mg base (CX w) k fa fd [x] (sp w))
    (hsp : ∀ (w : World) (H : Hp) (a : Addr) (ns : List Int), ns.length ≤ n → Only H → SqL (K w.params) H a (ns.map V.int) → sp w [.ref a] H (fun v _ => v = .bl true) fun _ _ _ => False)
    (hCX : ∀ (w : World) (H : Hp) (s : Shared) (e : Value) (s' : Shared), CX w [] H s (fun _ _ _ => False) e s' → False) :
    PySem.W.WalkO q loose XP YP l.row.toRowW d [] (fun f vs => PySem.call f vs) := by
  refine Att.attach_call hn hdf fun w s₀ s₁ mg mb fa o pm cd doc a vs ns G Y ho hd hcd hmg hobj hints hlen hg => ?_
  have KX := hY w _ Y
  obtain ⟨fd, hb, hF⟩ := F w mg fa _ KX G.T.g hmg
  exact law_call KX G.T.g G.T.b G.T.builtins G.T.nolimit hg hobj hints (Nat.le_trans hlen hn2) hr hF hb (fun H hO hS => hsp w H a ns hlen hO hS) fun H e s' => hCX w H s₁ e s'
end L2
namespace L2
open PySem PySem.Spec PyProof.Rows
def defArgs (s : Stmt) : Arguments := match s with
  | .FunctionDef _ a _ _ _ _ _ _ _ _ => a
  | _ => { posonlyargs := [], args := [], vararg := none, kwonlyargs := [], kw_defaults := [], kwarg := none, defaults := [] }
def defBody (s : Stmt) : List Stmt := match s with
  | .FunctionDef _ _ b _ _ _ _ _ _ _ => b
  | _ => []
def defScope (s : Stmt) : Scope := match s with
  | .FunctionDef _ _ _ _ _ _ sc _ _ _ => sc
  | _ => { kind := .function, names := [], isGenerator := false, isCoroutine := false }
abbrev CX0 : CXT := fun _ _ _ _ _ _ => False
abbrev E0 : XK := fun _ _ _ => False
theorem pass0 {X : Cx} : Passes CX0 X E0 := fun _ _ _ _ _ _ _ h => h.elim
structure Fun (K : PySem.W.Frag) (x qual : Str) (st : Stmt) (f : Addr) (fd : FuncData) : Prop where
  ex : ∃ (oc : Value) (od : Option Addr) (kV doc pm : Value) (an : Option Addr) (cdv ct : Value) (osl : Array (Option Value)),
    fd = PySem.W.fnOf x qual (defArgs st) (defBody st) (defScope st) .none kV doc pm an cdv ct ∧ K.lookup f = some ⟨oc, od, .func fd, osl⟩ ∧ PySem.W.codeIn K cdv qual = true
  kp : PySem.W.keepIn K (.ref f) = true
section
variable {P : Program} {w : World} {K : PySem.W.Frag} {mg : Str → Option Value} {base : Heap}
theorem Fun.ok {x qual : Str} {st : Stmt} {f : Addr} {fd : FuncData} {N ps : List Str} {k : Nat} {sp : Sp} (F : Fun K x qual st f fd) (S : FnScope N ps (defScope st)) (len : ∀ vs H Q E, sp vs H Q E → vs.length = ps.length)
    (hbody : ∀ (cdv : Value) (A : Around) (outer : List Env) (s : Shared) (H : Hp) (vs : List V) (Q : VK) (E : XK), Room k (A.deeper (envOfC qual (defScope st) s.heap.objs.size f cdv)) → sp vs H Q E →
      ∃ t, PSs (cxOf CX0 P w K mg base N qual (defScope st) f cdv A outer s H E).nox (defBody st) t ∧ t { nx := fun _ H' => Q .non H', rt := Q } (start N vs) H) : FnOk P w K mg base CX0 (k + 1) f fd ps sp := by
  obtain ⟨oc, od, kV, doc, pm, an, cdv, ct, osl, rfl, lk, hcd⟩ := F.ex
  refine fn_of lk hcd S len fun A outer s H vs Q E hr hsp => ?_
  obtain ⟨t, h, q⟩ := hbody cdv A outer s H vs Q E hr hsp
  exact ⟨t, h.nox, q⟩
theorem Fun.binds {x qual : Str} {st : Stmt} {f : Addr} {fd : FuncData} {ps : List Str} (F : Fun K x qual st f fd)
    (h : ∀ (kV doc pm : Value) (an : Option Addr) (cdv ct : Value) (us : List Value), us.length = ps.length → bindArgs (PySem.W.fnOf x qual (defArgs st) (defBody st) (defScope st) .none kV doc pm an cdv ct) ⟨us, []⟩ = pure (ps.zip us)) : Binds K fd ps [] := by
  obtain ⟨oc, od, kV, doc, pm, an, cdv, ct, osl, rfl, lk, hcd⟩ := F.ex
  exact .all (h kV doc pm an cdv ct)
theorem fun_mk {x qual : Str} {st : Stmt} {f : Addr} {oc : Value} {od an : Option Addr} {osl : Array (Option Value)} {kV doc pm cdv ct : Value} (l : K.lookup f = some ⟨oc, od, .func (PySem.W.fnOf x qual (defArgs st) (defBody st) (defScope st) .none kV doc pm an cdv ct), osl⟩)
    (c : PySem.W.codeIn K cdv qual = true) (k : PySem.W.keepIn K (.ref f) = true) : Fun K x qual st f (PySem.W.fnOf x qual (defArgs st) (defBody st) (defScope st) .none kV doc pm an cdv ct) := ⟨⟨oc, od, kV, doc, pm, an, cdv, ct, osl, rfl, l, c⟩, k⟩
end
theorem small1000 {n : Nat} (h : n ≤ 1000) : n < sizeLine := Nat.lt_of_le_of_lt h (by decide)
section
variable {X : Cx}
theorem pv (i : Nat) {x : Str} {pos : Pos} (hN : X.N[i]? = some x := by rfl) (hv : Vis X.env.scope x := by first | exact Or.inl rfl | exact Or.inr (Or.inl rfl) | exact Or.inr (Or.inr rfl)) (hd : (x == ("__debug__" : Str)) = false := by decide)
    (hcd : (x == ("__classdict__" : Str)) = false := by decide) : PE X (.Name x pos) (tVar i) := pe_var hN hv hd hcd
end
theorem iteF {A B : Prop} (h : B) : if false = true then A else B := by
  rw [if_neg Bool.false_ne_true]
  exact h
theorem iteT {A B : Prop} (h : A) : if true = true then A else B := by
  rw [if_pos rfl]
  exact h
theorem ite2 {c A B : Prop} [Decidable c] (h1 : c → A) (h2 : ¬ c → B) : if c then A else B := by
  by_cases h : c
  · rw [if_pos h]
    exact h1 h
  · rw [if_neg h]
    exact h2 h
theorem iteNS {c A B : Prop} [Decidable c] (hc : c) (h : B) : if (!decide c) = true then A else B := by
  rw [decide_eq_true hc]
  exact iteF h
def Same (H H' : Hp) : Prop := ∀ b o, H b = some o → H' b = some o
theorem Same.trans {H H1 H2 : Hp} (a : Same H H1) (b : Same H1 H2) : Same H H2 := fun c o h => b c o (a c o h)
theorem Same.free {H H' : Hp} (e : Same H H') {l : Addr} (h : H' l = Option.none) : H l = Option.none := by
  cases q : H l with
  | none => rfl
  | some o =>
    rw [e l o q] at h
    cases h
theorem Same.seq {K : PySem.W.Frag} {H H' : Hp} {a : Addr} {xs : List V} (e : Same H H') (h : SqL K H a xs) : SqL K H' a xs := by
  rcases h with (h | ⟨o, h⟩) | h
  · exact .inl (.inl (e _ _ h))
  · exact .inl (.inr ⟨o, e _ _ h⟩)
  · exact .inr h
section
variable {κ : Type} [DecidableEq κ]
end
end L2
set_option Elab.async false
set_option linter.all false
set_option maxRecDepth 100000
namespace L2
open PySem PySem.Spec PyProof.Rows
theorem compLoop_gen {prog : Program} {w : World} {A : Around} {s : Shared} {elt target iter : Expr} {ifs : List Expr} {scope : Scope} {pos : Pos} {it acc : Value} {env : Env} {R : Result → Shared → Prop} (I : Nat → Shared → Prop)
    (turn : ∀ n s, I n s → wpAny (model prog w) A (pyNext it) (fun r s1 => match r with
      | none => R (.ok .next) s1
      | some v => wpAny (model prog w) A (letOwnedTupleGo target it v) (fun _ s1' => wpAny (model prog w) A (assign target env v) (fun _ s2 =>
          wpAny (model prog w) A (forIn ifs true fun c r => if r = true then do let ok ← isTrue c env (eval c env); pure (ForInStep.yield ok) else pure (ForInStep.yield r)) (fun ok s3 =>
            if ok = true then wpAny (model prog w) A (eval elt env) (fun x s4 =>
              wpAny (model prog w) A (call (.builtin "list.append") [acc, x]) (fun _ s5 => ∃ m, m < n ∧ I m s5) (fun _ _ => False) s4) (fun _ _ => False) s3
            else ∃ m, m < n ∧ I m s3) (fun _ _ => False) s2) (fun _ _ => False) s1') (fun _ _ => False) s1) (fun _ _ => False) s)
    (n : Nat) (h : I n s) : codeAny (model prog w) A (.compLoop (.ListComp elt [⟨target, iter, ifs, 0⟩] scope pos) 0 it acc env) R s := by
  have no : ∀ (x : Value) (s' : Shared), False → notedBy (model prog w) A env (fun e s' => R (.error e) s') x s' := fun _ _ z => z.elim
  refine codeAny_loop rfl I (fun n s hI => ?_) n h
  show wpAny _ A ((compTurn (.ListComp elt [⟨target, iter, ifs, 0⟩] scope pos) 0 it acc env).onRaise (fun x => do noteFrame x env; theTreesLotGoes x)) _ _ s
  refine wpAny_noted ?_
  rw [compTurn_list]
  refine wpAny_bind (wpAny_standAt (wpAny_bind (wpAny_mono (turn n s hI) (fun r s1 h1 => ?_) no)))
  cases r with
  | none => exact wpAny_pure h1
  | some v =>
    refine wpAny_bind (wpAny_mono h1 (fun _ s1' h1' => ?_) no)
    refine wpAny_bind (wpAny_mono h1' (fun _ s2 h2 => wpAny_bind (wpAny_mono h2 (fun ok s3 h3 => ?_) no)) no)
    cases ok with
    | false => exact wpAny_pure ⟨rfl, h3⟩
    | true =>
      exact wpAny_bind (wpAny_bind (wpAny_mono h3 (fun x s4 h4 => wpAny_bind (wpAny_mono h4 (fun _ s5 h5 => wpAny_pure (wpAny_pure ⟨rfl, h5⟩)) no)) no))
theorem ff_eq : (NameKind.free == NameKind.free) = true := rfl
def clOf (cells : List (Str × Addr)) : List (Str × NameKind) → List (Str × Addr) → List (Str × Addr)
  | [], acc => acc
  | (n, k) :: r, acc => if k == .free then clOf cells r ((n, (cells.lookup n).getD 0) :: acc) else clOf cells r acc
theorem forIn_cl {env : Env} : ∀ (names : List (Str × NameKind)) (acc : List (Str × Addr)), (∀ x ∈ names, x.2 = .free → (env.cells.lookup x.1).isSome = true) →
    (forIn names acc fun x (cs : List (Str × Addr)) => (match x with | (name, kind) => if (kind == NameKind.free) = true then do let c ← cellOf env name; pure (ForInStep.yield ((name, c) :: cs)) else pure (ForInStep.yield cs) : Sem (ForInStep (List (Str × Addr))))) = (pure (clOf env.cells names acc) : Sem (List (Str × Addr)))
  | [], acc, _ => by simp only [List.forIn_nil]; rfl
  | (n, k) :: r, acc, h => by
    have ih := fun a => forIn_cl (env := env) r a fun x hx => h x (List.mem_cons_of_mem _ hx)
    rw [List.forIn_cons]
    by_cases hk : k = .free
    · subst hk
      have q := h (n, .free) List.mem_cons_self rfl
      obtain ⟨c, hc⟩ := Option.isSome_iff_exists.mp q
      have e : cellOf env n = pure c := by unfold cellOf; rw [show env.cells.lookup n = some c from hc]
      simp only [beq_self_eq_true, if_true, e, pure_bind]
      rw [ih]
      show _ = pure (if (NameKind.free == NameKind.free) = true then clOf env.cells r ((n, (env.cells.lookup n).getD 0) :: acc) else _)
      rw [if_pos ff_eq, show env.cells.lookup n = some c from hc]
      rfl
    · have hb : (k == NameKind.free) = false := by simpa using hk
      simp only [hb, Bool.false_eq_true, if_false, pure_bind]
      rw [ih]
      show _ = pure (if (k == NameKind.free) = true then _ else clOf env.cells r acc)
      rw [hb]
      rfl
theorem closure_cl {scope : Scope} {env : Env} (h : ∀ x ∈ scope.names, x.2 = .free → (env.cells.lookup x.1).isSome = true) : closureFor scope env = pure (clOf env.cells scope.names []) := by
  unfold closureFor
  have e := forIn_cl (env := env) scope.names [] h
  simp only [bind_pure] at *
  exact e
theorem cl_sub {cells : List (Str × Addr)} : ∀ (names : List (Str × NameKind)) (acc : List (Str × Addr)), (∀ x ∈ names, x.2 = .free → (cells.lookup x.1).isSome = true) → (∀ x c, acc.lookup x = some c → cells.lookup x = some c) →
    ∀ x c, (clOf cells names acc).lookup x = some c → cells.lookup x = some c
  | [], acc, _, ha => ha
  | (n, k) :: r, acc, h, ha => by
    unfold clOf
    by_cases hk : k = .free
    · subst hk
      rw [if_pos ff_eq]
      refine cl_sub r _ (fun x hx => h x (List.mem_cons_of_mem _ hx)) fun x c e => ?_
      by_cases hx : x = n
      · subst hx
        rw [List.lookup_cons_self] at e
        obtain ⟨d, hd⟩ := Option.isSome_iff_exists.mp (h (x, .free) List.mem_cons_self rfl)
        have hd' : cells.lookup x = some d := hd
        rw [hd'] at e ⊢
        exact e
      · rw [List.lookup_cons, beq_eq_false_iff_ne.mpr hx] at e
        exact ha x c e
    · rw [if_neg (by simpa using hk)]
      exact cl_sub r _ (fun x hx => h x (List.mem_cons_of_mem _ hx)) ha
theorem cl_mono {cells : List (Str × Addr)} : ∀ (names : List (Str × NameKind)) (acc : List (Str × Addr)) (x : Str), (acc.lookup x).isSome = true → ((clOf cells names acc).lookup x).isSome = true
  | [], acc, _, ha => ha
  | (n, k) :: r, acc, x, ha => by
    unfold clOf
    split
    · refine cl_mono r _ x ?_
      rw [List.lookup_cons]
      split
      · rfl
      · exact ha
    · exact cl_mono r _ x ha
theorem cl_has {cells : List (Str × Addr)} : ∀ (names : List (Str × NameKind)) (acc : List (Str × Addr)) (x : Str), (x, NameKind.free) ∈ names → ((clOf cells names acc).lookup x).isSome = true
  | [], _, _, h => by simp at h
  | (n, k) :: r, acc, x, h => by
    unfold clOf
    rcases List.mem_cons.mp h with e | h
    · obtain ⟨e1, e2⟩ := Prod.mk.inj e
      subst e1 e2
      rw [if_pos ff_eq]
      refine cl_mono r _ _ ?_
      rw [List.lookup_cons_self]
      rfl
    · split
      · exact cl_has r _ x h
      · exact cl_has r _ x h
theorem lookup_relabel {env : Env} : ∀ {names : List (Str × NameKind)} {x : Str} {k : NameKind},
    (names.map fun (n, k) => if (k == NameKind.free && env.scope.kind == .function && env.kindOf n == some .cell) then (n, NameKind.cell) else (n, k)).lookup x = some k →
      names.lookup x = some k ∨ (k = .cell ∧ names.lookup x = some .free)
  | [], _, _, h => by simp at h
  | (n, k') :: r, x, k, h => by
    rw [List.map_cons] at h
    by_cases hx : x = n
    · subst hx
      rw [List.lookup_cons_self]
      by_cases hc : (k' == NameKind.free && env.scope.kind == .function && env.kindOf x == some .cell) = true
      · simp only [hc, if_true] at h
        rw [List.lookup_cons_self] at h
        have hk : k' = .free := by
          simp only [Bool.and_eq_true, beq_iff_eq] at hc
          exact hc.1.1
        exact .inr ⟨(Option.some.inj h).symm, by rw [hk]⟩
      · simp only [hc] at h
        rw [if_neg (by simp), List.lookup_cons_self] at h
        exact .inl h
    · have e : (x == n) = false := beq_eq_false_iff_ne.mpr hx
      have h' : (r.map fun (n, k) => if (k == NameKind.free && env.scope.kind == .function && env.kindOf n == some .cell) then (n, NameKind.cell) else (n, k)).lookup x = some k := by
        by_cases hc : (k' == NameKind.free && env.scope.kind == .function && env.kindOf n == some .cell) = true
        · simp only [hc, if_true] at h
          rw [List.lookup_cons, e] at h
          exact h
        · simp only [hc] at h
          rw [if_neg (by simp), List.lookup_cons, e] at h
          exact h
      have ih := @lookup_relabel env r x k h'
      rw [List.lookup_cons, e]
      exact ih
theorem relabel_free {env : Env} : ∀ {names : List (Str × NameKind)} {x : Str}, names.lookup x = some .free →
    (names.map fun (n, k) => if (k == NameKind.free && env.scope.kind == .function && env.kindOf n == some .cell) then (n, NameKind.cell) else (n, k)).lookup x = some .cell ∨
    (names.map fun (n, k) => if (k == NameKind.free && env.scope.kind == .function && env.kindOf n == some .cell) then (n, NameKind.cell) else (n, k)).lookup x = some .free
  | [], _, h => by simp at h
  | (n, k') :: r, x, h => by
    rw [List.map_cons]
    by_cases hx : x = n
    · subst hx
      rw [List.lookup_cons_self] at h
      cases h
      by_cases hc : (NameKind.free == NameKind.free && env.scope.kind == .function && env.kindOf x == some .cell) = true
      · simp only [hc, if_true]
        exact .inl List.lookup_cons_self
      · simp only [hc]
        rw [if_neg (by simp)]
        exact .inr List.lookup_cons_self
    · have e : (x == n) = false := beq_eq_false_iff_ne.mpr hx
      rw [List.lookup_cons, e] at h
      have ih := @relabel_free env r x h
      by_cases hc : (k' == NameKind.free && env.scope.kind == .function && env.kindOf n == some .cell) = true
      · simp only [hc, if_true]
        rw [List.lookup_cons, e]
        exact ih
      · simp only [hc]
        rw [if_neg (by simp), List.lookup_cons, e]
        exact ih
def blk (X : Cx) (scope : Scope) (own : List Str) (fr : List Nat) (s : Shared) (H : Hp) (ex : List Addr) : Cx where
  prog := X.prog
  w := X.w
  K := X.K
  mg := X.mg
  base := X.base
  A := X.A
  N := own ++ fr.map fun j => X.N.getD j (Str.ofString "")
  s₀ := s
  H₀ := H
  env := compEnvC scope (clOf X.env.cells scope.names []) s.heap.objs.size X.env
  outer := X.stack
  stack := X.stack
  ex := ex
  fn := fun _ => false
  calm := X.calm
  pn := []
  xe := fun _ _ => False
def blkS (own : List Str) (fr : List Nat) (σ : St) : St := own.map (fun _ => none) ++ fr.map fun j => (σ[j]?).join
structure CompOk (X : Cx) (scope : Scope) (fr : List Nat) : Prop where
  kind : scope.kind = .function
  nocell : ∀ y ∈ scope.names, y.2 ≠ .cell
  loc : ∀ y ∈ scope.names, y.2 = .local → scope.names.lookup y.1 = some .local
  frees : ∀ y ∈ scope.names, y.2 = .free → X.env.scope.names.lookup y.1 = some .cell ∨ X.env.scope.names.lookup y.1 = some .free
  fr : ∀ j ∈ fr, scope.names.lookup (X.N.getD j (Str.ofString "")) = some .free
theorem inv_blk {X : Cx} {scope : Scope} {own : List Str} {fr : List Nat} {pins : List (Addr × Obj)} {σ : St} {H : Hp} {s : Shared} {ex : List Addr} {h1 : Heap} {t1 : Nat} (I : Inv X pins σ H s) (O : CompOk X scope fr)
    (hex : ∀ b ∈ ex, FpOk X pins H b ∧ b < s.heap.objs.size) (hns : h1.Ns s.heap.objs.size fun _ => none) (hk : ∀ b o, s.heap.get? b = some o → h1.get? b = some o) :
    Inv (blk X scope own fr s H ex) [] (blkS own fr σ) H { s with heap := h1, toks := t1 } := by
  have hsome : ∀ x ∈ scope.names, x.2 = .free → (X.env.cells.lookup x.1).isSome = true := fun x hx e => by
    obtain ⟨c, hc⟩ := I.ok.has x.1 (O.frees x hx e)
    rw [hc]; rfl
  have sub : ∀ x c, (clOf X.env.cells scope.names []).lookup x = some c → X.env.cells.lookup x = some c := cl_sub scope.names [] hsome fun x c e => by simp at e
  have hasc : ∀ x, scope.names.lookup x = some .free → ∃ c, (clOf X.env.cells scope.names []).lookup x = some c := fun x e => Option.isSome_iff_exists.mp (cl_has scope.names [] x (PySem.mem_of_lookup e))
  have hcne : ∀ x c, X.env.cells.lookup x = some c → c < s.heap.objs.size := fun x c e => by
    obtain ⟨v, q⟩ := I.cell x c e
    exact q.lt
  have hN : σ.length = X.N.length := I.len
  refine ⟨⟨I.ok.mod, O.kind, I.ok.glob, I.ok.blt, Nat.le_refl _, fun x y c e1 e2 => I.ok.inj x y c (sub x c e1) (sub y c e2), fun x hx => ?_, fun x c z => absurd z (by simp [blk]), I.ok.hd, I.ok.frames, .inl rfl, fun b hb => ⟨Nat.ne_of_lt (hex b hb).2, fun x c e => (hex b hb).1.2.2.2.2.1 x c (sub x c e)⟩,
    fun b o e => I.bs b o e, Nat.le_trans I.ok.bsz I.sz, fun b o e hb => ?_, fun b hb z => ?_, I.stack, I.stkFree⟩,
    rfl, I.bare, Un.kept hk, ⟨_, hns, fun i x v e1 e2 e3 => ?_⟩, fun x c e => ?_, I.fresh, fun x c e => I.freeC x c (sub x c e), fun p hp => absurd hp (by simp [blk]), I.hok.kept hk, ?_⟩
  · have hx' : (relabel scope X.env).names.lookup x = some .cell ∨ (relabel scope X.env).names.lookup x = some .free := hx
    rcases hx' with hx | hx
    · rcases lookup_relabel hx with q | ⟨_, q⟩
      · exact absurd rfl (O.nocell _ (PySem.mem_of_lookup q))
      · exact hasc x q
    · rcases lookup_relabel hx with q | ⟨q, _⟩
      · exact hasc x q
      · cases q
  · rcases (hex b hb).1.2.2.2.1 with z | z
    · exact I.ok.noex b o e z
    · exact absurd (Nat.lt_of_lt_of_le (Heap.lt_size e) (Nat.le_trans I.ok.bsz z)) (Nat.lt_irrefl _)
  · obtain ⟨_, f1, f2, _⟩ := (hex b hb).1
    rcases List.mem_cons.mp (I.stkSub b z) with q | q
    · exact f1 q
    · exact f2 q
  · have e1' : (own ++ fr.map fun j => X.N.getD j (Str.ofString ""))[i]? = some x := e1
    unfold blkS at e2
    have hi : own.length ≤ i := by
      by_cases h : own.length ≤ i
      · exact h
      · rw [List.getElem?_append_left (by simpa using Nat.lt_of_not_le h), List.getElem?_map] at e2
        cases q : own[i]? with
        | none => rw [q] at e2; cases e2
        | some z => rw [q] at e2; cases e2
    rw [List.getElem?_append_right hi, List.getElem?_map] at e1'
    rw [List.getElem?_append_right (by simpa using hi), List.getElem?_map, List.length_map] at e2
    cases q : fr[i - own.length]? with
    | none => rw [q] at e2; cases e2
    | some j =>
      rw [q] at e1' e2
      have e1'' : X.N.getD j (Str.ofString "") = x := Option.some.inj e1'
      have e2' : (σ[j]?).join = some v := Option.some.inj e2
      have e2'' : σ[j]? = some (some v) := by
        cases z : σ[j]? with
        | none => rw [z] at e2'; cases e2'
        | some y => rw [z] at e2'; rw [← e2']; rfl
      have hj : j < X.N.length := by rw [← hN]; exact (List.getElem?_eq_some_iff.mp e2'').1
      have e3' : X.N[j]? = some x := by
        rw [List.getElem?_eq_getElem hj, ← e1'', List.getD_eq_getElem?_getD, List.getElem?_eq_getElem hj]
        rfl
      have hf := O.fr j (List.mem_of_getElem? q)
      rw [e1''] at hf
      have hv := O.frees _ (PySem.mem_of_lookup hf) rfl
      obtain ⟨m, _, hl⟩ := I.loc
      obtain ⟨u, ru, lk⟩ := hl j x v e3' e2'' (.inr hv)
      refine ⟨u, ru, .inr ⟨?_, ?_⟩⟩
      · exact relabel_free hf
      · obtain ⟨c, hc⟩ := hasc x hf
        refine ⟨c, hc, ?_⟩
        rcases lk with ⟨k, _⟩ | ⟨_, c', hc', z⟩
        · have k' : X.env.scope.names.lookup x = some .local := k
          rcases hv with hv | hv <;> · rw [k'] at hv; cases hv
        · have := sub x c hc
          rw [hc'] at this
          cases this
          obtain ⟨o, ho, hd⟩ := z
          exact ⟨o, hk _ _ ho, hd⟩
  · obtain ⟨v, o, ho, hd⟩ := I.cell x c (sub x c e)
    exact ⟨v, o, hk _ _ ho, hd⟩
  · show (blkS own fr σ).length = (own ++ fr.map fun j => X.N.getD j (Str.ofString "")).length
    unfold blkS
    rw [List.length_append, List.length_append, List.length_map, List.length_map, List.length_map]
theorem blk_back {X : Cx} {scope : Scope} {own : List Str} {fr : List Nat} {pins : List (Addr × Obj)} {σ σ' : St} {H H' : Hp} {s s' : Shared} {ex : List Addr} (I : Inv X pins σ H s) (hex : ∀ b ∈ ex, FpOk X pins H b ∧ b < s.heap.objs.size)
    (J : Inv (blk X scope own fr s H ex) [] σ' H' s') {h' : Heap} (hs : Heap.SameBut s.heap.objs.size s'.heap h') : Inv X pins σ H' { s' with heap := h' } := by
  have hC : H' s.heap.objs.size = none := J.free
  have u : Un (frs X.stack) ex H H' s.heap s'.heap := J.base
  have ne : ∀ b o, s.heap.get? b = some o → b ≠ s.heap.objs.size := fun b o e => Nat.ne_of_lt (Heap.lt_size e)
  have at' : ∀ b o, b ≠ s.heap.objs.size → s'.heap.get? b = some o → h'.get? b = some o := fun b o hb e => (hs.2 b hb).trans e
  refine I.call' (ch := ex) J.os ⟨fun b o e n hb hx => ?_, fun b o e n hb hx => ?_, u.free, fun b o e hx => ?_, u.tups, u.frzs, u.tbls⟩ (fun b o e => ?_) J.bare fun b hb => ?_
  · exact at' b o (ne b o e) (u.keep b o e n hb hx)
  · obtain ⟨sl, q⟩ := u.slot b o e n hb hx
    exact ⟨sl, at' b _ (ne b o e) q⟩
  · obtain ⟨o', q⟩ := u.there b o e hx
    exact ⟨o', at' b _ (ne b o e) q⟩
  · refine (J.hok b o e).stay (fun c v hc q => at' c v ?_ q) (fun _ q => q) fun _ _ q => q
    rintro z
    rcases hc with y | y
    · rw [y] at z; rw [z, hC] at e; cases e
    · rw [z, hC] at y; cases y
  · obtain ⟨f0, f1, f2, f3, f4, f5⟩ := (hex b hb).1
    exact ⟨f3, f1, f4, f5⟩
def PTs (X : Cx) (ifs : List Expr) (t : TT) : Prop :=
  ∀ (pins : List (Addr × Obj)) (s : Shared) (σ : St) (H : Hp) (Q : Bool → Hp → Prop), Inv X pins σ H s → t σ H Q →
    wpAny (model X.prog X.w) X.A (forIn ifs true fun c r => if r = true then do let ok ← isTrue c X.env (eval c X.env); pure (ForInStep.yield ok) else pure (ForInStep.yield r)) (TP X pins σ Q) X.xe s
def tYes : TT := fun _ H Q => Q true H
theorem pts_nil {X : Cx} : PTs X [] tYes := fun _ _ _ H _ I h => wpAny_tests_nil ⟨H, I, h⟩
theorem pts_one {X : Cx} {c : Expr} {t : TT} (h : PT X c t) : PTs X [c] t := fun pins s σ H Q I q => wpAny_tests_one (h pins s σ H Q I q)
def CompGo (J : It) (p : Addr) (g : TG) (tt : TT) (te : TE) (Q : VK) (σ : St) (H : Hp) : Prop := ∃ W : Nat → Nat → St → Hp → Prop, (∃ m, W 0 m σ H) ∧
  ∀ i m σ' H', W i m σ' H' → (J.stop i H' ∧ Q (.ref p) H') ∨ (J.go i H' ∧ ∃ N : St → Hp → Prop, (∀ σ3 H3, N σ3 H3 → ∃ m', m' < m ∧ W (i + 1) m' σ3 H3) ∧ ∀ x H2, J.yld i H' x H2 → g x σ' H2 fun σ3 H3 => tt σ3 H3 fun c H4 =>
    if c = true then te σ3 H4 fun y H5 => ∃ ys, H5 p = some (.lst ys) ∧ ys.length < sizeLine ∧ N σ3 (upd H5 p (.lst (ys ++ [y]))) else N σ3 H4)
def tComp (own : List Str) (fr : List Nat) (wi : TI) (g : TG) (tt : TT) (te : TE) : TE := fun σ H Q => wi σ H fun J H1 => ∀ p, H1 p = none → CompGo J p g tt te Q (blkS own fr σ) (upd H1 p (.lst []))
theorem comp_run {X : Cx} {scope : Scope} {own : List Str} {fr : List Nat} {elt tg iter : Expr} {ifs : List Expr} {pos : Pos} {wi : TI} {g : TG} {tt : TT} {te : TE} {use : Option (Value → Sem Unit)} (hc : X.calm = true) (O : CompOk X scope fr) (hi : PI X tg iter wi)
    (hb : ∀ s H ex, PG (blk X scope own fr s H ex) tg g ∧ PTs (blk X scope own fr s H ex) ifs tt ∧ PE (blk X scope own fr s H ex) elt te)
    (hs : ∀ x, foldedSetIterable iter X.env x = pure x) {pins : List (Addr × Obj)} {s : Shared} {σ : St} {H : Hp} {Q : VK} {R : Value → Shared → Prop} (I : Inv X pins σ H s) (h : tComp own fr wi g tt te σ H Q) (hx : ∀ e s', X.xe e s' ↔ False)
    (fin : ∀ (p C : Addr) (H' : Hp) (s' : Shared) (m : Str → Option Value), s'.heap.Ns C m → H' C = none → C ≠ X.env.locals → (∀ x c, X.env.cells.lookup x = some c → c ≠ C) → Inv X pins σ H' s' → (∀ h', Heap.SameBut C s'.heap h' → Inv X pins σ H' { s' with heap := h' }) → Q (.ref p) H' →
      compPost (model X.prog X.w) X.A X.xe use R (.ref p) C (.ok .next) s') :
    wpAny (model X.prog X.w) X.A (comprehension (.ListComp elt [⟨tg, iter, ifs, 0⟩] scope pos) scope X.env (firstIterPos [⟨tg, iter, ifs, 0⟩] pos) (newList []) false (eval iter X.env) use) R X.xe s := by
  have hsome : ∀ x ∈ scope.names, x.2 = .free → (X.env.cells.lookup x.1).isSome = true := fun x hx' e => by
    obtain ⟨c, hc⟩ := I.ok.has x.1 (O.frees x hx' e)
    rw [hc]; rfl
  have no : ∀ (E : Value → Shared → Prop) (x : Value) (s' : Shared), X.xe x s' → E x s' := fun E x s' z => ((hx x s').mp z).elim
  refine wpAny_comprehension_free (cl := clOf X.env.cells scope.names []) rfl hs (closure_cl hsome) O.kind O.loc ?_
  refine thn (hi pins s σ H _ I h) fun v s1 h1 => thn h1 fun itv s2 h2 => ?_
  obtain ⟨it, fp, tn, J, H2, e, I2, T, st2, f2, q2⟩ := h2
  subst e
  refine wpAny_newObj_type ?_
  have nw : H2 s2.heap.objs.size = none := I2.fresh
  obtain ⟨W, ⟨m0, w0⟩, turn⟩ := q2 _ nw
  generalize hp : s2.heap.objs.size = p at *
  have I3 : Inv X pins σ (upd H2 p (.lst [])) { s2 with heap := s2.heap.push { cls := .type "list", dict := none, data := .seq ([] : List Value).toArray } } := by
    have := I2.lnew (ys := []) (its := []) (t' := s2.toks) .nil (Nat.zero_le _)
    rw [hp] at this
    exact this
  have lt2 : ∀ b ∈ fp, b < s2.heap.objs.size := fun b hb => by
    obtain ⟨o, ho, _⟩ := T.obj _ _ st2 b hb
    exact Heap.lt_size ho
  have fpn : ∀ b ∈ fp, (upd H2 p (.lst [])) b = none := fun b hb => by
    rw [upd_ne (by rw [← hp]; exact Nat.ne_of_lt (lt2 b hb))]
    exact (f2 b hb).1
  generalize hs3 : ({ s2 with heap := s2.heap.push { cls := .type "list", dict := none, data := .seq ([] : List Value).toArray } } : Shared) = s3 at *
  have sz3 : s3.heap.objs.size = p + 1 := by
    rw [← hs3]
    show (s2.heap.push _).objs.size = _
    rw [Heap.size_push, hp]
  have st3 : tn 0 s3.heap := T.keep 0 _ _ st2 fun b hb o e => by
    rw [← hs3]
    exact Heap.get?_push_of_some _ e
  refine wpAny_newFunctionEnv O.nocell (by intro y hy; simp at hy) (fun h4 hns4 hsb4 => ?_) O.kind
  have k4 : ∀ b o, s3.heap.get? b = some o → h4.get? b = some o := fun b o e => hsb4.extBut b o (Nat.ne_of_lt (Heap.lt_size e)) (Heap.get?_push_of_some _ e)
  have hns4' : h4.Ns s3.heap.objs.size fun _ => none := by
    have z : (fun x : Str => ([] : List (Str × Value)).reverse.lookup x) = fun _ => none := by funext x; rfl
    rw [z] at hns4
    exact hns4
  have fo : ∀ b ∈ fp, FpOk X pins (upd H2 p (.lst [])) b ∧ b < s3.heap.objs.size := fun b hb => ⟨⟨fpn b hb, (f2 b hb).2⟩, by rw [sz3, ← hp]; exact Nat.lt_succ_of_lt (lt2 b hb)⟩
  have I4 := inv_blk (own := own) (fr := fr) (t1 := s3.toks + ([] : List (Str × Value)).length) I3 O fo hns4' k4
  have st4 : tn 0 h4 := T.keep 0 _ _ st3 fun b hb o e => k4 b o e
  obtain ⟨hg, ht, he⟩ := hb s3 (upd H2 p (.lst [])) fp
  have stat : ∀ {H' : Hp} {pn : List (Addr × Obj)} {s' : Shared} {σ' : St}, Inv (blk X scope own fr s3 (upd H2 p (.lst [])) fp) [] σ' H' s' → (∀ b ∈ fp, H' b = none) → ∀ b ∈ fp, FpOk (blk X scope own fr s3 (upd H2 p (.lst [])) fp) [] H' b := fun {H' pn s' σ'} J hn b hb' =>
    ⟨hn b hb', (J.ok.exf b hb').1, J.ok.exfs b hb', .inl hb', (J.ok.exf b hb').2, fun p hp => absurd hp (by simp [blk])⟩
  have nocells : ∀ x c, X.env.cells.lookup x = some c → c ≠ s3.heap.objs.size := fun x c e => by
    obtain ⟨v, q⟩ := I3.cell x c e
    exact Nat.ne_of_lt q.lt
  have loop : ∀ s5 : Shared, s5 = { s3 with heap := h4, toks := s3.toks + ([] : List (Str × Value)).length } →
      codeAny (model X.prog X.w) X.A (.compLoop (.ListComp elt [⟨tg, iter, ifs, 0⟩] scope pos) 0 (.ref it) (.ref p) (blk X scope own fr s3 (upd H2 p (.lst [])) fp).env) (compPost (model X.prog X.w) X.A X.xe use R (.ref p) s3.heap.objs.size) s5 := by
    rintro s5 rfl
    refine compLoop_gen (fun n s' => ∃ i σ' H', Inv (blk X scope own fr s3 (upd H2 p (.lst [])) fp) [] σ' H' s' ∧ tn i s'.heap ∧ (∀ b ∈ fp, H' b = none) ∧ W i n σ' H') ?_ m0 ⟨0, _, _, I4, st4, fpn, w0⟩
    rintro n s6 ⟨i, σ6, H6, I6, st6, fr6, w6⟩
    rcases turn i n σ6 H6 w6 with ⟨stop, qn⟩ | ⟨go, N, hN, step⟩
    · refine thn (T.done (blk X scope own fr s3 (upd H2 p (.lst [])) fp) rfl rfl rfl hc i [] s6 σ6 H6 _ I6 (stat (pn := []) I6 fr6) st6 stop) fun r s7 ⟨hr, I7⟩ => ?_
      subst hr
      obtain ⟨m, hm, _⟩ := I7.loc
      exact fin p _ H6 s7 m hm I7.free (Nat.ne_of_gt I3.lt) nocells (blk_back I3 fo I7 (Heap.SameBut.refl ..)) (fun h' hs' => blk_back I3 fo I7 hs') qn
    · refine thn (T.item (blk X scope own fr s3 (upd H2 p (.lst [])) fp) rfl rfl rfl hc i [] s6 σ6 H6 _ I6 (stat (pn := []) I6 fr6) st6 go) fun r s7 ⟨u, hr, h7⟩ => ?_
      subst hr
      refine thn h7 fun _ s8 ⟨x, H8, I8, r8, y8, st8, fr8⟩ => ?_
      have I8' := I8.pinned (stat (pn := []) I8 fr8) (T.obj _ _ st8)
      refine thn (hg _ s8 σ6 H8 x u _ I8' r8 (step x H8 y8)) fun _ s9 ⟨σ9, H9, I9, q9⟩ => ?_
      refine thn (ht _ s9 σ9 H9 _ I9 q9) fun ok s10 ⟨H10, I10, q10⟩ => ?_
      have again : ∀ {H11 : Hp} {s11 : Shared}, Inv (blk X scope own fr s3 (upd H2 p (.lst [])) fp) ([] ++ pinsAt fp s8.heap) σ9 H11 s11 → (∃ m', m' < n ∧ W (i + 1) m' σ9 H11) →
          ∃ m, m < n ∧ ∃ i σ' H', Inv (blk X scope own fr s3 (upd H2 p (.lst [])) fp) [] σ' H' s11 ∧ tn i s11.heap ∧ (∀ b ∈ fp, H' b = none) ∧ W i m σ' H' := fun {H11 s11} I11 ⟨m', hm, w11⟩ => by
        refine ⟨m', hm, i + 1, σ9, H11, I11.unpinned, T.keep _ _ _ st8 fun b hb' o e => (I11.pin (b, o) (List.mem_append_right _ (List.mem_append_right _ (mem_pinsAt hb' e)))).1, fun b hb' => ?_, w11⟩
        obtain ⟨o, e, d⟩ := T.obj _ _ st8 b hb'
        exact (I11.pin (b, o) (List.mem_append_right _ (List.mem_append_right _ (mem_pinsAt hb' e)))).2.1
      cases ok with
      | false =>
        rw [if_neg Bool.false_ne_true] at q10 ⊢
        exact again I10 (hN _ _ q10)
      | true =>
        rw [if_pos rfl] at q10 ⊢
        refine thn (he _ s10 σ9 H10 _ I10 q10) fun yv s11 ⟨y, H11, I11, r11, ys, hys, hlen, q11⟩ => ?_
        have ap := mt_append (X := blk X scope own fr s3 (upd H2 p (.lst [])) fp) ([] ++ pinsAt fp s8.heap) s11 σ9 H11 (.ref p) [y] (.ref p) [yv] (fun _ H12 => ∃ m', m' < n ∧ W (i + 1) m' σ9 H12) I11 rfl (.cons r11 .nil) ⟨p, ys, y, rfl, rfl, hys, hlen, hN _ _ q11⟩
        exact thn ap fun _ s12 ⟨_, H12, I12, _, q12⟩ => again I12 q12
  refine codeAny_compStart_list (loop _ rfl) (T.self X.A 0 _ _ _ st4 (loop _ rfl))
theorem pe_comp {X : Cx} {scope : Scope} {elt tg iter : Expr} {ifs : List Expr} {pos : Pos} {wi : TI} {g : TG} {tt : TT} {te : TE} (own : List Str) (fr : List Nat) (hc : X.calm = true) (O : CompOk X scope fr) (hi : PI X.nox tg iter wi)
    (hb : ∀ s H ex, PG (blk X.nox scope own fr s H ex) tg g ∧ PTs (blk X.nox scope own fr s H ex) ifs tt ∧ PE (blk X.nox scope own fr s H ex) elt te)
    (hs : ∀ x, foldedSetIterable iter X.env x = pure x := by intro _; rfl) : PE X.nox (.ListComp elt [⟨tg, iter, ifs, 0⟩] scope pos) (tComp own fr wi g tt te) := by
  intro pins s σ H Q I h
  rw [eval_ListComp]
  refine comp_run (X := X.nox) (use := none) (Q := Q) hc ⟨O.kind, O.nocell, O.loc, O.frees, O.fr⟩ hi hb hs I h (fun _ _ => Iff.rfl) fun p C H' s' m hm hC _ _ I' back q => ?_
  exact ⟨m, hm, fun h' hs' => ⟨.ref p, H', back h' hs', rfl, q⟩⟩
section
variable {p : Addr} {g : TG} {tt : TT} {te : TE} {σ : St} {H : Hp} {Q : VK}
theorem comp_by (J : It) (n : Nat) (Pv : Nat → St → Hp → Prop) (h0 : Pv 0 σ H) (stop : ∀ σ' H', Pv n σ' H' → J.stop n H') (go : ∀ i σ' H', i < n → Pv i σ' H' → J.go i H')
    (hs : ∀ i σ' H', i < n → Pv i σ' H' → ∀ x H2, J.yld i H' x H2 → g x σ' H2 fun σ3 H3 => tt σ3 H3 fun c H4 => if c = true then te σ3 H4 fun y H5 => ∃ ys, H5 p = some (.lst ys) ∧ ys.length < sizeLine ∧ Pv (i + 1) σ3 (upd H5 p (.lst (ys ++ [y]))) else Pv (i + 1) σ3 H4)
    (hd : ∀ σ' H', Pv n σ' H' → Q (.ref p) H') : CompGo J p g tt te Q σ H := by
  refine ⟨fun i m σ H => m = n - i ∧ i ≤ n ∧ Pv i σ H, ⟨n, by simp, Nat.zero_le _, h0⟩, ?_⟩
  rintro i m σ1 H1 ⟨rfl, hi, pv⟩
  by_cases hlt : i < n
  · exact .inr ⟨go i σ1 H1 hlt pv, Pv (i + 1), fun σ3 H3 q => ⟨n - (i + 1), by omega, rfl, hlt, q⟩, hs i σ1 H1 hlt pv⟩
  · have e : i = n := by omega
    subst e
    exact .inl ⟨stop σ1 H1 pv, hd σ1 H1 pv⟩
theorem comp_range {lo : Int} {n : Nat} (Pv : Nat → St → Hp → Prop) (h0 : Pv 0 σ H)
    (hs : ∀ i σ' H', i < n → Pv i σ' H' → g (.int (lo + i)) σ' H' fun σ3 H3 => tt σ3 H3 fun c H4 => if c = true then te σ3 H4 fun y H5 => ∃ ys, H5 p = some (.lst ys) ∧ ys.length < sizeLine ∧ Pv (i + 1) σ3 (upd H5 p (.lst (ys ++ [y]))) else Pv (i + 1) σ3 H4)
    (hd : ∀ σ' H', Pv n σ' H' → Q (.ref p) H') : CompGo (Itr lo n) p g tt te Q σ H :=
  comp_by (Itr lo n) n Pv h0 (fun _ _ _ => Nat.le_refl _) (fun i _ _ h _ => h) (fun i σ' H' h pv x H2 y => by
    obtain ⟨e1, e2⟩ := y
    subst e1 e2
    exact hs i σ' _ h pv) hd
theorem comp_tup {K : PySem.W.Frag} {a : Addr} {xs : List V} (Pv : Nat → St → Hp → Prop) (h0 : Pv 0 σ H) (hl : ∀ i σ' H', i ≤ xs.length → Pv i σ' H' → SqT K H' a xs)
    (hs : ∀ i x σ' H', xs[i]? = some x → Pv i σ' H' → g x σ' H' fun σ3 H3 => tt σ3 H3 fun c H4 => if c = true then te σ3 H4 fun y H5 => ∃ ys, H5 p = some (.lst ys) ∧ ys.length < sizeLine ∧ Pv (i + 1) σ3 (upd H5 p (.lst (ys ++ [y]))) else Pv (i + 1) σ3 H4)
    (hd : ∀ σ' H', Pv xs.length σ' H' → Q (.ref p) H') : CompGo (Itt K a) p g tt te Q σ H :=
  comp_by (Itt K a) xs.length Pv h0 (fun σ' H' pv => ⟨xs, hl _ σ' H' (Nat.le_refl _) pv, Nat.le_refl _⟩) (fun i σ' H' h pv => ⟨xs, xs[i], hl i σ' H' (Nat.le_of_lt h) pv, by simp [h]⟩) (fun i σ' H' h pv x H2 y => by
    obtain ⟨e1, e2⟩ := y
    subst e1
    exact hs i x σ' _ (e2 xs (hl i σ' _ (Nat.le_of_lt h) pv)) pv) hd
theorem comp_list {K : PySem.W.Frag} {a : Addr} {xs : List V} (Pv : Nat → St → Hp → Prop) (h0 : Pv 0 σ H) (hl : ∀ i σ' H', i ≤ xs.length → Pv i σ' H' → SqL K H' a xs)
    (hs : ∀ i x σ' H', xs[i]? = some x → Pv i σ' H' → g x σ' H' fun σ3 H3 => tt σ3 H3 fun c H4 => if c = true then te σ3 H4 fun y H5 => ∃ ys, H5 p = some (.lst ys) ∧ ys.length < sizeLine ∧ Pv (i + 1) σ3 (upd H5 p (.lst (ys ++ [y]))) else Pv (i + 1) σ3 H4)
    (hd : ∀ σ' H', Pv xs.length σ' H' → Q (.ref p) H') : CompGo (Itl K a) p g tt te Q σ H :=
  comp_by (Itl K a) xs.length Pv h0 (fun σ' H' pv => ⟨xs, hl _ σ' H' (Nat.le_refl _) pv, Nat.le_refl _⟩) (fun i σ' H' h pv => ⟨xs, xs[i], hl i σ' H' (Nat.le_of_lt h) pv, by simp [h]⟩) (fun i σ' H' h pv x H2 y => by
    obtain ⟨e1, e2⟩ := y
    subst e1
    exact hs i x σ' _ (e2 xs (hl i σ' _ (Nat.le_of_lt h) pv)) pv) hd
end
end L2
set_option Elab.async false
set_option linter.all false
set_option maxRecDepth 100000
namespace L2
open PySem PySem.Spec PyProof.Rows
inductive D where
  | int (i : Int) | str (x : Str) | tup (ds : List D)
mutual
def Held (H : Hp) : D → V → Prop
  | .int i, v => v = .int i
  | .str x, v => v = .str x
  | .tup ds, v => ∃ a xs, v = .ref a ∧ H a = some (.tup xs) ∧ HeldL H ds xs
def HeldL (H : Hp) : List D → List V → Prop
  | [], vs => vs = []
  | d :: ds, vs => ∃ v r, vs = v :: r ∧ Held H d v ∧ HeldL H ds r
end
mutual
theorem Held.mono {H H' : Hp} (e : Same H H') : ∀ {d : D} {v : V}, Held H d v → Held H' d v
  | .int i, v, h => by unfold Held at h ⊢; exact h
  | .str x, v, h => by unfold Held at h ⊢; exact h
  | .tup ds, v, h => by
    unfold Held at h ⊢
    obtain ⟨a, xs, e1, e2, e3⟩ := h
    exact ⟨a, xs, e1, e a _ e2, HeldL.mono e e3⟩
theorem HeldL.mono {H H' : Hp} (e : Same H H') : ∀ {ds : List D} {vs : List V}, HeldL H ds vs → HeldL H' ds vs
  | [], vs, h => by unfold HeldL at h ⊢; exact h
  | d :: ds, vs, h => by
    unfold HeldL at h ⊢
    obtain ⟨v, r, e1, e2, e3⟩ := h
    exact ⟨v, r, e1, Held.mono e e2, HeldL.mono e e3⟩
end
theorem HeldL.length {H : Hp} : ∀ {ds : List D} {vs : List V}, HeldL H ds vs → ds.length = vs.length
  | [], vs, h => by unfold HeldL at h; subst h; rfl
  | d :: ds, vs, h => by
    unfold HeldL at h
    obtain ⟨v, r, e1, _, e3⟩ := h
    subst e1
    rw [List.length_cons, List.length_cons, HeldL.length e3]
theorem HeldL.get {H : Hp} : ∀ {ds : List D} {vs : List V} {j : Nat} {d : D}, HeldL H ds vs → ds[j]? = some d → ∃ v, vs[j]? = some v ∧ Held H d v
  | [], _, _, _, _, e => by simp at e
  | d :: ds, vs, 0, d', h, e => by
    unfold HeldL at h
    obtain ⟨v, r, e1, e2, e3⟩ := h
    simp at e; subst e e1
    exact ⟨v, rfl, e2⟩
  | d :: ds, vs, j + 1, d', h, e => by
    unfold HeldL at h
    obtain ⟨v, r, e1, e2, e3⟩ := h
    subst e1
    obtain ⟨w, h1, h2⟩ := HeldL.get (j := j) (d := d') e3 (by simpa using e)
    exact ⟨w, by simpa using h1, h2⟩
mutual
def D.depth : D → Nat
  | .int _ => 0
  | .str _ => 0
  | .tup ds => D.depthL ds + 1
def D.depthL : List D → Nat
  | [] => 0
  | d :: ds => max (D.depth d) (D.depthL ds)
end
theorem D.depthL_get : ∀ {ds : List D} {j : Nat} {d : D}, ds[j]? = some d → d.depth ≤ D.depthL ds
  | [], _, _, e => by simp at e
  | d :: ds, 0, d', e => by simp at e; subst e; unfold D.depthL; exact Nat.le_max_left _ _
  | d :: ds, j + 1, d', e => by unfold D.depthL; exact Nat.le_trans (D.depthL_get (j := j) (by simpa using e)) (Nat.le_max_right _ _)
section
variable {X : Cx} {pins : List (Addr × Obj)} {σ : St} {H : Hp} {s : Shared}
end
section
variable {prog : Program} {w : World} {A : Around} {E : Value → Shared → Prop}
end
theorem op_fdivB {X : Cx} : OpR X (binaryOp .FloorDiv) (rI (fun _ j => 0 < j ∧ j < 2 ^ 200) fun i j => .int (i / j)) := opI fun i j _ _ _ _ _ hc q => by
  refine floordiv_int (by omega) ?_ (.inl (PyProof.noPylong_of_log2 ?_))
  · rw [Int.fdiv_eq_ediv_of_nonneg _ (by omega)]
    exact q
  · have h0 : j.natAbs ≠ 0 := by omega
    exact Nat.lt_trans ((Nat.log2_lt h0).mpr (show j.natAbs < 2 ^ 200 by omega)) (by decide)
theorem call_isinst {X : Cx} : CallR X (.builtin "isinstance") (fun xs H Q => ∃ x t T b, xs = [x, .ty T] ∧ TyOf X.K H x t ∧ PySem.W.kitOne X.K t (.type T) = some b ∧ Q (.bl b) H) := by
  intro pins s σ H xs us Q I r h
  obtain ⟨x, t, T, b, rfl, ty, e, q⟩ := h
  obtain ⟨u, v, rfl, ru, rv⟩ := vals2 r
  cases rv
  exact isinst_ok I ru ty e fun tk => ⟨.bl b, H, I.tok _, rfl, q⟩
theorem kit_tt (K : PySem.W.Frag) : PySem.W.kitOne K (.type "tuple") (.type "tuple") = some true := rfl
theorem kit_ii (K : PySem.W.Frag) : PySem.W.kitOne K (.type "int") (.type "int") = some true := rfl
theorem kit_ib (K : PySem.W.Frag) : PySem.W.kitOne K (.type "int") (.type "bool") = some false := rfl
def plainE : Expr → Bool
  | .Starred _ _ => false
  | _ => true
theorem se_plain {e : Expr} (h : plainE e = true) (rest : List Expr) (env : Env) : starEach (e :: rest) env = (false, eval e env) :: starEach rest env := by
  cases e <;> first | rfl | cases h
theorem se_any (pos : Pos) (env : Env) : ∀ es : List Expr, es.all plainE = true → (backTo pos (starEach es env)).any (·.1) = false
  | [], _ => rfl
  | e :: es, h => by
    rw [List.all_cons, Bool.and_eq_true] at h
    rw [se_plain h.1]
    have ih := se_any pos env es h.2
    show (false || (backTo pos (starEach es env)).any (·.1)) = false
    rw [ih]
    rfl
theorem pa_c {X : Cx} {e : Expr} {es : List Expr} {te : TE} {t : TA} (ha : PE X e te) (hr : PA X es t) (hp : plainE e = true := by rfl) : PA X (e :: es) (tCons te t) := pa_cons ha hr (se_plain hp es X.env)
theorem pe_cB {X : Cx} {x : Str} {p pos : Pos} {e : Expr} {es : List Expr} {t : TA} {id : String} {r : List V → Hp → VK → Prop} (hc : CallR X (.builtin id) r) (hg : Gl X x) (hm : X.mg x = none) (hv : bootBuiltins x = some (.builtin id)) (ha : PA X (e :: es) t) (hp : (e :: es).all plainE = true := by rfl) (hn : x ≠ "__name__" := by decide) (hdb : (x == ("__debug__" : Str)) = false := by decide) :
    PE X (.Call (.Name x p) (e :: es) [] pos) (tCB r t) := by
  rw [List.all_cons, Bool.and_eq_true] at hp
  exact pe_callB hc hg hm hv ha hn hdb (se_plain hp.1 es X.env) (se_any pos X.env es hp.2)
theorem pe_cT {X : Cx} {x : Str} {p pos : Pos} {e : Expr} {es : List Expr} {t : TA} {T : String} {r : List V → Hp → VK → Prop} (hc : CallR X (.type T) r) (hg : Gl X x) (hm : X.mg x = none) (hv : bootBuiltins x = some (.type T)) (ha : PA X (e :: es) t) (hp : (e :: es).all plainE = true := by rfl) (hn : x ≠ "__name__" := by decide) (hdb : (x == ("__debug__" : Str)) = false := by decide) :
    PE X (.Call (.Name x p) (e :: es) [] pos) (tCB r t) := by
  rw [List.all_cons, Bool.and_eq_true] at hp
  exact pe_callTy hc hg hm hv ha hn hdb (se_plain hp.1 es X.env) (se_any pos X.env es hp.2)
structure Fn (P : Program) (w : World) (K : PySem.W.Frag) (mg : Str → Option Value) (base : Heap) (k : Nat) (x : Str) (ps : List Str) (sp : Sp) : Prop where
  ex : ∃ f fd, FnOk P w K mg base CX0 k f fd ps sp ∧ Binds K fd ps [] ∧ PySem.W.keepIn K (.ref f) = true ∧ mg x = some (.ref f)
theorem pe_fn {X : Cx} {k k' : Nat} {x : Str} {ps : List Str} {sp : Sp} {e : Expr} {es : List Expr} {t : TA} {p pos : Pos} (F : Fn X.prog X.w X.K X.mg X.base k x ps sp) (hr : Room k' X.A) (ha : PA X (e :: es) t) (hk : k ≤ k' := by decide) (hg : Gl X x := by rfl)
    (hd : (x == ("__debug__" : Str)) = false := by decide) (hp : (e :: es).all plainE = true := by rfl) : PE X (.Call (.Name x p) (e :: es) [] pos) (tCall sp [] E0 t) := by
  obtain ⟨f, fd, G, b, kp, m⟩ := F.ex
  rw [List.all_cons, Bool.and_eq_true] at hp
  exact pe_call G (hr.mono hk) hg m kp b .nil pass0 ha hd (se_plain hp.1 es X.env) (se_any pos X.env es hp.2)
theorem Fn.mk' {P : Program} {w : World} {K : PySem.W.Frag} {mg : Str → Option Value} {base : Heap} {k : Nat} {x : Str} {ps : List Str} {sp : Sp} {st : Stmt} {f : Addr} {fd : FuncData} (F : Fun K x x st f fd) (b : Binds K fd ps []) (m : mg x = some (.ref f)) (G : FnOk P w K mg base CX0 k f fd ps sp) : Fn P w K mg base k x ps sp := ⟨f, fd, G, b, F.kp, m⟩
theorem comp_ok {X : Cx} {scope : Scope} {fr : List Nat} {sc : Scope} {N : List Str} (h1 : X.env.scope = sc) (h2 : X.N = N) (h : scope.kind = .function ∧ (∀ y ∈ scope.names, y.2 ≠ .cell) ∧ (∀ y ∈ scope.names, y.2 = .local → scope.names.lookup y.1 = some .local) ∧
    (∀ y ∈ scope.names, y.2 = .free → sc.names.lookup y.1 = some .cell ∨ sc.names.lookup y.1 = some .free) ∧ ∀ j ∈ fr, scope.names.lookup (N.getD j (Str.ofString "")) = some .free) : CompOk X scope fr := by
  obtain ⟨a, b, c, d, e⟩ := h
  exact ⟨a, b, c, by rw [h1]; exact d, by rw [h2]; exact e⟩
theorem bt_len : bootBuiltins "len" = some (.builtin "len") := by decide +kernel
theorem bt_max : bootBuiltins "max" = some (.builtin "max") := by decide +kernel
theorem bt_min : bootBuiltins "min" = some (.builtin "min") := by decide +kernel
theorem bt_isinstance : bootBuiltins "isinstance" = some (.builtin "isinstance") := by decide +kernel
theorem bt_int : bootBuiltins "int" = some (.type "int") := by decide +kernel
theorem bt_bool : bootBuiltins "bool" = some (.type "bool") := by decide +kernel
theorem bt_tuple : bootBuiltins "tuple" = some (.type "tuple") := by decide +kernel
theorem bt_list : bootBuiltins "list" = some (.type "list") := by decide +kernel
theorem bt_range : bootBuiltins "range" = some (.type "range") := by decide +kernel
theorem bt_set : bootBuiltins "set" = some (.type "set") := by decide +kernel
structure Free0 (mg : Str → Option Value) : Prop where
  len_ : mg "len" = none
  max_ : mg "max" = none
  min_ : mg "min" = none
  all_ : mg "all" = none
  isinstance_ : mg "isinstance" = none
  abs_ : mg "abs" = none
  sorted_ : mg "sorted" = none
  int_ : mg "int" = none
  str_ : mg "str" = none
  bool_ : mg "bool" = none
  tuple_ : mg "tuple" = none
  list_ : mg "list" = none
  dict_ : mg "dict" = none
  range_ : mg "range" = none
  set_ : mg "set" = none
theorem ix_listK {X : Cx} {K : PySem.W.Frag} (h : X.K = K := by rfl) : IxR X (rIxL K) := by subst h; exact ix_list
theorem call_len_seqK {X : Cx} {K : PySem.W.Frag} (h : X.K = K := by rfl) : CallR X (.builtin "len") (fun xs H Q => ∃ p ys, xs = [.ref p] ∧ (SqL K H p ys ∨ SqT K H p ys) ∧ Q (.int ys.length) H) := by subst h; exact call_len_seq
structure QS (X : Cx) (st : Stmt) (t : TS) : Prop where
  h : PS X st t
theorem qs {X : Cx} {st : Stmt} {t : TS} (h : PS X st t) : QS X st t := ⟨h⟩
end L2
set_option Elab.async false
set_option linter.all false
set_option maxRecDepth 100000
namespace L2
open PySem PySem.Spec PyProof.Rows
theorem op_add_list {X : Cx} : OpR X (binaryOp .Add) (fun x y H Q => ∃ a b xs ys, x = .ref a ∧ y = .ref b ∧ SqL X.K H a xs ∧ SqL X.K H b ys ∧ xs.length + ys.length ≤ sizeLine ∧ ∀ l, H l = none → Q (.ref l) (upd H l (.lst (xs ++ ys)))) := by
  intro pins s σ H x y v u Q I rx ry h
  obtain ⟨a, b, xs, ys, rfl, rfl, ha, hb, hz, q⟩ := h
  cases rx; cases ry
  obtain ⟨its, rv, ⟨⟨c1, d1, t1, l1⟩, n1, o1, z1, z2, z3⟩, hz1⟩ := I.list ha
  obtain ⟨its2, rv2, ⟨⟨c2, d2, t2, l2⟩, n2, o2, y1, y2, y3⟩, hz2⟩ := I.list hb
  simp only at z1 z2 z3 y1 y2 y3
  subst z1 z2 z3 y1 y2 y3
  have h1 := rv.length
  have h2 := rv2.length
  refine concat_meets ⟨_, o1, rfl⟩ ⟨_, o2, rfl⟩ noFill_list_add seq_list_add PySem.F.slot_list_add PySem.F.entry_list_add (PySem.F.args_list_add_2 _ _)
    (list_addW a b its.toArray its2.toArray n1 n2 none none l1 l2 (by simp only [List.size_toArray]; omega)) ⟨o1, o2, ?_⟩
  have e : its.toArray ++ its2.toArray = (its ++ its2).toArray := by simp
  rw [e]
  refine ⟨.ref s.heap.objs.size, _, I.laid (t' := s.toks) (fun b u hb => Heap.get?_push_of_some _ hb) (Nat.le_refl _) (show ObjOk X.prog X.w _ _ _ (.lst (xs ++ ys)) from ⟨?_, its ++ its2, 0, rv.append rv2, Heap.get?_push_size _ rfl⟩), rfl, q _ (I.hok.fresh (Nat.le_refl _))⟩
  rw [List.length_append]
  exact hz
end L2
set_option Elab.async false
set_option linter.all false
set_option maxRecDepth 100000
namespace L2
open PySem PySem.Spec PyProof.Rows PySem.W
def OkP (N : Nat) (p : Array Nat) : Prop := p.toList.Perm (List.range N)
theorem OkP.size {N : Nat} {p : Array Nat} (h : OkP N p) : p.size = N := by
  have := h.length_eq
  rw [List.length_range] at this
  simpa using this
section
variable {N : Nat} {f : Nat → Int} {p : Array Nat} {s : Shared}
end
end L2
set_option Elab.async false
set_option linter.all false
set_option maxRecDepth 100000
namespace L2
open PySem PySem.Spec PyProof.Rows PySem.W
section
variable {prog : Program} {w : World} {A : Around} {E : Value → Shared → Prop} {s : Shared}
end
end L2
set_option Elab.async false
set_option linter.all false
set_option maxRecDepth 100000
set_option maxHeartbeats 1000000
namespace PySem
open Sem (wp)
namespace F
end F
section
variable {prog : Program} {w : World} {A : Around} {E : Value → Shared → Prop} {h : Heap} {g : Array GenState} {d : Drawn} {t : Nat} {os : OsState} {a : Addr} {its : Array Value} {n : Nat} {sl : Array (Option Value)}
end
end PySem
namespace L2
open PySem PySem.Spec PyProof.Rows PySem.W
section
variable {prog : Program} {w : World} {A : Around} {E : Value → Shared → Prop} {R : Result → Shared → Prop}
end
end L2
set_option Elab.async false
set_option linter.all false
set_option maxRecDepth 100000
namespace L2
open PySem PySem.Spec PyProof.Rows PySem.W
theorem Inv.more {X : Cx} {pins : List (Addr × Obj)} {σ : St} {H H' : Hp} {s : Shared} {h' : Heap} {t' : Nat} (I : Inv X pins σ H s) (k : ∀ b u, s.heap.get? b = some u → h'.get? b = some u) (same : Same H H')
    (new : ∀ b o, H b = none → H' b = some o → s.heap.objs.size ≤ b ∧ ObjOk X.prog X.w H' h' b o) : Inv X pins σ H' { s with heap := h', toks := t' } := by
  refine I.un ⟨fun b u q _ _ _ => k b u q, fun b u q _ _ _ => ⟨u.slots, k b u q⟩, fun b u q n _ => ?_, fun b u q _ => ⟨u, k b u q⟩, fun b xs q => same _ _ q, fun b u xs q => same _ _ q, fun b ps q => ⟨#[], by rw [same _ _ q]; simp⟩⟩ fun b o e => ?_
  · cases e : H' b with
    | none => rfl
    | some o => exact absurd (Heap.lt_size q) (Nat.not_lt.mpr (new b o n e).1)
  · cases q : H b with
    | none => exact (new b o q e).2
    | some u =>
      have := same _ _ q
      rw [e] at this
      cases this
      exact (I.hok b o q).stay (fun c v _ q => k c v q) (fun c q => same _ _ q) fun c xs q => same _ _ q
theorem call_rangev1 {X : Cx} : CallR X (.type "range") (fun xs H Q => ∃ j : Int, xs = [.int j] ∧ ∀ r, H r = none → Q (.ref r) (upd H r (.rng 0 j))) := by
  intro pins s σ H xs us Q I r h
  obtain ⟨j, rfl, q⟩ := h
  obtain ⟨u, rfl, t, rfl⟩ := vals1 r
  refine call_range_1 ?_
  exact ⟨.ref s.heap.objs.size, _, I.laid (fun b u e => Heap.get?_push_of_some _ e) (Nat.le_refl _) (show ObjOk X.prog X.w _ _ _ (.rng 0 j) from ⟨_, _, _, Heap.get?_push_size _ rfl⟩), rfl, q _ (I.hok.fresh (Nat.le_refl _))⟩
def rngV (lo : Int) (n : Nat) : List V := (List.range n).map fun (k : Nat) => V.int (lo + (k : Int))
theorem vals_rng {lo : Int} : ∀ {n : Nat} {acc : List Value}, acc.length = n → (∀ (j : Nat) (v : Value), acc[j]? = some v → ∃ t, v = Value.int (lo + (j : Int) * 1) t) → Vals (rngV lo n) acc := by
  intro n acc hl h
  unfold rngV
  have key : ∀ (acc : List Value) (a : Nat), (∀ (j : Nat) (v : Value), acc[j]? = some v → ∃ t, v = Value.int (lo + ((a + j : Nat) : Int)) t) → Vals ((List.range' a acc.length).map fun (k : Nat) => V.int (lo + (k : Int))) acc := by
    intro acc
    induction acc with
    | nil => intro a _; exact .nil
    | cons v acc ih =>
      intro a h
      rw [List.length_cons, List.range'_succ, List.map_cons]
      obtain ⟨t, e⟩ := h 0 v rfl
      refine .cons ⟨t, by simpa using e⟩ (ih (a + 1) fun j v hv => ?_)
      obtain ⟨t, e⟩ := h (j + 1) v (by simpa using hv)
      exact ⟨t, by rw [e]; congr 2; omega⟩
  have k := key acc 0 fun j v hv => by
    obtain ⟨t, e⟩ := h j v hv
    exact ⟨t, by rw [e]; simp⟩
  rw [hl] at k
  rw [List.range_eq_range']
  exact k
theorem call_list_rng {X : Cx} (hc : X.calm = true) : CallR X (.type "list") (fun xs H Q => ∃ (r : Addr) (i j : Int), xs = [.ref r] ∧ H r = some (.rng i j) ∧ 0 ≤ i ∧ i ≤ 1000 ∧ 0 ≤ j ∧ j ≤ 1000 ∧ ∀ l, H l = none → Q (.ref l) (upd H l (.lst (rngV i (j - i).toNat)))) := by
  intro pins s σ H xs us Q I rr h
  obtain ⟨r, i, j, rfl, hr, h1, h2, h3, h4, q⟩ := h
  obtain ⟨u, rfl, rx⟩ := vals1 rr
  cases rx
  obtain ⟨t, u, v, e⟩ := I.hok r _ hr
  have hn : Builtin.Range.rangeSize i j 1 = (((j - i).toNat : Nat) : Int) := by rw [rangeSize_one]; split <;> omega
  refine call_list_range (I.ok.hd hc) (show IsRange s.heap r i j 1 t u v from e) (small_one (by omega) (by omega) (by omega) (by omega)) hn (by omega) fun h' tk acc c hk hl hacc => ?_
  refine ⟨.ref s.heap.objs.size, _, I.laid (t' := tk) hk (Nat.le_refl _) (show ObjOk X.prog X.w _ _ _ (.lst (rngV i (j - i).toNat)) from ⟨?_, acc.toList, c, vals_rng ?_ fun k v hv => ?_, ?_⟩), rfl, q _ (I.hok.fresh (Nat.le_refl _))⟩
  · unfold rngV
    rw [List.length_map, List.length_range]
    exact Nat.le_of_lt (small1000 (by omega))
  · rw [Array.length_toList]
    exact hacc.1
  · exact hacc.2 k v (by rw [← Array.getElem?_toList]; exact hv)
  · rw [Array.toArray_toList]
    exact hl
end L2
set_option Elab.async false
set_option linter.all false
set_option maxRecDepth 100000
namespace L2
open PySem PySem.Spec PyProof.Rows PySem.W
abbrev Up (xs : Array Nat) : Prop := xs.toList.Pairwise (· < ·)
structure TabOk (led : Bool) (t : SetTable) : Prop where
  led_ : t.led = led
  none_ : t.dummies = #[]
  up : Up t.place
theorem up_lt {xs : Array Nat} (h : Up xs) {i j : Nat} (hij : i < j) (hj : j < xs.size) : xs.getD i 0 < xs.getD j 0 := by
  have hi : i < xs.size := by omega
  have := List.pairwise_iff_getElem.mp h i j (by simpa using hi) (by simpa using hj) hij
  simpa [Array.getD, hi, hj] using this
theorem below_go {xs : Array Nat} (h : Up xs) (j : Nat) : ∀ (f lo hi : Nat), lo ≤ hi → hi ≤ xs.size → hi ≤ lo + f → (∀ i, i < lo → xs.getD i 0 < j) → (∀ i, hi ≤ i → i < xs.size → j ≤ xs.getD i 0) →
    (SetTable.below.go xs j f lo hi) ≤ xs.size ∧ (∀ i, i < SetTable.below.go xs j f lo hi → xs.getD i 0 < j) ∧ ∀ i, SetTable.below.go xs j f lo hi ≤ i → i < xs.size → j ≤ xs.getD i 0
  | 0, lo, hi, h1, h2, h3, a, b => by
    unfold SetTable.below.go
    exact ⟨by omega, a, fun i hi' => b i (by omega)⟩
  | f + 1, lo, hi, h1, h2, h3, a, b => by
    unfold SetTable.below.go
    by_cases e : lo < hi
    · rw [if_pos e]
      dsimp only
      have hm : (lo + hi) / 2 < xs.size := by omega
      have eg : xs.getD ((lo + hi) / 2) j = xs.getD ((lo + hi) / 2) 0 := by simp [Array.getD, hm]
      rw [eg]
      by_cases c : xs.getD ((lo + hi) / 2) 0 < j
      · rw [if_pos c]
        refine below_go h j f ((lo + hi) / 2 + 1) hi (by omega) h2 (by omega) (fun i hi' => ?_) b
        rcases Nat.lt_or_ge i ((lo + hi) / 2) with z | z
        · exact Nat.lt_trans (up_lt h z hm) c
        · have : i = (lo + hi) / 2 := by omega
          subst this
          exact c
      · rw [if_neg c]
        refine below_go h j f lo ((lo + hi) / 2) (by omega) (by omega) (by omega) a fun i hi' hs => ?_
        rcases Nat.lt_or_ge ((lo + hi) / 2) i with z | z
        · exact Nat.le_trans (Nat.le_of_not_lt c) (Nat.le_of_lt (up_lt h z hs))
        · have : i = (lo + hi) / 2 := by omega
          subst this
          exact Nat.le_of_not_lt c
    · rw [if_neg e]
      exact ⟨by omega, a, fun i hi' => b i (by omega)⟩
theorem below_ok {xs : Array Nat} (h : Up xs) (j : Nat) : SetTable.below xs j ≤ xs.size ∧ (∀ i, i < SetTable.below xs j → xs.getD i 0 < j) ∧ ∀ i, SetTable.below xs j ≤ i → i < xs.size → j ≤ xs.getD i 0 :=
  below_go h j xs.size 0 xs.size (Nat.zero_le _) (Nat.le_refl _) (by omega) (fun i h => by omega) fun i h1 h2 => by omega
theorem getD_lt {xs : Array Nat} {i : Nat} (h : i < xs.size) : xs[i]? = some (xs.getD i 0) := by simp [Array.getD, h]
theorem insert_up {xs : Array Nat} (h : Up xs) {j : Nat} (hj : xs[SetTable.below xs j]? ≠ some j) : Up (SetTable.insertAt xs (SetTable.below xs j) j) := by
  obtain ⟨b1, b2, b3⟩ := below_ok h j
  unfold Up
  rw [SetTable.toList_insertAt]
  have hd : ∀ x ∈ xs.toList.drop (SetTable.below xs j), j < x := fun x hx => by
    obtain ⟨i, hi, rfl⟩ := List.mem_iff_getElem.mp hx
    rw [List.length_drop] at hi
    rw [List.getElem_drop]
    have hs : SetTable.below xs j + i < xs.size := by simpa using (by omega : SetTable.below xs j + i < xs.toList.length)
    have e : xs.toList[SetTable.below xs j + i]'(by simpa using hs) = xs.getD (SetTable.below xs j + i) 0 := by simp [Array.getD, hs]
    rw [e]
    have ge := b3 (SetTable.below xs j + i) (by omega) hs
    rcases Nat.lt_or_ge j (xs.getD (SetTable.below xs j + i) 0) with z | z
    · exact z
    · have eq : xs.getD (SetTable.below xs j + i) 0 = j := by omega
      rcases Nat.eq_zero_or_pos i with rfl | hp
      · exact absurd (by rw [Nat.add_zero] at eq hs; rw [getD_lt hs, eq]) hj
      · have := up_lt h (i := SetTable.below xs j) (j := SetTable.below xs j + i) (by omega) hs
        have := b3 (SetTable.below xs j) (Nat.le_refl _) (by omega)
        omega
  have ht : ∀ x ∈ xs.toList.take (SetTable.below xs j), x < j := fun x hx => by
    obtain ⟨i, hi, rfl⟩ := List.mem_iff_getElem.mp hx
    rw [List.length_take] at hi
    rw [List.getElem_take]
    have hs : i < xs.size := by simpa using (by omega : i < xs.toList.length)
    have e : xs.toList[i]'(by simpa using hs) = xs.getD i 0 := by simp [Array.getD, hs]
    rw [e]
    exact b2 i (by omega)
  refine List.pairwise_append.mpr ⟨h.sublist (List.take_sublist _ _), List.pairwise_cons.mpr ⟨hd, h.sublist (List.drop_sublist _ _)⟩, fun x hx y hy => ?_⟩
  rcases List.mem_cons.mp hy with rfl | hy
  · exact ht x hx
  · exact Nat.lt_trans (ht x hx) (hd y hy)
theorem put_ok {led : Bool} {t : SetTable} (h : TabOk led t) {j : Nat} (hj : t.place[SetTable.below t.place j]? ≠ some j) : TabOk led (t.put j).1 := by
  refine ⟨h.led_, ?_, insert_up h.up hj⟩
  unfold SetTable.put
  dsimp only
  rw [h.none_]
  split
  · simp [SetTable.eraseAt]
  · rfl
theorem laid_ok {mask finger moves : Nat} {led plain : Bool} {hashes : Array Int} {t : SetTable} {o : Array Nat} (h : SetTable.laid mask finger moves led plain hashes = some (t, o)) : TabOk led t := by
  unfold SetTable.laid at h
  cases hl : SetTable.layClean mask hashes with
  | none => rw [hl] at h; cases h
  | some owner =>
    rw [hl] at h
    cases h
    refine ⟨rfl, rfl, ?_⟩
    unfold Up
    dsimp only
    have key : ∀ l : List Nat, (l.filterMap fun j => (owner.getD j none).map (fun k => (j, k))).map (·.1) = l.filter fun j => (owner.getD j none).isSome := by
      intro l
      induction l with
      | nil => rfl
      | cons a l ih =>
        rw [List.filterMap_cons, List.filter_cons]
        cases owner.getD a none with
        | none => simpa using ih
        | some k =>
          show a :: List.map _ _ = _
          rw [ih]
          rfl
    show List.Pairwise _ (List.map _ _)
    rw [key]
    exact List.pairwise_lt_range.sublist List.filter_sublist
end L2
set_option Elab.async false
set_option linter.all false
set_option maxRecDepth 100000
namespace L2
open PySem PySem.Spec PyProof.Rows PySem.W
theorem pigeonN : ∀ (n : Nat) (f : Nat → Nat), (∀ i, i ≤ n → f i < n) → ∃ i j, i < j ∧ j ≤ n ∧ f i = f j
  | 0, f, h => absurd (h 0 (Nat.le_refl _)) (Nat.not_lt_zero _)
  | n + 1, f, h => by
    by_cases hex : ∃ i, i ≤ n ∧ f i = f (n + 1)
    · obtain ⟨i, hi, e⟩ := hex
      exact ⟨i, n + 1, by omega, Nat.le_refl _, e⟩
    · obtain ⟨i, j, h1, h2, h3⟩ := pigeonN n (fun i => if f i = n then f (n + 1) else f i) (fun i hi => by
        have h1 := h i (by omega)
        have h2 := h (n + 1) (Nat.le_refl _)
        have h3 : f i ≠ f (n + 1) := fun e => hex ⟨i, hi, e⟩
        split
        · next e => omega
        · next e => omega)
      have a1 : f i ≠ f (n + 1) := fun e => hex ⟨i, by omega, e⟩
      have a2 : f j ≠ f (n + 1) := fun e => hex ⟨j, h2, e⟩
      refine ⟨i, j, h1, by omega, ?_⟩
      by_cases e1 : f i = n
      · by_cases e2 : f j = n
        · omega
        · rw [if_pos e1, if_neg e2] at h3; exact absurd h3.symm a2
      · by_cases e2 : f j = n
        · rw [if_neg e1, if_pos e2] at h3; exact absurd h3 a1
        · rw [if_neg e1, if_neg e2] at h3; exact h3
def leapN (mask : Nat) : Nat → Nat × Nat → Nat × Nat
  | 0, p => p
  | n + 1, p => leapN mask n (SetTable.leap mask p.1 p.2)
theorem leapN_add (mask : Nat) : ∀ (a b : Nat) (p : Nat × Nat), leapN mask (a + b) p = leapN mask b (leapN mask a p)
  | 0, b, p => by rw [Nat.zero_add]; rfl
  | a + 1, b, p => by rw [show a + 1 + b = a + b + 1 by omega]; exact leapN_add mask a b _
theorem leapN_pert (mask : Nat) : ∀ (n : Nat) (p : Nat × Nat), (leapN mask n p).2 = p.2 / 32 ^ n
  | 0, p => by show p.2 = _; rw [Nat.pow_zero, Nat.div_one]
  | n + 1, p => by
    show (leapN mask n (SetTable.leap mask p.1 p.2)).2 = _
    rw [leapN_pert mask n]
    show p.2 / 32 / 32 ^ n = _
    rw [Nat.div_div_eq_div_mul, Nat.pow_succ, Nat.mul_comm]
def orb (M : Nat) : Nat → Nat → Nat
  | 0, a => a
  | n + 1, a => orb M n ((a * 5 + 1) % M)
theorem orb_add (M : Nat) : ∀ (a b x : Nat), orb M (a + b) x = orb M b (orb M a x)
  | 0, b, x => by rw [Nat.zero_add]; rfl
  | a + 1, b, x => by rw [show a + 1 + b = a + b + 1 by omega]; exact orb_add M a b _
def orbL (M : Nat) : Nat → Nat → List Nat
  | 0, _ => []
  | n + 1, a => a :: orbL M n ((a * 5 + 1) % M)
theorem orbL_get (M : Nat) : ∀ (n a e : Nat), e ∈ orbL M n a → ∃ k, k < n ∧ orb M k a = e
  | 0, a, e, h => by cases h
  | n + 1, a, e, h => by
    rcases List.mem_cons.mp h with rfl | h
    · exact ⟨0, Nat.succ_pos _, rfl⟩
    · obtain ⟨k, h1, h2⟩ := orbL_get M n _ e h
      exact ⟨k + 1, by omega, h2⟩
def Full (M : Nat) : Prop := (∀ e, e < M → ∃ k, k < M ∧ orb M k 0 = e) ∧ orb M M 0 = 0
theorem full_of {M : Nat} (h : ((List.range M).all fun e => (orbL M M 0).contains e) = true) (h0 : orb M M 0 = 0) : Full M := by
  refine ⟨fun e he => ?_, h0⟩
  have := List.all_eq_true.mp h e (List.mem_range.mpr he)
  exact orbL_get M M 0 e (List.contains_iff_mem.mp this)
theorem full8 : Full 8 := full_of (by decide +kernel) (by decide +kernel)
theorem full32 : Full 32 := full_of (by decide +kernel) (by decide +kernel)
theorem full128 : Full 128 := full_of (by decide +kernel) (by decide +kernel)
theorem Full.reach {M : Nat} (F : Full M) {a e : Nat} (ha : a < M) (he : e < M) : ∃ k, k < M ∧ orb M k a = e := by
  obtain ⟨i, hi, rfl⟩ := F.1 a ha
  obtain ⟨j, hj, rfl⟩ := F.1 e he
  rcases Nat.lt_or_ge j i with c | c
  · refine ⟨M - i + j, by omega, ?_⟩
    rw [← orb_add, show i + (M - i + j) = M + j by omega, orb_add, F.2]
  · refine ⟨j - i, by omega, ?_⟩
    rw [← orb_add, show i + (j - i) = j by omega]
theorem leapN_orb (mask : Nat) : ∀ (n : Nat) (a : Nat), leapN mask n (a, 0) = (orb (mask + 1) n a, 0)
  | 0, a => rfl
  | n + 1, a => by
    show leapN mask n (SetTable.leap mask a 0) = _
    have e : SetTable.leap mask a 0 = ((a * 5 + 1) % (mask + 1), 0) := by unfold SetTable.leap; simp
    rw [e, leapN_orb mask n]
    rfl
theorem leap_lt (mask i p : Nat) : (SetTable.leap mask i p).1 < mask + 1 := Nat.mod_lt _ (Nat.succ_pos _)
theorem leapN_lt {mask : Nat} : ∀ (n : Nat) {p : Nat × Nat}, p.1 < mask + 1 → (leapN mask n p).1 < mask + 1
  | 0, p, h => h
  | n + 1, p, h => leapN_lt n (leap_lt _ _ _)
theorem leap_cover {mask : Nat} (F : Full (mask + 1)) {i p e : Nat} (hi : i < mask + 1) (hp : p < 2 ^ 64) (he : e < mask + 1) : ∃ n, n ≤ mask + 13 ∧ (leapN mask n (i, p)).1 = e := by
  have h2 : (leapN mask 13 (i, p)).2 = 0 := by
    rw [leapN_pert]
    exact Nat.div_eq_of_lt (Nat.lt_of_lt_of_le hp (by decide))
  have h1 := leapN_lt (mask := mask) 13 (p := (i, p)) hi
  obtain ⟨k, hk, e1⟩ := F.reach h1 he
  refine ⟨13 + k, by omega, ?_⟩
  rw [leapN_add]
  have e2 : leapN mask 13 (i, p) = ((leapN mask 13 (i, p)).1, 0) := Prod.ext rfl h2
  rw [e2, leapN_orb, e1]
theorem bits_lt (h : Int) : SetTable.bits h < 2 ^ 64 := by
  unfold SetTable.bits
  have h1 := Int.emod_nonneg h (b := (2 ^ 64 : Int)) (by decide)
  have h2 := Int.emod_lt_of_pos h (b := (2 ^ 64 : Int)) (by decide)
  omega
def seq (t : SetTable) (p : SetTable.Probe) : Nat → SetTable.Probe
  | 0 => p
  | n + 1 => t.advance (seq t p n)
theorem seq_add (t : SetTable) (p : SetTable.Probe) (a : Nat) : ∀ b, seq t p (a + b) = seq t (seq t p a) b
  | 0 => rfl
  | b + 1 => by
    show t.advance (seq t p (a + b)) = _
    rw [seq_add t p a b]
    rfl
theorem seq_more (t : SetTable) : ∀ (n : Nat) (p : SetTable.Probe), n ≤ p.more → seq t p n = { p with j := p.j + n, more := p.more - n }
  | 0, p, _ => rfl
  | n + 1, p, h => by
    show t.advance (seq t p n) = _
    rw [seq_more t n p (by omega)]
    unfold SetTable.advance
    dsimp only
    rw [if_pos (by omega)]
    congr 1
theorem run_le (mask i : Nat) : SetTable.runEnd mask i - i ≤ 9 := by
  unfold SetTable.runEnd
  split <;> omega
def Head (t : SetTable) (p : SetTable.Probe) : Prop := p.j = p.i ∧ p.more = SetTable.runEnd t.mask p.i - p.i
theorem head_next {t : SetTable} {p : SetTable.Probe} (h : Head t p) : ∃ n, n ≤ 10 ∧ Head t (seq t p n) ∧ ((seq t p n).i, (seq t p n).perturb) = SetTable.leap t.mask p.i p.perturb := by
  refine ⟨p.more + 1, ?_, ?_⟩
  · have := run_le t.mask p.i
    rw [← h.2] at this
    omega
  · have e : seq t p (p.more + 1) = { p with j := (SetTable.leap t.mask p.i p.perturb).1, more := SetTable.runEnd t.mask (SetTable.leap t.mask p.i p.perturb).1 - (SetTable.leap t.mask p.i p.perturb).1, i := (SetTable.leap t.mask p.i p.perturb).1, perturb := (SetTable.leap t.mask p.i p.perturb).2 } := by
      show t.advance (seq t p p.more) = _
      rw [seq_more t p.more p (Nat.le_refl _)]
      unfold SetTable.advance
      dsimp only
      rw [if_neg (by omega)]
    rw [e]
    exact ⟨⟨rfl, rfl⟩, rfl⟩
theorem heads {t : SetTable} : ∀ (n : Nat) {p : SetTable.Probe}, Head t p → ∃ m, m ≤ 10 * n ∧ (seq t p m).j = (leapN t.mask n (p.i, p.perturb)).1
  | 0, p, h => ⟨0, Nat.le_refl _, h.1⟩
  | n + 1, p, h => by
    obtain ⟨a, ha, h1, h2⟩ := head_next h
    obtain ⟨b, hb, h3⟩ := heads n h1
    refine ⟨a + b, by omega, ?_⟩
    rw [seq_add, h3, h2]
    rfl
theorem start_head (t : SetTable) (h : Int) : Head t (t.probeStart h) := ⟨rfl, rfl⟩
structure TabIn (led : Bool) (t : SetTable) : Prop where
  ok : TabOk led t
  full : Full (t.mask + 1)
  odd : t.mask % 2 = 1
  le : ∀ j ∈ t.place.toList, j ≤ t.mask
  room : t.place.size ≤ t.mask
theorem place_of {xs : Array Nat} {j : Nat} (h : xs[SetTable.below xs j]? = some j) : j ∈ xs.toList := by
  obtain ⟨hlt, e⟩ := Array.getElem?_eq_some_iff.mp h
  rw [← e]
  exact Array.getElem_mem_toList hlt
theorem empty_of {led : Bool} {t : SetTable} (T : TabIn led t) {j : Nat} (h : j ∉ t.place.toList) : t.slot j = .empty := by
  unfold SetTable.slot
  dsimp only
  rw [if_neg (fun z => h (place_of (by simpa using z))), T.ok.none_]
  simp [SetTable.has]
theorem live_of {led : Bool} {t : SetTable} (T : TabIn led t) {j : Nat} (h : t.slot j ≠ .empty) : ∃ i, t.slot j = .live i ∧ i < t.place.size := by
  unfold SetTable.slot at h ⊢
  dsimp only at h ⊢
  by_cases c : (t.place[SetTable.below t.place j]? == some j) = true
  · rw [if_pos c]
    refine ⟨_, rfl, ?_⟩
    have c' : t.place[SetTable.below t.place j]? = some j := by simpa using c
    exact (Array.getElem?_eq_some_iff.mp c').1
  · rw [if_neg c, T.ok.none_] at h
    exact absurd (by simp [SetTable.has]) h
theorem some_empty {led : Bool} {t : SetTable} (T : TabIn led t) : ∃ j, j < t.mask + 1 ∧ t.slot j = .empty := by
  by_cases h : ∃ j, j < t.mask + 1 ∧ j ∉ t.place.toList
  · obtain ⟨j, h1, h2⟩ := h
    exact ⟨j, h1, empty_of T h2⟩
  · exfalso
    have key : ∀ j, ∃ i, j ≤ t.mask → i < t.place.size ∧ t.place.toList[i]? = some j := fun j => by
      by_cases hj : j ≤ t.mask
      · have hm : j ∈ t.place.toList := Classical.byContradiction fun z => h ⟨j, by omega, z⟩
        obtain ⟨i, hi, e⟩ := List.mem_iff_getElem.mp hm
        exact ⟨i, fun _ => ⟨by simpa using hi, by rw [List.getElem?_eq_getElem hi, e]⟩⟩
      · exact ⟨0, fun z => absurd z hj⟩
    obtain ⟨f, hf⟩ := Classical.axiomOfChoice key
    obtain ⟨i, j, h1, h2, h3⟩ := pigeonN t.mask f fun i hi => Nat.lt_of_lt_of_le (hf i hi).1 T.room
    have e1 := (hf i (by omega)).2
    have e2 := (hf j h2).2
    rw [h3, e2] at e1
    injection e1 with e1
    omega
theorem first_empty {led : Bool} {t : SetTable} (T : TabIn led t) (h : Int) : ∃ N, N ≤ 10 * (t.mask + 13) ∧ t.slot (seq t (t.probeStart h) N).j = .empty ∧ ∀ m, m < N → ∃ i, t.slot (seq t (t.probeStart h) m).j = .live i ∧ i < t.place.size := by
  obtain ⟨e, he, hs⟩ := some_empty T
  obtain ⟨n, hn, h1⟩ := leap_cover T.full (i := SetTable.bits h % (t.mask + 1)) (p := SetTable.bits h) (Nat.mod_lt _ (Nat.succ_pos _)) (bits_lt h) he
  obtain ⟨m, hm, h2⟩ := heads n (start_head t h)
  have h3 : (seq t (t.probeStart h) m).j = e := by rw [h2]; exact h1
  have least : ∀ (k : Nat), t.slot (seq t (t.probeStart h) k).j = .empty → ∃ N, N ≤ k ∧ t.slot (seq t (t.probeStart h) N).j = .empty ∧ ∀ m, m < N → ∃ i, t.slot (seq t (t.probeStart h) m).j = .live i ∧ i < t.place.size := by
    intro k
    induction k using Nat.strongRecOn with
    | ind k ih =>
      intro hk
      by_cases hex : ∃ m, m < k ∧ t.slot (seq t (t.probeStart h) m).j = .empty
      · obtain ⟨m, hmk, hme⟩ := hex
        obtain ⟨N, a1, a2, a3⟩ := ih m hmk hme
        exact ⟨N, by omega, a2, a3⟩
      · exact ⟨k, Nat.le_refl _, hk, fun m hmk => live_of T fun z => hex ⟨m, hmk, z⟩⟩
  obtain ⟨N, a1, a2, a3⟩ := least m (by rw [h3]; exact hs)
  exact ⟨N, by omega, a2, a3⟩
theorem run_mask {mask i : Nat} (h : i ≤ mask) : i ≤ SetTable.runEnd mask i ∧ SetTable.runEnd mask i ≤ mask := by
  unfold SetTable.runEnd
  split <;> omega
theorem seq_le (t : SetTable) (h : Int) : ∀ n, (seq t (t.probeStart h) n).j + (seq t (t.probeStart h) n).more ≤ t.mask
  | 0 => by
    have hi : SetTable.bits h % (t.mask + 1) ≤ t.mask := Nat.le_of_lt_succ (Nat.mod_lt _ (Nat.succ_pos _))
    have := run_mask hi
    show SetTable.bits h % (t.mask + 1) + (SetTable.runEnd t.mask (SetTable.bits h % (t.mask + 1)) - SetTable.bits h % (t.mask + 1)) ≤ t.mask
    omega
  | n + 1 => by
    have ih := seq_le t h n
    show (t.advance (seq t (t.probeStart h) n)).j + (t.advance (seq t (t.probeStart h) n)).more ≤ t.mask
    generalize seq t (t.probeStart h) n = p at *
    unfold SetTable.advance
    by_cases c : p.more > 0
    · rw [if_pos c]
      dsimp only
      omega
    · rw [if_neg c]
      dsimp only
      have hi := leap_lt t.mask p.i p.perturb
      have := run_mask (show (SetTable.leap t.mask p.i p.perturb).1 ≤ t.mask by omega)
      omega
theorem seq_dummy (t : SetTable) (p : SetTable.Probe) : ∀ n, (seq t p n).dummy = p.dummy
  | 0 => rfl
  | n + 1 => by
    show (t.advance (seq t p n)).dummy = _
    unfold SetTable.advance
    split
    · exact seq_dummy t p n
    · exact seq_dummy t p n
theorem probe_go2 {t : SetTable} {p0 : SetTable.Probe} {hashAt : Nat → Int} {hh : Int} {N : Nat} (h0 : p0.dummy = none) (hN : t.slot (seq t p0 N).j = .empty) (hL : ∀ m, m < N → ∃ i, t.slot (seq t p0 m).j = .live i ∧ i < t.place.size) :
    ∀ (f m : Nat), m ≤ N → N - m < f → SetTable.probe.go t hashAt hh f (seq t p0 m) = some (.empty (seq t p0 N).j none) ∨ ∃ k i, m ≤ k ∧ k < N ∧ t.slot (seq t p0 k).j = .live i ∧ i < t.place.size ∧ hashAt i = hh ∧ SetTable.probe.go t hashAt hh f (seq t p0 m) = some (.candidate (seq t p0 k).j i (seq t p0 (k + 1)))
  | 0, m, _, h => by omega
  | f + 1, m, hm, hf => by
    unfold SetTable.probe.go
    by_cases e : m = N
    · subst e
      rw [hN]
      exact .inl (by rw [seq_dummy, h0])
    · obtain ⟨i, hi, hlt⟩ := hL m (by omega)
      rw [hi]
      dsimp only
      by_cases c : (hashAt i == hh) = true
      · rw [if_pos c]
        exact .inr ⟨m, i, Nat.le_refl _, by omega, hi, hlt, by simpa using c, rfl⟩
      · rw [if_neg c]
        rcases probe_go2 (hashAt := hashAt) (hh := hh) h0 hN hL f (m + 1) (by omega) (by omega) with g | ⟨k, i', g1, g2, g3⟩
        · exact .inl g
        · exact .inr ⟨k, i', by omega, g2, g3⟩
end L2
set_option Elab.async false
set_option linter.all false
set_option maxRecDepth 100000
namespace L2
open PySem PySem.Spec PyProof.Rows PySem.W
theorem free_ok2 {mask : Nat} {owner : Array (Option Nat)} {e : Nat} (he : owner.getD e (some 0) = none) : ∀ (n f : Nat) (p : Nat × Nat), n < f → (leapN mask n p).1 = e → ∃ j, SetTable.layClean.free mask owner f p.1 p.2 = some j ∧ owner.getD j (some 0) = none
  | n, 0, p, h, _ => absurd h (Nat.not_lt_zero _)
  | n, f + 1, p, h, hp => by
    unfold SetTable.layClean.free
    cases hf : (List.range (SetTable.runEnd mask p.1 + 1 - p.1)).find? (fun k => (owner.getD (p.1 + k) (some 0)).isNone) with
    | some k =>
      refine ⟨_, rfl, ?_⟩
      have := List.find?_some hf
      simpa using this
    | none =>
      cases n with
      | zero =>
        exfalso
        have e0 : p.1 = e := hp
        have h1 := List.find?_eq_none.mp hf 0 (List.mem_range.mpr (by unfold SetTable.runEnd; split <;> omega))
        rw [Nat.add_zero, e0, he] at h1
        exact h1 rfl
      | succ n => exact free_ok2 he n f (SetTable.leap mask p.1 p.2) (by omega) hp
structure LaidAll (mask : Nat) (owner : Array (Option Nat)) (k : Nat) : Prop where
  size : owner.size = mask + 1
  has : ∀ m, m < k → ∃ j : Nat, owner[j]? = some (some m)
  lt : ∀ (j m : Nat), owner[j]? = some (some m) → m < k
  one : ∀ (j j' m : Nat), owner[j]? = some (some m) → owner[j']? = some (some m) → j = j'
theorem getD_none {owner : Array (Option Nat)} {j : Nat} (h : owner.getD j (some 0) = none) : owner[j]? = some none := by
  by_cases hj : j < owner.size
  · rw [Array.getElem?_eq_getElem hj]
    simp [Array.getD, hj] at h
    rw [h]
  · simp [Array.getD, hj] at h
theorem LaidAll.free {mask : Nat} {owner : Array (Option Nat)} {k : Nat} (L : LaidAll mask owner k) (hk : k ≤ mask) : ∃ e, e < mask + 1 ∧ owner.getD e (some 0) = none := by
  by_cases h : ∃ e, e < mask + 1 ∧ owner.getD e (some 0) = none
  · exact h
  · exfalso
    have key : ∀ j, ∃ m, j ≤ mask → m < k ∧ owner[j]? = some (some m) := fun j => by
      by_cases hj : j ≤ mask
      · have hj' : j < owner.size := by rw [L.size]; omega
        cases e : owner[j] with
        | none => exact absurd ⟨j, by omega, by simp [Array.getD, hj', e]⟩ h
        | some m =>
          have e' : owner[j]? = some (some m) := by rw [Array.getElem?_eq_getElem hj', e]
          exact ⟨m, fun _ => ⟨L.lt j m e', e'⟩⟩
      · exact ⟨0, fun z => absurd z hj⟩
    obtain ⟨f, hf⟩ := Classical.axiomOfChoice key
    obtain ⟨i, j, h1, h2, h3⟩ := pigeonN mask f fun i hi => Nat.lt_of_lt_of_le (hf i hi).1 hk
    have e1 := (hf i (by omega)).2
    have e2 := (hf j h2).2
    rw [h3] at e1
    have := L.one i j _ e1 e2
    omega
theorem LaidAll.put {mask : Nat} {owner : Array (Option Nat)} {k j : Nat} (L : LaidAll mask owner k) (hj : owner.getD j (some 0) = none) : LaidAll mask (owner.setIfInBounds j (some k)) (k + 1) := by
  have hj0 := getD_none hj
  have hlt : j < owner.size := (Array.getElem?_eq_some_iff.mp hj0).1
  have hs : ∀ i, (owner.setIfInBounds j (some k))[i]? = if j = i then some (some k) else owner[i]? := fun i => by
    rw [Array.getElem?_setIfInBounds]
    by_cases e : j = i
    · rw [if_pos e, if_pos e, if_pos (by omega)]
    · rw [if_neg e, if_neg e]
  refine ⟨by rw [Array.size_setIfInBounds]; exact L.size, fun m hm => ?_, fun i m h => ?_, fun i i' m h h' => ?_⟩
  · by_cases e : m = k
    · subst e; exact ⟨j, by rw [hs, if_pos rfl]⟩
    · obtain ⟨i, hi⟩ := L.has m (by omega)
      refine ⟨i, ?_⟩
      rw [hs, if_neg (fun z => by subst z; rw [hj0] at hi; cases hi)]
      exact hi
  · rw [hs] at h
    by_cases e : j = i
    · rw [if_pos e] at h
      cases h
      omega
    · rw [if_neg e] at h
      have := L.lt i m h
      omega
  · rw [hs] at h h'
    by_cases e : j = i
    · by_cases e' : j = i'
      · omega
      · rw [if_pos e] at h
        cases h
        rw [if_neg e'] at h'
        have := L.lt i' k h'
        omega
    · rw [if_neg e] at h
      by_cases e' : j = i'
      · rw [if_pos e'] at h'
        cases h'
        have := L.lt i k h
        omega
      · rw [if_neg e'] at h'
        exact L.one i i' m h h'
theorem layClean_ok {mask : Nat} (F : Full (mask + 1)) (hs : List Int) (hm : hs.length ≤ mask) : ∃ owner, SetTable.layClean mask hs.toArray = some owner ∧ LaidAll mask owner hs.length := by
  have key : ∀ (hs : List Int) (owner : Array (Option Nat)) (k : Nat), LaidAll mask owner k → k + hs.length ≤ mask → ∃ owner', hs.foldl (fun acc h => do
      let (owner, k) ← acc
      let j ← SetTable.layClean.free mask owner (SetTable.turns mask) (SetTable.bits h % (mask + 1)) (SetTable.bits h)
      pure (owner.setIfInBounds j (some k), k + 1)) (some (owner, k)) = some (owner', k + hs.length) ∧ LaidAll mask owner' (k + hs.length) := by
    intro hs
    induction hs with
    | nil => intro owner k L _; exact ⟨owner, rfl, L⟩
    | cons h hs ih =>
      intro owner k L hk
      rw [List.length_cons] at hk
      obtain ⟨e, he, h0⟩ := L.free (by omega)
      obtain ⟨n, hn, h1⟩ := leap_cover F (i := SetTable.bits h % (mask + 1)) (p := SetTable.bits h) (Nat.mod_lt _ (Nat.succ_pos _)) (bits_lt h) he
      obtain ⟨j, hj, hj0⟩ := free_ok2 (mask := mask) h0 n (SetTable.turns mask) (SetTable.bits h % (mask + 1), SetTable.bits h) (by unfold SetTable.turns; omega) h1
      obtain ⟨owner', a1, a2⟩ := ih (owner.setIfInBounds j (some k)) (k + 1) (L.put hj0) (by omega)
      refine ⟨owner', ?_, by rw [List.length_cons, show k + (hs.length + 1) = k + 1 + hs.length by omega]; exact a2⟩
      rw [List.foldl_cons, List.length_cons, show k + (hs.length + 1) = k + 1 + hs.length by omega, ← a1]
      congr 1
      show (do
        let j ← SetTable.layClean.free mask owner (SetTable.turns mask) (SetTable.bits h % (mask + 1)) (SetTable.bits h)
        pure (owner.setIfInBounds j (some k), k + 1)) = _
      rw [hj]
      rfl
  have L0 : LaidAll mask (Array.replicate (mask + 1) none) 0 := by
    refine ⟨Array.size_replicate, fun m h => absurd h (Nat.not_lt_zero _), fun j m h => ?_, fun j j' m h => ?_⟩
    · rw [Array.getElem?_replicate] at h
      split at h <;> cases h
    · rw [Array.getElem?_replicate] at h
      split at h <;> cases h
  obtain ⟨owner, a1, a2⟩ := key hs _ 0 L0 (by omega)
  rw [Nat.zero_add] at a1 a2
  refine ⟨owner, ?_, a2⟩
  unfold SetTable.layClean
  rw [List.foldl_toArray]
  rw [a1]
  rfl
theorem live_mem {owner : Array (Option Nat)} {l : List Nat} {j m : Nat} : (j, m) ∈ l.filterMap (fun j => (owner.getD j none).map (fun k => (j, k))) ↔ j ∈ l ∧ owner[j]? = some (some m) := by
  rw [List.mem_filterMap]
  constructor
  · rintro ⟨i, hi, e⟩
    cases ho : owner.getD i none with
    | none => rw [ho] at e; cases e
    | some k =>
      rw [ho] at e
      have e' : (i, k) = (j, m) := by simpa using e
      cases e'
      refine ⟨hi, ?_⟩
      by_cases hj : j < owner.size
      · rw [Array.getElem?_eq_getElem hj]
        simp [Array.getD, hj] at ho
        rw [ho]
      · simp [Array.getD, hj] at ho
  · rintro ⟨hj, e⟩
    obtain ⟨hlt, e1⟩ := Array.getElem?_eq_some_iff.mp e
    exact ⟨j, hj, by simp [Array.getD, hlt, e1]⟩
theorem laid_all {mask finger moves : Nat} {led plain : Bool} (F : Full (mask + 1)) (hodd : mask % 2 = 1) (hs : List Int) (hm : hs.length ≤ mask) : ∃ t o, SetTable.laid mask finger moves led plain hs.toArray = some (t, o) ∧ TabIn led t ∧ t.mask = mask ∧ t.place.size = hs.length ∧ o.toList.Perm (List.range hs.length) := by
  obtain ⟨owner, h1, L⟩ := layClean_ok F hs hm
  have hl : SetTable.laid mask finger moves led plain hs.toArray = some ({ mask, place := (((List.range (mask + 1)).filterMap fun j => (owner.getD j none).map (fun k => (j, k))).map (·.1)).toArray, dummies := #[], finger, led, moves, plain }, (((List.range (mask + 1)).filterMap fun j => (owner.getD j none).map (fun k => (j, k))).map (·.2)).toArray) := by
    unfold SetTable.laid
    rw [h1]
    rfl
  have hper : (((List.range (mask + 1)).filterMap fun j => (owner.getD j none).map (fun k => (j, k))).map (·.2)).Perm (List.range hs.length) := by
    refine (List.perm_ext_iff_of_nodup ?_ List.nodup_range).mpr fun m => ?_
    · have nd : ((List.range (mask + 1)).filterMap fun j => (owner.getD j none).map (fun k => (j, k))).Pairwise (fun a b => a.2 ≠ b.2) := by
        rw [List.pairwise_filterMap]
        refine List.nodup_range.imp_of_mem (R := (· ≠ ·)) (fun {a b} _ _ hab x hx y hy hxy => ?_)
        cases ha : owner.getD a none with
        | none => rw [ha] at hx; cases hx
        | some k =>
          rw [ha] at hx
          cases hb : owner.getD b none with
          | none => rw [hb] at hy; cases hy
          | some k' =>
            rw [hb] at hy
            have ex : x = (a, k) := by simpa using hx.symm
            have ey : y = (b, k') := by simpa using hy.symm
            subst ex ey
            have : k = k' := hxy
            subst this
            have f : ∀ {c : Nat}, owner.getD c none = some k → owner[c]? = some (some k) := fun {c} hc => by
              by_cases hj : c < owner.size
              · rw [Array.getElem?_eq_getElem hj]
                simp [Array.getD, hj] at hc
                rw [hc]
              · simp [Array.getD, hj] at hc
            exact hab (L.one a b k (f ha) (f hb))
      exact List.pairwise_map.mpr nd
    · rw [List.mem_range, List.mem_map]
      constructor
      · rintro ⟨⟨j, k⟩, h, rfl⟩
        exact L.lt j k (live_mem.mp h).2
      · intro hm'
        obtain ⟨j, hj⟩ := L.has m hm'
        refine ⟨(j, m), live_mem.mpr ⟨List.mem_range.mpr ?_, hj⟩, rfl⟩
        have := (Array.getElem?_eq_some_iff.mp hj).1
        rw [L.size] at this
        exact this
  have hT := laid_ok hl
  have hlen : ((List.range (mask + 1)).filterMap fun j => (owner.getD j none).map (fun k => (j, k))).length = hs.length := by
    have := hper.length_eq
    rw [List.length_map, List.length_range] at this
    exact this
  refine ⟨_, _, hl, ⟨hT, F, hodd, fun j hj => ?_, ?_⟩, rfl, ?_, ?_⟩
  · have hj' : j ∈ ((List.range (mask + 1)).filterMap fun j => (owner.getD j none).map (fun k => (j, k))).map (·.1) := by simpa using hj
    obtain ⟨⟨a, b⟩, h, rfl⟩ := List.mem_map.mp hj'
    have := List.mem_range.mp (live_mem.mp h).1
    show a ≤ mask
    omega
  · dsimp only
    rw [List.size_toArray, List.length_map]
    exact Nat.le_trans (Nat.le_of_eq hlen) hm
  · dsimp only
    rw [List.size_toArray, List.length_map]
    exact hlen
  · simpa using hper
end L2
set_option Elab.async false
set_option linter.all false
set_option maxRecDepth 100000
namespace L2
open PySem PySem.Spec PyProof.Rows PySem.W
section
variable {prog : Program} {w : World} {A : Around} {E : Value → Shared → Prop} {s : Shared}
end
end L2
set_option Elab.async false
set_option linter.all false
set_option maxRecDepth 100000
namespace L2
open PySem PySem.Spec PyProof.Rows PySem.W
abbrev ledOf (w : World) : Bool := !(w.params.followText "set-order")
section
variable {prog : Program} {w : World} {A : Around} {E : Value → Shared → Prop} {R : Result → Shared → Prop}
end
end L2
namespace PySem
section
variable {prog : Program} {w : World} {A : Around} {E : Value → Shared → Prop} {s : Shared}
theorem set_new_led (a : Value) {Q₁ : Value → Shared → Prop}
    (h : Q₁ (.ref s.heap.objs.size) { s with heap := s.heap.push { cls := .type "set", dict := none, data := .set #[] 0 (.fresh 0 0 (L2.ledOf w)) } }) :
    codeAny (model prog w) A (.call (.builtin "set.__new__") ⟨[.type "set", a], []⟩) (wants Q₁ E) s := by
  refine codeAny_of_tree ?_
  show wpAny _ A.in1 (do checkBuiltinCall "set.__new__" ⟨[.type "set", a], []⟩; again (.builtin "set.__new__" ⟨[.type "set", a], []⟩)) _ _ s
  refine wpAny_bind (wpAny_of_eq (F.newCall_set_1 a) (wpAny_pure ⟨plainId_quiet F.plain_set_new _, codeAny_builtin F.entry_set_new ?_⟩))
  rw [Around.under_plainId F.plain_set_new _]
  unfold Builtin.«set.__new__» Builtin.Frozenset.newClass
  have hsub := sub_set_self
  obtain ⟨hp, g, d, tk, os⟩ := s
  dsimp only
  wp_walk
  refine wpAny_askSetting (wpAny_pure ?_)
  dsimp only
  simp only [newObj]
  refine wpAny_bind (wpAny_alloc (wpAny_pure ?_))
  exact wpAny_pure h
end
end PySem
set_option Elab.async false
set_option linter.all false
set_option maxRecDepth 100000
set_option maxHeartbeats 2000000
namespace L2
open PySem PySem.Spec PyProof.Rows PySem.W
section
variable {prog : Program} {w : World} {K : Type} [DecidableEq K] {knd : KeyKind prog w K} {A : Around} {E : Value → Shared → Prop} {s : Shared}
theorem ofClass_byValue (n : Nat) {v : Value} (h : carriedByValue v = true) : ofAClassStatement n v = pure false := by
  cases v with
  | ref a => simp [carriedByValue] at h
  | _ => first | rfl | (unfold ofAClassStatement; rfl)
theorem hashBy_byValue (n : Nat) {v : Value} (h : carriedByValue v = true) : ∃ b, hashByValue n v = pure b := by
  cases v with
  | ref a => simp [carriedByValue] at h
  | _ => first | exact ⟨_, rfl⟩ | (unfold hashByValue; exact ⟨_, rfl⟩) | (cases n <;> exact ⟨_, rfl⟩)
theorem ofClass_tuple {ks : List K} {a : Addr} {Q : Bool → Shared → Prop} (hk : IsTupleKey knd s.heap ks a) (h : Q false s) : wpAny (model prog w) A (ofAClassStatement 8 (.ref a)) Q E s := by
  have hT := hk.typeIs
  obtain ⟨o, items, n, ho, _, hd, hi⟩ := hk
  unfold ofAClassStatement
  refine wpAny_bind (wpAny_typeOf hT ?_)
  dsimp only
  refine wpAny_bind ?_
  refine wpAny_pure ?_
  simp only [Bool.not_true, Bool.false_eq_true, if_false]
  refine wpAny_bind (wpAny_seqItems ho hd ?_)
  dsimp only
  refine wpAny_bind ?_
  rw [← Array.forIn_toList]
  refine wpAny_forIn_list _ (fun rest r s' => r.1 = none ∧ s' = s ∧ ∀ v ∈ rest, carriedByValue v = true) _ ?_ ?_ _ _ ⟨rfl, rfl, hi.byValue⟩
  · rintro v rest r s' ⟨hr, rfl, hall⟩
    rw [ofClass_byValue _ (hall v List.mem_cons_self)]
    refine wpAny_bind (wpAny_pure ?_)
    simp only [Bool.false_eq_true, if_false]
    exact wpAny_pure ⟨rfl, rfl, fun u hu' => hall u (List.mem_cons_of_mem _ hu')⟩
  · rintro ⟨r1, r2⟩ s' ⟨hr, rfl, _⟩
    simp only at hr
    subst hr
    exact wpAny_pure h
theorem hashBy_tuple {ks : List K} {a : Addr} {Q : Bool → Shared → Prop} (hk : IsTupleKey knd s.heap ks a) (h : ∀ b, Q b s) : wpAny (model prog w) A (hashByValue 8 (.ref a)) Q E s := by
  have hT := hk.typeIs
  obtain ⟨o, items, n, ho, _, hd, hi⟩ := hk
  unfold hashByValue
  refine wpAny_bind (wpAny_specialOf hT F.slot_tuple_hash.lookup ?_)
  refine wpAny_bind (wpAny_seqItems ho hd ?_)
  refine wpAny_bind ?_
  show wpAny _ _ (forIn items _ _) _ _ s
  rw [← Array.forIn_toList]
  refine wpAny_forIn_list _ (fun rest r s' => s' = s ∧ ∀ v ∈ rest, carriedByValue v = true) _ ?_ ?_ _ _ ⟨rfl, hi.byValue⟩
  · rintro v rest r s' ⟨rfl, hall⟩
    obtain ⟨b, hb⟩ := hashBy_byValue 7 (hall v List.mem_cons_self)
    rw [hb]
    refine wpAny_bind (wpAny_pure ?_)
    cases b with
    | true =>
      simp only [Bool.not_true, Bool.false_eq_true, if_false]
      exact wpAny_pure ⟨rfl, fun u hu' => hall u (List.mem_cons_of_mem _ hu')⟩
    | false =>
      simp only [Bool.not_false, if_true]
      refine wpAny_pure ?_
      first | exact wpAny_pure (h _) | exact h _
  · rintro ⟨r1, r2⟩ s' ⟨rfl, _⟩
    cases r1 with
    | none => exact wpAny_pure (h _)
    | some r => exact wpAny_pure (h _)
def ElT (knd : KeyKind prog w K) (h : Heap) (L : List (List K)) (e : Int × Value) : Prop := ∃ k b, e.2 = .ref b ∧ IsTupleKey knd h k b ∧ k ∈ L
theorem noSee {ks : List K} {a : Addr} {Q : Bool → Shared → Prop} (hk : IsTupleKey knd s.heap ks a) (stored : List Value) (hs : ∀ v ∈ stored, ∃ k b, v = .ref b ∧ IsTupleKey knd s.heap k b) (h : Q false s) : wpAny (model prog w) A (searchCouldBeSeen (.ref a) stored) Q E s := by
  unfold searchCouldBeSeen
  refine wpAny_bind ?_
  refine wpAny_forIn_list _ (fun rest r s' => r.1 = none ∧ s' = s ∧ ∀ v ∈ rest, ∃ k b, v = .ref b ∧ IsTupleKey knd s.heap k b) _ ?_ ?_ _ _ ⟨rfl, rfl, hs⟩
  · rintro v rest r s' ⟨hr, rfl, hall⟩
    obtain ⟨k, b, rfl, hb⟩ := hall v List.mem_cons_self
    have go : ∀ u ∈ rest, ∃ k b, u = Value.ref b ∧ IsTupleKey knd s'.heap k b := fun u hu' => hall u (List.mem_cons_of_mem _ hu')
    dsimp only
    split
    · exact wpAny_pure ⟨rfl, rfl, go⟩
    · refine wpAny_bind (wpAny_eqIsQuiet_tuple hk ?_)
      simp only [Bool.not_true, Bool.false_eq_true, if_false]
      refine wpAny_bind (wpAny_eqIsQuiet_tuple hb ?_)
      simp only [Bool.not_true, Bool.false_eq_true, if_false]
      refine wpAny_bind (ofClass_tuple hk ?_)
      simp only [Bool.false_eq_true, if_false]
      refine wpAny_bind (ofClass_tuple hb ?_)
      simp only [Bool.false_eq_true, if_false]
      exact wpAny_pure ⟨rfl, rfl, go⟩
  · rintro ⟨r1, r2⟩ s' ⟨hr, rfl, _⟩
    simp only at hr
    subst hr
    exact wpAny_pure h
theorem search_new {ks : List K} {a x : Addr} {hh : Int} {es : Array (Int × Value)} {ep : Nat} {t : SetTable} {led : Bool} {L : List (List K)} {Q : SetFound → Shared → Prop} (hu : A.units < cLine) (hk : IsTupleKey knd s.heap ks x) (hn : ks ∉ L)
    (ho : s.heap.get? a = some { cls := .type "set", dict := none, data := .set es ep t }) (hf : t.fits es.size = true) (T : TabIn led t) (hsz : t.place.size = es.size) (hel : ∀ e ∈ es.toList, ElT knd s.heap L e) (hmask : t.mask ≤ 511)
    (h : ∀ j, t.slot j = .empty → j ≤ t.mask → Q (.free j false) s) : wpAny (model prog w) A (setSearch a (.ref x) hh (adding := true)) Q E s := by
  obtain ⟨N, hN, hNe, hNl⟩ := first_empty T hh
  have key : ∀ (fuel m : Nat) (st : Option SetTable.Probe), m ≤ N → N - m < fuel → st.getD (t.probeStart hh) = seq t (t.probeStart hh) m → wpAny (model prog w) A (setSearchFrom a (.ref x) hh true fuel st) Q E s := by
    intro fuel
    induction fuel with
    | zero => intro m st _ h0; omega
    | succ fuel ih =>
      intro m st hm hfu hst
      unfold setSearchFrom
      refine wpAny_bind (wpAny_setState_of ho rfl hf ?_)
      dsimp only
      have hg : t.gaveWay = false := by
        unfold SetTable.gaveWay
        rw [T.odd]
        rfl
      rw [hg]
      simp only [Bool.false_eq_true, if_false]
      rw [hst]
      unfold SetTable.probe
      have hP := fun hashAt => probe_go2 (hashAt := hashAt) (hh := hh) (p0 := t.probeStart hh) rfl hNe hNl (10 * SetTable.turns t.mask) m hm (by unfold SetTable.turns; omega)
      split
      · next met hmet =>
        rcases hP _ with g | ⟨k, i, g1, g2, g3, g4, g5, g6⟩
        · rw [g] at hmet
          cases hmet
          exact wpAny_pure (h _ hNe (by have := seq_le t hh N; omega))
        · rw [g6] at hmet
          cases hmet
          dsimp only
          have hi : i < es.size := by omega
          obtain ⟨k', b, eb, hkb, hkL⟩ := hel es[i] (Array.getElem_mem_toList hi)
          have hne : k' ≠ ks := fun z => hn (by rw [← z]; exact hkL)
          have hgi : es[i]? = some es[i] := Array.getElem?_eq_getElem hi
          have hel' : ∀ v ∈ ((es.filter (·.1 == hh)).toList.map (·.2)), ∃ k b, v = Value.ref b ∧ IsTupleKey knd s.heap k b := fun v hv => by
            obtain ⟨e, he, rfl⟩ := List.mem_map.mp hv
            have he' : e ∈ es.toList := by
              have := Array.mem_toList_iff.mp he
              exact Array.mem_toList_iff.mpr (Array.mem_filter.mp this).1
            obtain ⟨k2, b2, e2, h2, _⟩ := hel e he'
            exact ⟨k2, b2, e2, h2⟩
          cases hled : t.led
          case' true => simp only [Bool.not_true, Bool.false_eq_true, if_false]
          case' false =>
            simp only [Bool.not_false, if_true]
            refine wpAny_bind (noSee hk _ hel' ?_)
            simp only [Bool.false_eq_true, if_false]
          all_goals
            rw [hgi]
            generalize es[i] = e at *
            obtain ⟨e1, e2⟩ := e
            dsimp only at eb
            subst eb
            dsimp only
            refine wpAny_bind (wpAny_holding (wpAny_eqBool_tuple hu hkb hk ?_))
            rw [decide_eq_false hne]
            refine wpAny_bind (wpAny_setState_of ho rfl hf ?_)
            dsimp only
            simp only [Bool.and_false, Bool.false_eq_true, if_false]
            have hsm : t.sameMemory t.moves t.mask = some true := by
              unfold SetTable.sameMemory
              simp
            rw [hsm]
            dsimp only
            simp only [if_true]
            rw [g3]
            dsimp only
            rw [hgi]
            dsimp only
            refine wpAny_bind ?_
            unfold isSame
            dsimp only
            simp only [beq_self_eq_true, if_true]
            refine wpAny_pure ?_
            refine wpAny_bind (wpAny_pure ?_)
            simp only [if_true]
            exact ih (k + 1) _ (by omega) (by omega) rfl
      · next hmet =>
        rcases hP _ with g | ⟨k, i, g1, g2, g3, g4, g5, g6⟩
        · rw [g] at hmet; exact absurd hmet (by simp)
        · rw [g6] at hmet; exact absurd hmet (by simp)
  exact key 100000 0 none (Nat.zero_le _) (by omega) rfl
end
end L2
set_option Elab.async false
set_option linter.all false
set_option maxRecDepth 100000
set_option maxHeartbeats 2000000
namespace L2
open PySem PySem.Spec PyProof.Rows PySem.W
section
variable {prog : Program} {w : World} {K : Type} [DecidableEq K] {knd : KeyKind prog w K} {A : Around} {E : Value → Shared → Prop} {s : Shared}
def Msk (n mask : Nat) : Prop := (mask = 7 ∧ n ≤ 4) ∨ (mask = 31 ∧ n ≤ 18) ∨ (mask = 127 ∧ n ≤ 76)
def TSetAt (knd : KeyKind prog w K) (h : Heap) (a : Addr) (led : Bool) (L : List (List K)) : Prop := ∃ (es : Array (Int × Value)) (ep : Nat) (t : SetTable), h.get? a = some { cls := .type "set", dict := none, data := .set es ep t } ∧ (∀ e ∈ es.toList, ElT knd h L e) ∧ es.size = L.length ∧ TabIn led t ∧ t.place.size = es.size ∧ Msk es.size t.mask
theorem msk_fits {n : Nat} {led : Bool} {t : SetTable} (T : TabIn led t) (hp : t.place.size = n) (hm : n ≤ t.mask) : t.fits n = true := by
  unfold SetTable.fits SetTable.fill
  rw [T.ok.none_, hp]
  simpa using hm
theorem Msk.le {n mask : Nat} (h : Msk n mask) : n ≤ mask ∧ n + 1 ≤ mask ∧ mask ≤ 127 := by unfold Msk at h; omega
theorem isKey_but {h h' : Heap} {a b : Addr} {ks : List K} {es : Array (Int × Value)} {ep : Nat} {t : SetTable} (ho : h.get? a = some { cls := .type "set", dict := none, data := .set es ep t }) (sb : Heap.SameBut a h h') (x : IsTupleKey knd h ks b) : IsTupleKey knd h' ks b := by
  obtain ⟨o, its, n, e1, e2, e3⟩ := x
  have : b ≠ a := by
    rintro rfl
    rw [ho] at e1
    cases e1
    injection e2 with e2
    exact absurd e2 (by decide)
  exact ⟨o, its, n, (sb.2 b this).trans e1, e2, e3⟩
theorem tab_plain {led : Bool} {t : SetTable} (T : TabIn led t) (b : Bool) : TabIn led (if b = true then t else { t with plain := false }) := by
  cases b
  · exact ⟨⟨T.ok.led_, T.ok.none_, T.ok.up⟩, T.full, T.odd, T.le, T.room⟩
  · exact T
theorem plain_mask {t : SetTable} (b : Bool) : (if b = true then t else { t with plain := false }).mask = t.mask ∧ (if b = true then t else { t with plain := false }).place = t.place ∧ (if b = true then t else { t with plain := false }).dummies = t.dummies := by cases b <;> exact ⟨rfl, rfl, rfl⟩
theorem tset_add {ks : List K} {a x : Addr} {hh : Int} {led : Bool} {L : List (List K)} {Q : Bool → Shared → Prop} (hu : A.units < cLine) (hk : IsTupleKey knd s.heap ks x) (hn : ks ∉ L) (hS : TSetAt knd s.heap a led L) (hroom : L.length + 1 ≤ 70)
    (h : ∀ h', Heap.SameBut a s.heap h' → TSetAt knd h' a led (L ++ [ks]) → Q true { s with heap := h' }) : wpAny (model prog w) A (setAddHashed a (.ref x) hh) Q E s := by
  obtain ⟨es, ep, t, ho, hel, hsz, T, hpl, M⟩ := hS
  obtain ⟨m1, m2, m3⟩ := M.le
  have hf := msk_fits T hpl m1
  unfold setAddHashed setAddHashedIn
  refine wpAny_holding (wpAny_bind (wpAny_setState_of ho rfl hf ?_))
  dsimp only
  have hbs : byScan (.ref x) es = false := by unfold byScan; rfl
  rw [hbs]
  simp only [Bool.false_eq_true, if_false]
  refine wpAny_bind (search_new hu hk hn ho hf T hpl hel (by omega) fun j hj hjm => ?_)
  dsimp only
  refine wpAny_bind (wpAny_setState_of ho rfl hf ?_)
  dsimp only
  have hne : t.place[SetTable.below t.place j]? ≠ some j := by
    intro z
    unfold SetTable.slot at hj
    dsimp only at hj
    rw [if_pos (by rw [z]; simp)] at hj
    cases hj
  have hput := put_ok T.ok hne
  have hpm : (t.put j).1.mask = t.mask := rfl
  have hpp : (t.put j).1.place = SetTable.insertAt t.place (SetTable.below t.place j) j := rfl
  have hpz : (t.put j).1.place.size = es.size + 1 := by
    rw [hpp, ← Array.length_toList, SetTable.toList_insertAt, List.length_append, List.length_cons, List.length_take, List.length_drop]
    have := (below_ok T.ok.up j).1
    rw [Array.length_toList]
    omega
  have hTp : TabIn led (t.put j).1 := by
    refine ⟨hput, by rw [hpm]; exact T.full, by rw [hpm]; exact T.odd, fun i hi => ?_, by rw [hpm, hpz]; exact m2⟩
    rw [hpp, SetTable.toList_insertAt] at hi
    rcases List.mem_append.mp hi with hi | hi
    · exact T.le i (List.mem_of_mem_take hi)
    · rcases List.mem_cons.mp hi with rfl | hi
      · exact hjm
      · exact T.le i (List.mem_of_mem_drop hi)
  have hp2 : (t.put j).2 = SetTable.below t.place j := rfl
  generalize t.put j = PT at *
  obtain ⟨t1, p⟩ := PT
  dsimp only at hpm hpp hpz hTp hp2 hput ⊢
  have hes : (SetTable.insertAt es p (hh, Value.ref x)).toList = es.toList.take p ++ (hh, Value.ref x) :: es.toList.drop p := SetTable.toList_insertAt _ _ _
  have hesz : (SetTable.insertAt es p (hh, Value.ref x)).size = es.size + 1 := by
    rw [← Array.length_toList, hes, List.length_append, List.length_cons, List.length_take, List.length_drop, Array.length_toList]
    have := (below_ok T.ok.up j).1
    omega
  have hel1 : ∀ e ∈ (SetTable.insertAt es p (hh, Value.ref x)).toList, ElT knd s.heap (L ++ [ks]) e := fun e he => by
    rw [hes] at he
    rcases List.mem_append.mp he with he | he
    · obtain ⟨k, b, h1, h2, h3⟩ := hel e (List.mem_of_mem_take he)
      exact ⟨k, b, h1, h2, List.mem_append_left _ h3⟩
    · rcases List.mem_cons.mp he with rfl | he
      · exact ⟨ks, x, rfl, hk, List.mem_append_right _ (List.mem_singleton.mpr rfl)⟩
      · obtain ⟨k, b, h1, h2, h3⟩ := hel e (List.mem_of_mem_drop he)
        exact ⟨k, b, h1, h2, List.mem_append_left _ h3⟩
  generalize SetTable.insertAt es p (hh, Value.ref x) = es1 at *
  have fin : ∀ t2 : SetTable, TabIn led t2 → t2.mask = t.mask → t2.place.size = es.size + 1 → t2.dummies = #[] → wpAny (model prog w) A (do
      storeSet a es1 t2
      if (!false && t2.tooFull) = true then setRelay a (SetTable.grown (es.size + 1))
      pure true) Q E s := by
    intro t2 T2 hm2 hz2 hd2
    refine wpAny_bind (wpAny_storeSet_of ho rfl ?_ (by rw [hesz]; exact fits_of_scanBound (by show es.size + 1 < 4096; omega)))
    have sb1 := Heap.SameBut.update s.heap a (Obj.putSet es1 t2)
    have hg : (s.heap.update a (Obj.putSet es1 t2)).get? a = some { cls := .type "set", dict := none, data := .set es1 (ep + 1) t2 } := by
      have := Heap.get?_update_self (Obj.putSet es1 t2) ho (by rw [putSet_of es1 t2 rfl]; rfl)
      rw [putSet_of es1 t2 rfl] at this
      exact this
    generalize s.heap.update a (Obj.putSet es1 t2) = h1 at *
    have hel2 : ∀ e ∈ es1.toList, ElT knd h1 (L ++ [ks]) e := fun e he => by
      obtain ⟨k, b, e1, e2, e3⟩ := hel1 e he
      exact ⟨k, b, e1, isKey_but ho sb1 e2, e3⟩
    have hL : (L ++ [ks]).length = es.size + 1 := by rw [List.length_append, hsz]; rfl
    cases hful : t2.tooFull with
    | false =>
      simp only [Bool.not_false, Bool.and_false, Bool.false_eq_true, if_false]
      refine wpAny_bind (wpAny_pure (wpAny_pure (h h1 sb1 ⟨es1, ep + 1, t2, hg, hel2, by rw [hesz, hL], T2, by rw [hz2, hesz], ?_⟩)))
      unfold SetTable.tooFull SetTable.fill at hful
      rw [hd2, hz2, hm2] at hful
      simp at hful
      rw [hesz, hm2]
      unfold Msk at M ⊢
      omega
    | true =>
      simp only [Bool.not_false, Bool.and_self, if_true]
      have hful' : t.mask * 3 ≤ (es.size + 1) * 5 := by
        unfold SetTable.tooFull SetTable.fill at hful
        rw [hd2, hz2, hm2] at hful
        simpa using hful
      obtain ⟨mk, hmk, hfull, hodd, hgt, hM⟩ : ∃ mk, SetTable.sizeAbove (SetTable.grown (es.size + 1)) = mk + 1 ∧ Full (mk + 1) ∧ mk % 2 = 1 ∧ es.size + 1 ≤ mk ∧ Msk (es.size + 1) mk := by
        unfold Msk at M
        have hc : es.size + 1 = 5 ∨ es.size + 1 = 19 := by omega
        rcases hc with c | c
        · rw [c]; exact ⟨31, by decide +kernel, full32, rfl, by decide, .inr (.inl ⟨rfl, by decide⟩)⟩
        · rw [c]; exact ⟨127, by decide +kernel, full128, rfl, by decide, .inr (.inr ⟨rfl, by decide⟩)⟩
      have hf1 : t2.fits es1.size = true := msk_fits T2 (by rw [hz2, hesz]) (by rw [hesz, hm2]; exact m2)
      unfold setRelay
      refine wpAny_bind (wpAny_bind (wpAny_setState_of (s := { s with heap := h1 }) hg rfl hf1 ?_))
      dsimp only
      have hsl : ¬ SetTable.sizeAbove (SetTable.grown (es.size + 1)) > sizeLine := by
        rw [hmk, sizeLine_eq]
        have := hM.le
        omega
      simp only [if_neg hsl]
      have hlen : (es1.toList.map (·.1)).length = es.size + 1 := by rw [List.length_map, Array.length_toList, hesz]
      obtain ⟨t3, o, l1, T3, l3, l4, l5⟩ := laid_all (finger := t2.finger) (moves := t2.movedTo mk) (led := t2.led) (plain := t2.plain) hfull hodd (es1.toList.map (·.1)) (by rw [hlen]; exact hgt)
      have e2 : t2.relaid (es1.map (·.1)) (SetTable.grown (es.size + 1)) = some (t3, o) := by
        unfold SetTable.relaid
        rw [hmk, Nat.add_sub_cancel]
        have : es1.map (·.1) = (es1.toList.map (·.1)).toArray := by rw [← Array.toList_map, Array.toArray_toList]
        rw [this]
        exact l1
      rw [e2]
      rw [hlen] at l4 l5
      have hper : (o.filterMap (es1[·]?)).toList.Perm es1.toList := by
        rw [Array.toList_filterMap]
        refine (l5.filterMap _).trans (List.Perm.of_eq ?_)
        apply List.ext_getElem?
        intro i
        have key : ∀ n, n ≤ es1.size → (List.range n).filterMap (fun i => es1[i]?) = es1.toList.take n := by
          intro n
          induction n with
          | zero => intro _; rfl
          | succ n ih =>
            intro hn
            rw [List.range_succ, List.filterMap_append, ih (by omega), List.take_succ]
            congr 1
            simp [show n < es1.size by omega]
        rw [key _ (by omega), ← hesz, ← Array.length_toList, List.take_length]
      have hsz3 : (o.filterMap (es1[·]?)).size = es1.size := by rw [← Array.length_toList, hper.length_eq, Array.length_toList]
      refine wpAny_bind ?_
      show wpAny (model prog w) A (if ((o.filterMap (es1[·]?)).size != es1.size) = true then _ else _) _ E _
      rw [if_neg (by rw [hsz3]; simp)]
      refine wpAny_pure ?_
      dsimp only
      refine wpAny_storeSet_of (s := { s with heap := h1 }) hg rfl ?_ (by rw [hsz3, hesz]; exact fits_of_scanBound (by show es.size + 1 < 4096; omega))
      generalize o.filterMap (es1[·]?) = es3 at *
      have sb2 := Heap.SameBut.update h1 a (Obj.putSet es3 t3)
      have hg3 : (h1.update a (Obj.putSet es3 t3)).get? a = some { cls := .type "set", dict := none, data := .set es3 (ep + 1 + 1) t3 } := by
        have := Heap.get?_update_self (Obj.putSet es3 t3) hg (by rw [putSet_of es3 t3 rfl]; rfl)
        rw [putSet_of es3 t3 rfl] at this
        exact this
      rw [T2.ok.led_] at T3
      refine wpAny_pure (h _ (sb1.trans sb2) ⟨es3, ep + 1 + 1, t3, hg3, fun e he => ?_, by rw [hsz3, hesz, hL], T3, by rw [l4, hsz3, hesz], by rw [hsz3, hesz, l3]; exact hM⟩)
      obtain ⟨k, b, e1, e2, e3⟩ := hel2 e (hper.mem_iff.mp he)
      exact ⟨k, b, e1, isKey_but hg sb2 e2, e3⟩
  have hd1 : t1.dummies = #[] := hTp.ok.none_
  cases hpn : t1.plain with
  | false =>
    simp only [Bool.false_eq_true, if_false]
    try refine wpAny_bind (wpAny_pure ?_)
    try simp only [if_true]
    exact fin t1 hTp hpm hpz hd1
  | true =>
    simp only [if_true]
    refine wpAny_bind (hashBy_tuple hk fun b => ?_)
    obtain ⟨q1, q2, q3⟩ := plain_mask (t := t1) b
    exact fin _ (tab_plain hTp b) (by rw [q1]; exact hpm) (by rw [q2]; exact hpz) (by rw [q3]; exact hd1)
end
end L2
set_option Elab.async false
set_option linter.all false
set_option maxRecDepth 100000
namespace PySem
namespace F
end F
end PySem
namespace L2
open PySem PySem.Spec PyProof.Rows PySem.W
section
variable {prog : Program} {w : World} {A : Around} {E : Value → Shared → Prop} {s : Shared}
end
end L2
set_option Elab.async false
set_option linter.all false
set_option maxRecDepth 100000
namespace L2
open PySem PySem.Spec PyProof.Rows PySem.W
section
variable {prog : Program} {w : World} {A : Around} {E : Value → Shared → Prop} {s : Shared}
end
end L2
set_option Elab.async false
set_option linter.all false
set_option maxRecDepth 100000
namespace L2
open PySem PySem.Spec PySem.Calls PyProof.Rows PySem.W
section
variable {prog : Program} {w : World} {A : Around} {E : Value → Shared → Prop} {s : Shared}
end
end L2
set_option Elab.async false
set_option linter.all false
set_option maxRecDepth 100000
set_option maxHeartbeats 3200000
namespace L2
open PySem PySem.Spec PyProof.Rows PySem.W
section
variable {prog : Program} {w : World} {K : Type} [DecidableEq K] {knd : KeyKind prog w K} {A : Around} {E : Value → Shared → Prop} {R : Result → Shared → Prop}
def TupsAt (knd : KeyKind prog w K) (h : Heap) (its : List Value) (kss : List (List K)) : Prop := its.length = kss.length ∧ ∀ (i : Nat) v k, its[i]? = some v → kss[i]? = some k → ∃ b, v = .ref b ∧ IsTupleKey knd h k b
theorem TupsAt.kept {h h' : Heap} {its : List Value} {kss : List (List K)} {S it : Addr} (x : TupsAt knd h its kss) (hS : ∀ o, h.get? S = some o → o.cls ≠ .type "tuple") (hI : ∀ o, h.get? it = some o → o.cls ≠ .type "tuple") (k : ∀ b o, b ≠ S → b ≠ it → h.get? b = some o → h'.get? b = some o) : TupsAt knd h' its kss := by
  refine ⟨x.1, fun i v kk e1 e2 => ?_⟩
  obtain ⟨b, e, o, its, n, h1, h2, h3⟩ := x.2 i v kk e1 e2
  exact ⟨b, e, o, its, n, k b o (fun z => hS o (by rw [← z]; exact h1) h2) (fun z => hI o (by rw [← z]; exact h1) h2) h1, h2, h3⟩
theorem tset_loop {S it l : Addr} {led : Bool} {its : List Value} {kss : List (List K)} (hh : A.handled = none) (hu : A.in1.units < cLine) (nd : kss.Nodup) (hSl : S ≠ l) (hSi : S ≠ it) (hli : l ≠ it) (hz : kss.length ≤ 69) :
    ∀ (k i : Nat) (s : Shared), i + k = kss.length → s.heap.IsListIter it l i → s.heap.IsList l its.toArray → TupsAt knd s.heap its kss → TSetAt knd s.heap S led (kss.take i) →
      (∀ h' tk, (∀ b o, b ≠ S → b ≠ it → s.heap.get? b = some o → h'.get? b = some o) → TSetAt knd h' S led kss → R (.ok (.ret .none)) { s with heap := h', toks := tk }) →
      codeAny (model prog w) A (.builtin "set.update.loop" ⟨[.ref S, .ref it], []⟩) R s := by
  intro k
  induction k with
  | zero =>
    intro i s hk hit ht hT hS hR
    have hl := hT.1
    refine codeAny_builtin F.entry_set_update_loop ?_
    rw [Around.under_plainId F.plain_set_update_loop _]
    show wpAny _ A.in1 (pyNext (.ref it) >>= _) _ _ s
    refine wpAny_bind (wpAny_pyNext_list_end (A := A.in1) hh hit ht (by simp; omega) fun h1 he1 => ?_)
    show wpAny _ A.in1 (ret Value.none) _ _ _
    refine wpAny_pure ?_
    rw [show kss.take i = kss from List.take_of_length_le (by omega)] at hS
    refine hR h1 s.toks (fun b o _ hb e => he1 b o hb e) ?_
    obtain ⟨es, ep, t, e, h1', r⟩ := hS
    refine ⟨es, ep, t, he1 S _ hSi e, fun e he => ?_, r⟩
    obtain ⟨kk, b, e1, ⟨o, its', n, e2, e3⟩, e4⟩ := h1' e he
    refine ⟨kk, b, e1, ⟨o, its', n, he1 b o (fun z => ?_) e2, e3⟩, e4⟩
    obtain ⟨oi, z1, z2, _⟩ := hit
    rw [z, z1] at e2
    cases e2
    rw [e3.1] at z2
    injection z2 with z2
    exact absurd z2 (by decide)
  | succ k ih =>
    intro i s hk hit ht hT hS hR
    have hl := hT.1
    have hlt : i < kss.length := by omega
    have hgi : its.toArray[i]? = some its[i] := by simp [hl, hlt]
    obtain ⟨b, et, hkb⟩ := hT.2 i its[i] kss[i] (by simp [hl, hlt]) (List.getElem?_eq_getElem hlt)
    refine codeAny_builtin F.entry_set_update_loop ?_
    rw [Around.under_plainId F.plain_set_update_loop _]
    show wpAny _ A.in1 (pyNext (.ref it) >>= _) _ _ s
    refine wpAny_bind (wpAny_pyNext_list_item hit ht hgi fun h1 hit1 hs1 => ?_)
    have hitc : ∀ o, s.heap.get? it = some o → o.cls ≠ .type "tuple" := fun o e z => by
      obtain ⟨oi, z1, z2, _⟩ := hit
      rw [z1] at e
      cases e
      rw [z] at z2
      injection z2 with z2
      exact absurd z2 (by decide)
    have hSc : ∀ o, s.heap.get? S = some o → o.cls ≠ .type "tuple" := fun o e z => by
      obtain ⟨es, ep, t, e', _⟩ := hS
      rw [e'] at e
      cases e
      injection z with z
      exact absurd z (by decide)
    have ht1 : h1.IsList l its.toArray := ht.extBut hs1.extBut hli
    have k1 : ∀ b o, b ≠ it → s.heap.get? b = some o → h1.get? b = some o := fun b o hb e => (hs1.2 b hb).trans e
    have hT1 : TupsAt knd h1 its kss := hT.kept hSc hitc fun b o _ hb e => k1 b o hb e
    have hkb1 : IsTupleKey knd h1 kss[i] b := by
      obtain ⟨o, its', n, e1, e2, e3⟩ := hkb
      exact ⟨o, its', n, k1 b o (fun z => hitc o (by rw [← z]; exact e1) e2) e1, e2, e3⟩
    have hS1 : TSetAt knd h1 S led (kss.take i) := by
      obtain ⟨es, ep, t, e, h1', r⟩ := hS
      refine ⟨es, ep, t, k1 S _ hSi e, fun e he => ?_, r⟩
      obtain ⟨kk, b, e1, ⟨o, its', n, e2, e3⟩, e4⟩ := h1' e he
      exact ⟨kk, b, e1, ⟨o, its', n, k1 b o (fun z => hitc o (by rw [← z]; exact e2) e3.1) e2, e3⟩, e4⟩
    rw [et]
    show wpAny _ A.in1 (holding [Value.ref b] (setAdd S (.ref b)) >>= _) _ _ _
    refine wpAny_bind (wpAny_holding ?_)
    unfold setAdd
    refine wpAny_holding ?_
    refine wpAny_bind (wpAny_pyHash_tuple (s := { s with heap := h1 }) hu hkb1 ?_)
    have hnew : kss[i] ∉ kss.take i := by
      intro hm
      obtain ⟨j, hj, e⟩ := List.mem_iff_getElem.mp hm
      rw [List.length_take] at hj
      rw [List.getElem_take] at e
      have := (List.getElem_inj nd).mp e
      omega
    refine tset_add (s := { s with heap := h1, toks := s.toks + (kss[i].length + 1) }) hu hkb1 hnew hS1 (by rw [List.length_take]; omega) fun h2 hs2 hS2 => ?_
    have e2 : kss.take (i + 1) = kss.take i ++ [kss[i]] := by rw [List.take_succ, List.getElem?_eq_getElem hlt]; rfl
    rw [← e2] at hS2
    have hb2 : ∀ b o, b ≠ S → h1.get? b = some o → h2.get? b = some o := fun b o hb e => (hs2.2 b hb).trans e
    have hS1c : ∀ o, h1.get? S = some o → o.cls ≠ .type "tuple" := fun o e z => by
      obtain ⟨es, ep, t, e', _⟩ := hS1
      rw [e'] at e
      cases e
      injection z with z
      exact absurd z (by decide)
    have hit1c : ∀ o, h1.get? it = some o → o.cls ≠ .type "tuple" := fun o e z => by
      obtain ⟨oi, z1, z2, _⟩ := hit1
      rw [z1] at e
      cases e
      rw [z] at z2
      injection z2 with z2
      exact absurd z2 (by decide)
    refine wpAny_pure ⟨plainId_quiet F.plain_set_update_loop _, ih (i + 1) _ (by omega) ?_ ?_ (hT1.kept hS1c hit1c fun b o hb _ e => hb2 b o hb e) hS2 fun h' tk hk' hS' => hR h' tk (fun b o b1 b2 e => hk' b o b1 b2 (hb2 b o b1 (k1 b o b2 e))) hS'⟩
    · obtain ⟨oi, z1, z2⟩ := hit1
      exact ⟨oi, hb2 it oi hSi.symm z1, z2⟩
    · obtain ⟨oi, z1, z2⟩ := ht1
      exact ⟨oi, hb2 l oi hSl.symm z1, z2⟩
end
end L2
namespace PySem
section
variable {prog : Program} {w : World} {K : Type} [DecidableEq K] {knd : KeyKind prog w K} {A : Around} {E : Value → Shared → Prop} {s : Shared}
theorem set_of_tups {l : Addr} {its : List Value} {kss : List (List K)} {nl : Nat} {sl : Array (Option Value)} {dd : Option Addr} {Q : Value → Shared → Prop} (hh : A.handled = none) (hol : s.heap.get? l = some { cls := .type "list", dict := dd, data := .seq its.toArray nl, slots := sl }) (hu : A.units + 3 < cLine) (hi : L2.TupsAt knd s.heap its kss) (nd : kss.Nodup) (hb : kss.length ≤ 69)
    (h : ∀ (h' : Heap) (tk : Nat), L2.TSetAt knd h' s.heap.objs.size (L2.ledOf w) kss → (∀ b o, s.heap.get? b = some o → h'.get? b = some o) → Q (.ref s.heap.objs.size) { s with heap := h', toks := tk }) :
    wpAny (model prog w) A (call (.type "set") [.ref l]) Q E s := by
  obtain ⟨c, tl, hmro⟩ := F.called_set.mro
  have hmade := F.called_set.made
  have hsub := F.called_set.sub
  refine wpAny_call (codeAny_of_tree ?_)
  show wpAny _ _ (callAny (.type "set") _) _ _ _
  refine wpAny_pure ⟨Code.quiet_builtin _ (by decide +kernel), codeAny_builtin F.entry_type_call ?_⟩
  rw [Around.under_plain (weight_type_call_type "set" [.ref l] []) rfl]
  have h1 := F.called_set.notType
  have h2 := F.called_set.canCreate
  have hct := F.typeCall_set_1 (.ref l)
  repeat (any_goals (first | assumption | wp_step))
  refine codeAny_mono (set_new_led (.ref l) (E := E) (Q₁ := fun obj s₁ => obj = .ref s.heap.objs.size ∧ s₁ = { s with heap := s.heap.push { cls := .type "set", dict := none, data := .set #[] 0 (.fresh 0 0 (L2.ledOf w)) } }) ⟨rfl, rfl⟩) fun r s₁ hr => ?_
  cases r with
  | error e => exact hr
  | ok fl =>
    cases fl with
    | ret obj =>
      obtain ⟨rfl, rfl⟩ := hr
      have hS : (s.heap.push { cls := .type "set", dict := none, data := .set #[] 0 (.fresh 0 0 (L2.ledOf w)) }).get? s.heap.objs.size = some { cls := .type "set", dict := none, data := .set #[] 0 (.fresh 0 0 (L2.ledOf w)) } := Heap.get?_push_size _ rfl
      have hT : Shared.TypeIs { s with heap := s.heap.push { cls := .type "set", dict := none, data := .set #[] 0 (.fresh 0 0 (L2.ledOf w)) } } (.ref s.heap.objs.size) "set" := ⟨_, hS, rfl⟩
      have hli := F.called_set.init.lookup
      have hbi := F.called_set.init.bind (.ref s.heap.objs.size)
      repeat (any_goals (first | assumption | wp_step))
      refine codeAny_mono (codeAny_call_builtin (R := wants (fun r s₂ => r = .none ∧ ∃ h' tk, s₂ = { s with heap := h', toks := tk } ∧ L2.TSetAt knd h' s.heap.objs.size (L2.ledOf w) kss ∧
          (∀ b o, s.heap.get? b = some o → h'.get? b = some o)) E) F.called_set.init.plain F.entry_set_init (check_set_init_1 hT ?_)) fun r₂ s₂ hr₂ => ?_
      · have hol' : (s.heap.push { cls := .type "set", dict := none, data := .set #[] 0 (.fresh 0 0 (L2.ledOf w)) }).get? l = some { cls := .type "list", dict := dd, data := .seq its.toArray nl, slots := sl } := Heap.get?_push_of_some _ hol
        have hsls := F.sub_list_set
        have hslf := F.sub_list_frozenset
        have hne : (Value.type "list" == Value.type "dict") = false := by decide
        have hl1 : (s.heap.push { cls := .type "set", dict := none, data := .set #[] 0 (.fresh 0 0 (L2.ledOf w)) }).IsList l its.toArray := ⟨_, hol', rfl, nl, rfl⟩
        unfold Builtin.«set.__init__» noKeywords Builtin.Frozenset.updateFrom
        generalize hPI : pyIter = PI
        wp_walk
        subst hPI
        refine wpAny_pyIter_list hl1 ?_
        refine wpAny_bind (wpAny_runValue ?_)
        have hlS : l < s.heap.objs.size := Heap.lt_size hol
        have hh3 : A.in1.in1.handled = none := by simp [hh]
        have lt1 : s.heap.objs.size < (s.heap.push { cls := .type "set", dict := none, data := .set #[] 0 (.fresh 0 0 (L2.ledOf w)) }).objs.size := Heap.lt_size hS
        refine L2.tset_loop (knd := knd) (its := its) (kss := kss) (led := L2.ledOf w) hh3 (by show A.units + 1 + 1 + 1 < cLine; omega) nd (Nat.ne_of_gt hlS) (Nat.ne_of_lt lt1) (Nat.ne_of_lt (Nat.lt_trans hlS lt1)) hb kss.length 0 _ (by omega) ?_ ?_ ?_ ?_ ?_
        · exact ⟨_, Heap.get?_push_size _ rfl, rfl, rfl⟩
        · exact hl1.push _
        · refine ⟨hi.1, fun i v kk e1 e2 => ?_⟩
          obtain ⟨b, e, o, its', n, z1, z2, z3⟩ := hi.2 i v kk e1 e2
          exact ⟨b, e, o, its', n, Heap.get?_push_of_some _ (Heap.get?_push_of_some _ z1), z2, z3⟩
        · refine ⟨#[], 0, .fresh 0 0 (L2.ledOf w), ?_, fun e he => by simp at he, rfl, ⟨⟨rfl, rfl, List.Pairwise.nil⟩, L2.full8, (by show 7 % 2 = 1; decide), (fun j hj => by cases hj), Nat.zero_le _⟩, rfl, .inl ⟨rfl, Nat.zero_le _⟩⟩
          exact Heap.get?_push_of_some _ hS
        · intro h' tk hk hS'
          show wpAny _ _ _ _ _ _
          refine wpAny_pure ?_
          show wpAny _ _ (ret Value.none) _ _ _
          refine wpAny_pure ⟨rfl, h', tk, rfl, hS', fun b o e => ?_⟩
          have hb0 := Heap.lt_size e
          exact hk b o (Nat.ne_of_lt hb0) (Nat.ne_of_lt (Nat.lt_trans hb0 lt1)) (Heap.get?_push_of_some _ (Heap.get?_push_of_some _ e))
      · cases r₂ with
        | error e => exact hr₂
        | ok fl₂ =>
          cases fl₂ with
          | ret r =>
            obtain ⟨rfl, h', tk, rfl, hS', hk'⟩ := hr₂
            repeat (any_goals (first | assumption | wp_step))
            exact h _ _ hS' hk'
          | _ => exact hr₂.elim
    | _ => exact hr.elim
end
end PySem
namespace L2
open PySem PySem.Spec PyProof.Rows PySem.W
abbrev tsetH (v : Addr) (n : Nat) : HO := .ext fun h => ∃ es ep t, h.get? v = some { cls := .type "set", dict := none, data := .set es ep t } ∧ es.size = n ∧ t.fits es.size = true
theorem call_set_tups {X : Cx} (hc : X.calm = true) (hu : X.A.units + 3 < cLine) : CallR X (.type "set") (fun xs H Q => ∃ (p : Addr) (qs : List V) (kss : List (List Int)), xs = [.ref p] ∧ SqL X.K H p qs ∧ qs.length = kss.length ∧ (∀ (i : Nat) x k, qs[i]? = some x → kss[i]? = some k → ∃ c, x = .ref c ∧ SqT X.K H c (k.map V.int)) ∧ kss.Nodup ∧ kss.length ≤ 69 ∧
    ∀ v, H v = none → Q (.ref v) (upd H v (tsetH v kss.length))) := by
  intro pins s σ H xs us Q I r h
  obtain ⟨p, qs, kss, rfl, hq, hl, hk, nd, hz, q⟩ := h
  obtain ⟨u, rfl, rx⟩ := vals1 r
  cases rx
  obtain ⟨its, rv, ⟨⟨c1, d1, t1, l1⟩, n1, o1, z1, z2, z3⟩, hz1⟩ := I.list hq
  simp only at z1 z2 z3
  subst z1 z2 z3
  have hlen := rv.length
  have T : TupsAt (intKind X.prog X.w) s.heap its kss := by
    refine ⟨by omega, fun i v k e1 e2 => ?_⟩
    have hi : i < qs.length := by
      have := (List.getElem?_eq_some_iff.mp e1).1
      omega
    obtain ⟨c, ec, hs⟩ := hk i qs[i] k (List.getElem?_eq_getElem hi) e2
    obtain ⟨v', ev, rel⟩ := rv.get (i := i) (List.getElem?_eq_getElem hi)
    rw [e1] at ev
    cases ev
    rw [ec] at rel
    cases rel
    obtain ⟨its2, rv2, ⟨o, w1, w2, n, w3⟩, _⟩ := I.tuple hs
    refine ⟨c, rfl, o, its2.toArray, n, w1, w2, w3, ?_⟩
    have key : ∀ {k : List Int} {its2 : List Value}, Vals (k.map V.int) its2 → ItemsAre (intKind X.prog X.w) k its2 := by
      intro k
      induction k with
      | nil => intro its2 r; cases r; exact .nil
      | cons x k ih =>
        intro its2 r
        cases r with
        | cons h r =>
          obtain ⟨t, rfl⟩ := h
          exact .cons (intKind_is _ _ _ _) (ih r)
    simpa using key rv2
  refine PySem.set_of_tups (knd := intKind X.prog X.w) (I.ok.hd hc) o1 hu T nd hz fun h' tk hS hk => ?_
  obtain ⟨es, ep, t, e, _, hsz, T', hpl, M⟩ := hS
  refine ⟨.ref s.heap.objs.size, _, I.laid (t' := tk) hk (Nat.le_refl _) (show ObjOk X.prog X.w _ _ _ (tsetH s.heap.objs.size kss.length) from ⟨⟨es, ep, t, e, hsz, msk_fits T' hpl M.le.1⟩, ⟨_, e⟩, fun h1 h2 x k => by obtain ⟨es, ep, t, x1, x2⟩ := x; exact ⟨es, ep, t, k _ x1, x2⟩⟩), rfl, q _ (I.hok.fresh (Nat.le_refl _))⟩
theorem call_len_tset {X : Cx} : CallR X (.builtin "len") (fun xs H Q => ∃ (p : Addr) (n : Nat), xs = [.ref p] ∧ H p = some (tsetH p n) ∧ n ≤ 1000 ∧ Q (.int n) H) := by
  intro pins s σ H xs us Q I r h
  obtain ⟨p, n, rfl, hp, hn, q⟩ := h
  obtain ⟨u, rfl, rx⟩ := vals1 r
  cases rx
  obtain ⟨⟨es, ep, t, ho, hsz, hf⟩, _⟩ := I.hok p _ hp
  refine PySem.call_len_set ho ⟨rfl, rfl, rfl⟩ rfl hf (by omega) ⟨.int n, H, ?_, ⟨_, by rw [← hsz]⟩, q⟩
  exact (I.tok _).tok _
end L2
set_option Elab.async false
set_option linter.all false
set_option maxRecDepth 100000
namespace L2
open PySem PySem.Spec PyProof.Rows PySem.W
mutual
def dEq : D → D → Bool
  | .int i, .int j => i == j
  | .str x, .str y => x == y
  | .tup a, .tup b => dEqL a b
  | _, _ => false
def dEqL : List D → List D → Bool
  | [], [] => true
  | a :: as, b :: bs => dEq a b && dEqL as bs
  | _, _ => false
end
mutual
theorem dEq_iff : ∀ {a b : D}, dEq a b = true ↔ a = b
  | .int i, .int j => by unfold dEq; rw [beq_iff_eq]; exact ⟨(fun h => by rw [h]), (fun h => by injection h)⟩
  | .str i, .str j => by unfold dEq; rw [beq_iff_eq]; exact ⟨(fun h => by rw [h]), (fun h => by injection h)⟩
  | .tup a, .tup b => by unfold dEq; rw [dEqL_iff]; exact ⟨(fun h => by rw [h]), (fun h => by injection h)⟩
  | .int i, .str j => by unfold dEq; exact ⟨(fun h => by cases h), (fun h => by cases h)⟩
  | .int i, .tup j => by unfold dEq; exact ⟨(fun h => by cases h), (fun h => by cases h)⟩
  | .str i, .int j => by unfold dEq; exact ⟨(fun h => by cases h), (fun h => by cases h)⟩
  | .str i, .tup j => by unfold dEq; exact ⟨(fun h => by cases h), (fun h => by cases h)⟩
  | .tup i, .int j => by unfold dEq; exact ⟨(fun h => by cases h), (fun h => by cases h)⟩
  | .tup i, .str j => by unfold dEq; exact ⟨(fun h => by cases h), (fun h => by cases h)⟩
theorem dEqL_iff : ∀ {a b : List D}, dEqL a b = true ↔ a = b
  | [], [] => by unfold dEqL; exact ⟨(fun _ => rfl), (fun _ => rfl)⟩
  | a :: as, b :: bs => by
    unfold dEqL
    rw [Bool.and_eq_true, dEq_iff, dEqL_iff]
    exact ⟨(fun h => by rw [h.1, h.2]), (fun h => by injection h with h1 h2; exact ⟨h1, h2⟩)⟩
  | [], b :: bs => by unfold dEqL; exact ⟨(fun h => by cases h), (fun h => by cases h)⟩
  | a :: as, [] => by unfold dEqL; exact ⟨(fun h => by cases h), (fun h => by cases h)⟩
end
instance : DecidableEq D := fun a b => if h : dEq a b = true then isTrue (dEq_iff.mp h) else isFalse fun e => h (dEq_iff.mpr e)
theorem dEq_dec (a b : D) : dEq a b = decide (a = b) := by
  apply Bool.eq_iff_iff.mpr
  rw [dEq_iff, decide_eq_true_iff]
mutual
theorem held_inj {H : Hp} : ∀ {d d' : D} {v : V}, Held H d v → Held H d' v → d = d'
  | .int i, .int j, v, h, h' => by unfold Held at h h'; subst h; injection h' with h'; rw [h']
  | .str i, .str j, v, h, h' => by unfold Held at h h'; subst h; injection h' with h'; rw [h']
  | .tup a, .tup b, v, h, h' => by
    unfold Held at h h'
    obtain ⟨p, xs, rfl, e, h⟩ := h
    obtain ⟨p', xs', e0, e', h'⟩ := h'
    injection e0 with e0
    subst e0
    rw [e] at e'
    injection e' with e'
    injection e' with e'
    subst e'
    rw [heldL_inj h h']
  | .int i, .str j, v, h, h' => by unfold Held at h h'; subst h; cases h'
  | .int i, .tup j, v, h, h' => by unfold Held at h h'; subst h; obtain ⟨p, xs, e, _⟩ := h'; cases e
  | .str i, .int j, v, h, h' => by unfold Held at h h'; subst h; cases h'
  | .str i, .tup j, v, h, h' => by unfold Held at h h'; subst h; obtain ⟨p, xs, e, _⟩ := h'; cases e
  | .tup i, .int j, v, h, h' => by unfold Held at h h'; subst h'; obtain ⟨p, xs, e, _⟩ := h; cases e
  | .tup i, .str j, v, h, h' => by unfold Held at h h'; subst h'; obtain ⟨p, xs, e, _⟩ := h; cases e
theorem heldL_inj {H : Hp} : ∀ {d d' : List D} {v : List V}, HeldL H d v → HeldL H d' v → d = d'
  | [], [], _, _, _ => rfl
  | a :: as, b :: bs, v, h, h' => by
    unfold HeldL at h h'
    obtain ⟨u, r, rfl, h1, h2⟩ := h
    obtain ⟨u', r', e, h1', h2'⟩ := h'
    injection e with e1 e2
    subst e1 e2
    rw [held_inj h1 h1', heldL_inj h2 h2']
  | [], b :: bs, v, h, h' => by unfold HeldL at h h'; subst h; obtain ⟨u', r', e, _⟩ := h'; cases e
  | a :: as, [], v, h, h' => by unfold HeldL at h h'; subst h'; obtain ⟨u', r', e, _⟩ := h; cases e
end
theorem dEqL_all : ∀ (a b : List D), ((List.range (min a.length b.length)).all (fun j => dEq (a.getD j (.int 0)) (b.getD j (.int 0))) && a.length == b.length) = dEqL a b := by
  intro a b
  apply Bool.eq_iff_iff.mpr
  rw [dEqL_iff, Bool.and_eq_true, List.all_eq_true, beq_iff_eq]
  constructor
  · rintro ⟨h1, h2⟩
    apply List.ext_getElem h2
    intro j hj hj'
    have := h1 j (List.mem_range.mpr (by omega))
    rw [dEq_iff] at this
    simpa [hj, hj'] using this
  · rintro rfl
    exact ⟨fun j _ => dEq_iff.mpr rfl, rfl⟩
section
variable {X : Cx} {pins : List (Addr × Obj)} {σ : St} {H : Hp} {s : Shared}
theorem eqAt_dd (I : Inv X pins σ H s) : ∀ (n : Nat) (A : Around) (d d' : D) (x y : V) (u v : Value), d.depth ≤ n → A.units + n < cLine → Held H d x → Held H d' y → RelV x u → RelV y v → SeqAt.EqAt A s u v (dEq d d') := by
  intro n
  induction n with
  | zero =>
    intro A d d' x y u v hd hA hx hy ru rv
    have hA' : A.units < cLine := by omega
    cases d with
    | int i =>
      unfold Held at hx; subst hx
      obtain ⟨t, rfl⟩ := ru
      cases d' with
      | int j =>
        unfold Held at hy; subst hy
        obtain ⟨t', rfl⟩ := rv
        unfold dEq
        exact SeqAt.EqAt.int_int i t j t'
      | str j =>
        unfold Held at hy; subst hy
        obtain ⟨t', rfl⟩ := rv
        unfold dEq
        exact SeqAt.EqAt.int_str i t j t'
      | tup ds =>
        unfold Held at hy
        obtain ⟨b, ys, rfl, hb, _⟩ := hy
        cases rv
        obtain ⟨its, _, tb, _⟩ := I.tuple (SqT.of hb)
        unfold dEq
        exact SeqAt.EqAt.int_tuple i t (show s.heap.IsTuple b its.toArray from tb) hA'
    | str i =>
      unfold Held at hx; subst hx
      obtain ⟨t, rfl⟩ := ru
      cases d' with
      | int j =>
        unfold Held at hy; subst hy
        obtain ⟨t', rfl⟩ := rv
        unfold dEq
        exact SeqAt.EqAt.str_int i t j t'
      | str j =>
        unfold Held at hy; subst hy
        obtain ⟨t', rfl⟩ := rv
        unfold dEq
        exact SeqAt.EqAt.str_str i t j t'
      | tup ds =>
        unfold Held at hy
        obtain ⟨b, ys, rfl, hb, _⟩ := hy
        cases rv
        obtain ⟨its, _, tb, _⟩ := I.tuple (SqT.of hb)
        unfold dEq
        exact SeqAt.EqAt.str_tuple i t (show s.heap.IsTuple b its.toArray from tb) hA'
    | tup ds => unfold D.depth at hd; omega
  | succ n ih =>
    intro A d d' x y u v hd hA hx hy ru rv
    have hA' : A.units < cLine := by omega
    cases d with
    | int i => exact ih A (.int i) d' x y u v (by unfold D.depth; omega) (by omega) hx hy ru rv
    | str z => exact ih A (.str z) d' x y u v (by unfold D.depth; omega) (by omega) hx hy ru rv
    | tup ds =>
      have hx0 := hx
      unfold Held at hx
      obtain ⟨a, xs, rfl, ha, hxs⟩ := hx
      cases ru
      obtain ⟨its, rva, ta, _⟩ := I.tuple (SqT.of ha)
      cases d' with
      | int j =>
        unfold Held at hy; subst hy
        obtain ⟨t', rfl⟩ := rv
        unfold dEq
        exact SeqAt.EqAt.tuple_int j t' (show s.heap.IsTuple a its.toArray from ta) hA'
      | str j =>
        unfold Held at hy; subst hy
        obtain ⟨t', rfl⟩ := rv
        unfold dEq
        exact SeqAt.EqAt.tuple_str j t' (show s.heap.IsTuple a its.toArray from ta) hA'
      | tup ds' =>
        have hy0 := hy
        unfold Held at hy
        obtain ⟨b, ys, rfl, hb, hys⟩ := hy
        cases rv
        by_cases hab : a = b
        · subst hab
          rw [dEq_iff.mpr (held_inj hx0 hy0)]
          exact SeqAt.EqAt.same _
        · obtain ⟨its2, rvb, tb, _⟩ := I.tuple (SqT.of hb)
          refine SeqAt.EqAt.of_refs hab ?_
          have l1 := hxs.length
          have l2 := hys.length
          have l3 := rva.length
          have l4 := rvb.length
          have key := SeqAt.RcAt.tuples (A := A) (s := s) (e := fun j => dEq (ds.getD j (.int 0)) (ds'.getD j (.int 0))) (show s.heap.IsTuple a its.toArray from ta) (show s.heap.IsTuple b its2.toArray from tb) (by omega) (fun j h1 h2 => by
            have hj : j < ds.length := by
              have : j < its.length := by simpa using h1
              omega
            have hj' : j < ds'.length := by
              have : j < its2.length := by simpa using h2
              omega
            have ej : ds[j]? = some ds[j] := List.getElem?_eq_getElem hj
            obtain ⟨x', hx', gx⟩ := hxs.get ej
            obtain ⟨y', hy', gy⟩ := hys.get (List.getElem?_eq_getElem hj')
            obtain ⟨u', hu', ru'⟩ := rva.get hx'
            obtain ⟨v', hv', rv'⟩ := rvb.get hy'
            have eu : its.toArray[j] = u' := by
              have := (List.getElem?_eq_some_iff.mp hu').2
              simpa using this
            have ev : its2.toArray[j] = v' := by
              have := (List.getElem?_eq_some_iff.mp hv').2
              simpa using this
            rw [eu, ev]
            unfold D.depth at hd
            have g1 : ds.getD j (.int 0) = ds[j] := by simp [hj]
            have g2 : ds'.getD j (.int 0) = ds'[j] := by simp [hj']
            rw [g1, g2]
            exact ih A.in1 ds[j] ds'[j] x' y' u' v' (by have := D.depthL_get ej; omega) (by show A.units + 1 + n < cLine; omega) gx gy ru' rv')
          have e : ((List.range (min its.toArray.size its2.toArray.size)).all (fun j => dEq (ds.getD j (.int 0)) (ds'.getD j (.int 0))) && its.toArray.size == its2.toArray.size) = dEqL ds ds' := by
            have e1 : its.toArray.size = ds.length := by simp; omega
            have e2 : its2.toArray.size = ds'.length := by simp; omega
            rw [e1, e2]
            exact dEqL_all ds ds'
          rw [e] at key
          unfold dEq
          exact key
end
end L2
set_option Elab.async false
set_option linter.all false
set_option maxRecDepth 100000
namespace L2
open PySem PySem.Spec PyProof.Rows PySem.W
end L2
set_option Elab.async false
set_option linter.all false
set_option maxRecDepth 100000
namespace L2
open PySem PySem.Spec PyProof.Rows PySem.W
theorem comp_run2 {X : Cx} {scope : Scope} {own : List Str} {fr : List Nat} {elt tg iter : Expr} {ifs : List Expr} {pos : Pos} {wi : TI} {g : TG} {tt : TT} {te : TE} {use : Option (Value → Sem Unit)} (hc : X.calm = true) (O : CompOk X scope fr) (hi : PI X tg iter wi)
    (hb : ∀ s H ex, PG (blk X scope own fr s H ex) tg g ∧ PTs (blk X scope own fr s H ex) ifs tt ∧ PE (blk X scope own fr s H ex) elt te)
    (hs : ∀ x, foldedSetIterable iter X.env x = pure x) {pins : List (Addr × Obj)} {s : Shared} {σ : St} {H : Hp} {Q : VK} {R : Value → Shared → Prop} (I : Inv X pins σ H s) (h : tComp own fr wi g tt te σ H Q) (hx : ∀ e s', X.xe e s' ↔ False)
    (fin : ∀ (p C : Addr) (H' : Hp) (s' : Shared) (m : Str → Option Value), s'.heap.Ns C m → H' C = none → C ≠ X.env.locals → (∀ x c, X.env.cells.lookup x = some c → c ≠ C) → X.s₀.heap.objs.size ≤ C → (∀ p ∈ X.pn ++ pins, p.1 ≠ C) → Inv X pins σ H' s' → (∀ h', Heap.SameBut C s'.heap h' → Inv X pins σ H' { s' with heap := h' }) → Q (.ref p) H' →
      compPost (model X.prog X.w) X.A X.xe use R (.ref p) C (.ok .next) s') :
    wpAny (model X.prog X.w) X.A (comprehension (.ListComp elt [⟨tg, iter, ifs, 0⟩] scope pos) scope X.env (firstIterPos [⟨tg, iter, ifs, 0⟩] pos) (newList []) false (eval iter X.env) use) R X.xe s := by
  have hsome : ∀ x ∈ scope.names, x.2 = .free → (X.env.cells.lookup x.1).isSome = true := fun x hx' e => by
    obtain ⟨c, hc⟩ := I.ok.has x.1 (O.frees x hx' e)
    rw [hc]; rfl
  have no : ∀ (E : Value → Shared → Prop) (x : Value) (s' : Shared), X.xe x s' → E x s' := fun E x s' z => ((hx x s').mp z).elim
  refine wpAny_comprehension_free (cl := clOf X.env.cells scope.names []) rfl hs (closure_cl hsome) O.kind O.loc ?_
  refine thn (hi pins s σ H _ I h) fun v s1 h1 => thn h1 fun itv s2 h2 => ?_
  obtain ⟨it, fp, tn, J, H2, e, I2, T, st2, f2, q2⟩ := h2
  subst e
  refine wpAny_newObj_type ?_
  have nw : H2 s2.heap.objs.size = none := I2.fresh
  obtain ⟨W, ⟨m0, w0⟩, turn⟩ := q2 _ nw
  generalize hp : s2.heap.objs.size = p at *
  have I3 : Inv X pins σ (upd H2 p (.lst [])) { s2 with heap := s2.heap.push { cls := .type "list", dict := none, data := .seq ([] : List Value).toArray } } := by
    have := I2.lnew (ys := []) (its := []) (t' := s2.toks) .nil (Nat.zero_le _)
    rw [hp] at this
    exact this
  have lt2 : ∀ b ∈ fp, b < s2.heap.objs.size := fun b hb => by
    obtain ⟨o, ho, _⟩ := T.obj _ _ st2 b hb
    exact Heap.lt_size ho
  have fpn : ∀ b ∈ fp, (upd H2 p (.lst [])) b = none := fun b hb => by
    rw [upd_ne (by rw [← hp]; exact Nat.ne_of_lt (lt2 b hb))]
    exact (f2 b hb).1
  generalize hs3 : ({ s2 with heap := s2.heap.push { cls := .type "list", dict := none, data := .seq ([] : List Value).toArray } } : Shared) = s3 at *
  have sz3 : s3.heap.objs.size = p + 1 := by
    rw [← hs3]
    show (s2.heap.push _).objs.size = _
    rw [Heap.size_push, hp]
  have st3 : tn 0 s3.heap := T.keep 0 _ _ st2 fun b hb o e => by
    rw [← hs3]
    exact Heap.get?_push_of_some _ e
  refine wpAny_newFunctionEnv O.nocell (by intro y hy; simp at hy) (fun h4 hns4 hsb4 => ?_) O.kind
  have k4 : ∀ b o, s3.heap.get? b = some o → h4.get? b = some o := fun b o e => hsb4.extBut b o (Nat.ne_of_lt (Heap.lt_size e)) (Heap.get?_push_of_some _ e)
  have hns4' : h4.Ns s3.heap.objs.size fun _ => none := by
    have z : (fun x : Str => ([] : List (Str × Value)).reverse.lookup x) = fun _ => none := by funext x; rfl
    rw [z] at hns4
    exact hns4
  have fo : ∀ b ∈ fp, FpOk X pins (upd H2 p (.lst [])) b ∧ b < s3.heap.objs.size := fun b hb => ⟨⟨fpn b hb, (f2 b hb).2⟩, by rw [sz3, ← hp]; exact Nat.lt_succ_of_lt (lt2 b hb)⟩
  have I4 := inv_blk (own := own) (fr := fr) (t1 := s3.toks + ([] : List (Str × Value)).length) I3 O fo hns4' k4
  have st4 : tn 0 h4 := T.keep 0 _ _ st3 fun b hb o e => k4 b o e
  obtain ⟨hg, ht, he⟩ := hb s3 (upd H2 p (.lst [])) fp
  have stat : ∀ {H' : Hp} {pn : List (Addr × Obj)} {s' : Shared} {σ' : St}, Inv (blk X scope own fr s3 (upd H2 p (.lst [])) fp) [] σ' H' s' → (∀ b ∈ fp, H' b = none) → ∀ b ∈ fp, FpOk (blk X scope own fr s3 (upd H2 p (.lst [])) fp) [] H' b := fun {H' pn s' σ'} J hn b hb' =>
    ⟨hn b hb', (J.ok.exf b hb').1, J.ok.exfs b hb', .inl hb', (J.ok.exf b hb').2, fun p hp => absurd hp (by simp [blk])⟩
  have nocells : ∀ x c, X.env.cells.lookup x = some c → c ≠ s3.heap.objs.size := fun x c e => by
    obtain ⟨v, q⟩ := I3.cell x c e
    exact Nat.ne_of_lt q.lt
  have loop : ∀ s5 : Shared, s5 = { s3 with heap := h4, toks := s3.toks + ([] : List (Str × Value)).length } →
      codeAny (model X.prog X.w) X.A (.compLoop (.ListComp elt [⟨tg, iter, ifs, 0⟩] scope pos) 0 (.ref it) (.ref p) (blk X scope own fr s3 (upd H2 p (.lst [])) fp).env) (compPost (model X.prog X.w) X.A X.xe use R (.ref p) s3.heap.objs.size) s5 := by
    rintro s5 rfl
    refine compLoop_gen (fun n s' => ∃ i σ' H', Inv (blk X scope own fr s3 (upd H2 p (.lst [])) fp) [] σ' H' s' ∧ tn i s'.heap ∧ (∀ b ∈ fp, H' b = none) ∧ W i n σ' H') ?_ m0 ⟨0, _, _, I4, st4, fpn, w0⟩
    rintro n s6 ⟨i, σ6, H6, I6, st6, fr6, w6⟩
    rcases turn i n σ6 H6 w6 with ⟨stop, qn⟩ | ⟨go, N, hN, step⟩
    · refine thn (T.done (blk X scope own fr s3 (upd H2 p (.lst [])) fp) rfl rfl rfl hc i [] s6 σ6 H6 _ I6 (stat (pn := []) I6 fr6) st6 stop) fun r s7 ⟨hr, I7⟩ => ?_
      subst hr
      obtain ⟨m, hm, _⟩ := I7.loc
      exact fin p _ H6 s7 m hm I7.free (Nat.ne_of_gt I3.lt) nocells I3.sz (fun p hp => Nat.ne_of_lt (Heap.lt_size (I3.pin p hp).1)) (blk_back I3 fo I7 (Heap.SameBut.refl ..)) (fun h' hs' => blk_back I3 fo I7 hs') qn
    · refine thn (T.item (blk X scope own fr s3 (upd H2 p (.lst [])) fp) rfl rfl rfl hc i [] s6 σ6 H6 _ I6 (stat (pn := []) I6 fr6) st6 go) fun r s7 ⟨u, hr, h7⟩ => ?_
      subst hr
      refine thn h7 fun _ s8 ⟨x, H8, I8, r8, y8, st8, fr8⟩ => ?_
      have I8' := I8.pinned (stat (pn := []) I8 fr8) (T.obj _ _ st8)
      refine thn (hg _ s8 σ6 H8 x u _ I8' r8 (step x H8 y8)) fun _ s9 ⟨σ9, H9, I9, q9⟩ => ?_
      refine thn (ht _ s9 σ9 H9 _ I9 q9) fun ok s10 ⟨H10, I10, q10⟩ => ?_
      have again : ∀ {H11 : Hp} {s11 : Shared}, Inv (blk X scope own fr s3 (upd H2 p (.lst [])) fp) ([] ++ pinsAt fp s8.heap) σ9 H11 s11 → (∃ m', m' < n ∧ W (i + 1) m' σ9 H11) →
          ∃ m, m < n ∧ ∃ i σ' H', Inv (blk X scope own fr s3 (upd H2 p (.lst [])) fp) [] σ' H' s11 ∧ tn i s11.heap ∧ (∀ b ∈ fp, H' b = none) ∧ W i m σ' H' := fun {H11 s11} I11 ⟨m', hm, w11⟩ => by
        refine ⟨m', hm, i + 1, σ9, H11, I11.unpinned, T.keep _ _ _ st8 fun b hb' o e => (I11.pin (b, o) (List.mem_append_right _ (List.mem_append_right _ (mem_pinsAt hb' e)))).1, fun b hb' => ?_, w11⟩
        obtain ⟨o, e, d⟩ := T.obj _ _ st8 b hb'
        exact (I11.pin (b, o) (List.mem_append_right _ (List.mem_append_right _ (mem_pinsAt hb' e)))).2.1
      cases ok with
      | false =>
        rw [if_neg Bool.false_ne_true] at q10 ⊢
        exact again I10 (hN _ _ q10)
      | true =>
        rw [if_pos rfl] at q10 ⊢
        refine thn (he _ s10 σ9 H10 _ I10 q10) fun yv s11 ⟨y, H11, I11, r11, ys, hys, hlen, q11⟩ => ?_
        have ap := mt_append (X := blk X scope own fr s3 (upd H2 p (.lst [])) fp) ([] ++ pinsAt fp s8.heap) s11 σ9 H11 (.ref p) [y] (.ref p) [yv] (fun _ H12 => ∃ m', m' < n ∧ W (i + 1) m' σ9 H12) I11 rfl (.cons r11 .nil) ⟨p, ys, y, rfl, rfl, hys, hlen, hN _ _ q11⟩
        exact thn ap fun _ s12 ⟨_, H12, I12, _, q12⟩ => again I12 q12
  refine codeAny_compStart_list (loop _ rfl) (T.self X.A 0 _ _ _ st4 (loop _ rfl))
theorem ps_setcomp {X : Cx} {scope : Scope} {elt tg iter : Expr} {ifs : List Expr} {pos : Pos} {wi : TI} {g : TG} {tt : TT} {te : TE} {i : Nat} {y : Str} {py spos : Pos} (hN : X.N.Nodup) (hi' : X.N[i]? = some y) (hy : Loc X.env.scope y) (own : List Str) (fr : List Nat) (hc : X.calm = true) (O : CompOk X scope fr) (hi : PI X.nox tg iter wi)
    (hb : ∀ s H ex, PG (blk X.nox scope own fr s H ex) tg g ∧ PTs (blk X.nox scope own fr s H ex) ifs tt ∧ PE (blk X.nox scope own fr s H ex) elt te)
    (hs : ∀ x, foldedSetIterable iter X.env x = pure x := by intro _; rfl)
    (hsw : swapsWith (.ListComp elt [⟨tg, iter, ifs, 0⟩] scope pos) (some (.Name y py)) spos.line X.env = pure true := by rfl)
    (hf : X.fn y = true ∨ X.env.scope.names.lookup y = some .local := by first | exact .inl rfl | exact .inr rfl | assumption) :
    PS X.nox (.Assign [.Name y py] (.ListComp elt [⟨tg, iter, ifs, 0⟩] scope pos) spos) (tAsg (tComp own fr wi g tt te) (gName i)) := by
  intro pins s σ H D I h
  rw [exec_Assign_Name_used _ _ _ _ hsw]
  refine wpAny_bind (wpAny_standAt (wpAny_bind ?_))
  show wpAny _ _ (do let _ ← comprehension (.ListComp elt [⟨tg, iter, ifs, 0⟩] scope pos) scope X.nox.env _ (newList []) false (eval iter X.nox.env) (some (assign (.Name y py) X.nox.env))) _ _ s
  refine wpAny_bind (wpAny_mono (comp_run2 (X := X.nox) (use := some (assign (.Name y py) X.nox.env)) (R := fun _ s' => SP X.nox pins D .next s') hc ⟨O.kind, O.nocell, O.loc, O.frees, O.fr⟩ hi hb hs I h (fun _ _ => Iff.rfl)
    fun p C H' s' m hm hC hL hcs hz hpn I' back q => ?_) (fun _ s' hq => wpAny_pure (wpAny_pure hq)) fun _ _ e => e)
  show wpAny _ _ (assign (.Name y py) X.nox.env (.ref p)) _ _ _
  refine wpAny_assign_Name (store_ok2 (v := .ref p) I' hN hi' hy rfl (fun s2 I2 hsb => ?_) hf)
  obtain ⟨a, hsa, ha⟩ := hsb
  have hCa : C ≠ a := by
    rcases ha with rfl | e
    · exact hL
    · exact fun z => hcs _ _ e z.symm
  refine ⟨m, hm.sameBut hsa hCa, fun h' hs' => ?_⟩
  exact ⟨_, H', I2.turned (t' := s2.toks) (fun b o hb e => (hs'.2 b hb).trans e) hC hL (.inr hz) hcs hpn, q⟩
end L2
set_option Elab.async false
set_option linter.all false
set_option maxRecDepth 100000
namespace L2
open PySem PySem.Spec PyProof.Rows
section
variable {X : Cx} {pins : List (Addr × Obj)} {σ : St} {H : Hp} {s : Shared} {tg : Expr}
theorem Inv.relabel {a : Addr} {u v : HO} (I : Inv X pins σ H s) (hu : H a = some u) (h1 : ∀ xs, u ≠ .tup xs) (h2 : ∀ ps, u ≠ .tbl ps) (h3 : ∀ o z, X.H₀ a ≠ some (.frz o z)) (h4 : ∀ x, u ≠ .own x) (hv : ObjOk X.prog X.w (upd H a v) s.heap a v) : Inv X pins σ (upd H a v) s := by
  have ne : ∀ b, H b = none → b ≠ a := fun b n z => by rw [z, hu] at n; cases n
  have nt : ∀ b xs, H b = some (.tup xs) → b ≠ a := fun b xs n z => by rw [z, hu] at n; exact h1 xs (Option.some.inj n)
  have no : ∀ b x, H b = some (.own x) → b ≠ a := fun b x n z => by rw [z, hu] at n; exact h4 x (Option.some.inj n)
  refine ⟨I.ok, I.os, I.bare, ⟨I.base.keep, I.base.slot, fun b o e n hx => ?_, I.base.there, fun b xs e => ?_, fun b o z e => ?_, fun b ps e => ?_⟩, I.loc, I.cell, ?_, fun x c e => ?_, fun p hp => ?_, fun b o e => ?_, I.len⟩
  · have q := I.base.free b o e n hx
    rw [upd_ne (ne b q)]; exact q
  · have q := I.base.tups b xs e
    rw [upd_ne (nt b xs q)]; exact q
  · have hb : b ≠ a := fun z' => by subst z'; exact h3 _ _ e
    rw [upd_ne hb]
    exact I.base.frzs b o z e
  · obtain ⟨m, q⟩ := I.base.tbls b ps e
    have hb : b ≠ a := fun z' => by rw [z', hu] at q; exact h2 _ (Option.some.inj q)
    exact ⟨m, by rw [upd_ne hb]; exact q⟩
  · rw [upd_ne (ne _ I.free)]; exact I.free
  · rw [upd_ne (ne _ (I.freeC x c e))]; exact I.freeC x c e
  · obtain ⟨q1, q2, q3⟩ := I.pin p hp
    exact ⟨q1, by rw [upd_ne (ne _ q2)]; exact q2, q3⟩
  · by_cases hb : b = a
    · subst hb
      rw [upd_same] at e
      cases e
      exact hv
    · rw [upd_ne hb] at e
      exact (I.hok b o e).stay (fun _ _ _ q => q) (fun c q => by rw [upd_ne (no c _ q)]; exact q) fun c xs q => by rw [upd_ne (nt c xs q)]; exact q
end
end L2
set_option Elab.async false
set_option linter.all false
set_option maxRecDepth 100000
namespace L2
open PySem PySem.Spec PyProof.Rows
section
variable {X : Cx} {elts : List Expr} {x1 : Nat} {tp : Pos}
end
end L2
set_option Elab.async false
set_option linter.all false
set_option maxRecDepth 100000
namespace L2
open PySem PySem.Spec PyProof.Rows
def LikeV (K : PySem.W.Frag) (H : Hp) : Nat → V → V → Prop
  | 0, x, y => (∃ i, x = .int i ∧ y = .int i) ∨ ∃ z, x = .str z ∧ y = .str z
  | n + 1, x, y => LikeV K H n x y ∨
    (∃ a b xs ys, x = .ref a ∧ y = .ref b ∧ SqT K H a xs ∧ SqT K H b ys ∧ xs.length = ys.length ∧ ∀ (j : Nat) x' y', xs[j]? = some x' → ys[j]? = some y' → LikeV K H n x' y') ∨
    ∃ a b xs ys, x = .ref a ∧ y = .ref b ∧ SqL K H a xs ∧ SqL K H b ys ∧ xs.length = ys.length ∧ ∀ (j : Nat) x' y', xs[j]? = some x' → ys[j]? = some y' → LikeV K H n x' y'
theorem LikeV.up {K : PySem.W.Frag} {H : Hp} {n m : Nat} {x y : V} (h : LikeV K H n x y) (hm : n ≤ m) : LikeV K H m x y := by
  induction hm with
  | refl => exact h
  | step _ ih => exact .inl ih
section
variable {X : Cx} {pins : List (Addr × Obj)} {σ : St} {H : Hp} {s : Shared}
end
def TKF (H H' : Hp) : Prop := (∀ b xs, H b = some (.tup xs) → H' b = some (.tup xs)) ∧ ∀ b o u, H b = some (.frz o u) → H' b = some (.frz o u)
theorem TKF.same {H H' : Hp} (h : Same H H') : TKF H H' := ⟨fun b xs e => h b _ e, fun b o u e => h b _ e⟩
end L2
set_option Elab.async false
set_option linter.all false
set_option maxRecDepth 100000
namespace L2
open PySem PySem.Spec PyProof.Rows PySem.W
section
variable {X : Cx} {tg : Expr}
end
end L2
set_option Elab.async false
set_option linter.all false
set_option maxRecDepth 100000
namespace L2
open PySem PySem.Spec PyProof.Rows PySem.W
section
variable {prog : Program} {w : World} {A : Around} {E : Value → Shared → Prop} {s : Shared}
end
section
variable {X : Cx} {pins : List (Addr × Obj)} {σ : St} {H : Hp} {s : Shared}
end
end L2
namespace L2
open PySem PySem.Spec PyProof.Rows PySem.W
end L2
set_option Elab.async false
set_option linter.all false
namespace L2
open PySem PySem.Spec PyProof.Rows PySem.W
def tJoin (t : TS) : TS := fun D σ H => ∃ J : St → Hp → Prop, t { D with nx := J } σ H ∧ ∀ σ' H', J σ' H' → D.nx σ' H'
theorem ps_join {X : Cx} {st : Stmt} {t : TS} (h : PS X st t) : PS X st (tJoin t) := by
  intro pins s σ H D I q
  obtain ⟨J, q, k⟩ := q
  refine thn (h pins s σ H _ I q) fun f s1 q1 => ?_
  cases f with
  | next =>
    obtain ⟨σ', H', I', e⟩ := q1
    exact ⟨σ', H', I', k _ _ e⟩
  | cont => exact q1
  | brk => exact q1
  | ret v => exact q1
end L2
set_option linter.all false
namespace BF
abbrev Tie := Nat × Nat × Int
structure St where
  v : List Int
  r : List (Option Nat)
  l : Option Nat
abbrev gv (v : List Int) (i : Nat) : Int := v.getD i 0
abbrev gr (r : List (Option Nat)) (i : Nat) : Option Nat := r.getD i none
def step (s : St) (j : Nat) (t : Tie) : St := if gv s.v t.2.1 + t.2.2 < gv s.v t.1 then ⟨s.v.set t.1 (gv s.v t.2.1 + t.2.2), s.r.set t.1 (some j), some t.1⟩ else s
theorem gv_set {v : List Int} {x i : Nat} {a : Int} (h : x < v.length) : gv (v.set x a) i = if i = x then a else gv v i := by
  unfold gv
  rw [List.getD_eq_getElem?_getD, List.getD_eq_getElem?_getD, List.getElem?_set]
  by_cases e : i = x
  · subst e; simp [h]
  · rw [if_neg (fun z => e z.symm), if_neg e]
theorem gr_set {v : List (Option Nat)} {x i : Nat} {a : Option Nat} (h : x < v.length) : gr (v.set x a) i = if i = x then a else gr v i := by
  unfold gr
  rw [List.getD_eq_getElem?_getD, List.getD_eq_getElem?_getD, List.getElem?_set]
  by_cases e : i = x
  · subst e; simp [h]
  · rw [if_neg (fun z => e z.symm), if_neg e]
inductive Path (ts : List Tie) (r : List (Option Nat)) : Nat → Nat → Nat → Int → Prop where
  | nil (u : Nat) : Path ts r u 0 u 0
  | cons {u m w j y : Nat} {c s : Int} : gr r u = some j → ts[j]? = some (u, y, c) → Path ts r y m w s → Path ts r u (m + 1) w (c + s)
structure Inv (n : Nat) (ts : List Tie) (s : St) (t : Nat → Nat) (k p : Nat) : Prop where
  lv : s.v.length = n
  lr : s.r.length = n
  lt : ∀ u, gr s.r u ≠ none → u < n
  rs : ∀ u j, gr s.r u = some j → ∃ y c, ts[j]? = some (u, y, c) ∧ y < n ∧ gv s.v y + c ≤ gv s.v u ∧ t u ≤ t y + 1 ∧ 1 ≤ t u
  has : ∀ u, 1 ≤ t u → ∃ j, gr s.r u = some j
  tk : ∀ u, t u ≤ k
  done : ∀ j x y c, j < p → ts[j]? = some (x, y, c) → gv s.v x ≤ gv s.v y + c ∨ t y = k
  wait : ∀ j x y c, p ≤ j → ts[j]? = some (x, y, c) → 2 ≤ k → gv s.v x ≤ gv s.v y + c ∨ k ≤ t y + 1
  neg : ∀ u m c, 0 < m → Path ts s.r u m u c → c < 0
  low0 : s.l = none → ∀ u, t u < k
  low1 : ∀ x, s.l = some x → t x = k ∧ x < n
def Ok (n : Nat) (ts : List Tie) : Prop := ∀ (j x y : Nat) (c : Int), ts[j]? = some (x, y, c) → x < n ∧ y < n
theorem path_set {ts : List Tie} {s : St} {x y j : Nat} {c : Int} (hx : x < s.r.length) (hj : ts[j]? = some (x, y, c)) (hlow : gv s.v y + c < gv s.v x) (hr : ∀ u j, gr s.r u = some j → ∃ y c, ts[j]? = some (u, y, c) ∧ gv s.v y + c ≤ gv s.v u) :
    ∀ {u m w : Nat} {e : Int}, Path ts (s.r.set x (some j)) u m w e → e ≤ gv s.v u - gv s.v w ∧ (e < gv s.v u - gv s.v w ∨ Path ts s.r u m w e) := by
  intro u m w e h
  induction h with
  | nil u => exact ⟨by omega, .inr (.nil u)⟩
  | @cons u m w i z d e h1 h2 h3 ih =>
    rw [gr_set hx] at h1
    by_cases hu : u = x
    · subst hu
      rw [if_pos rfl] at h1
      cases h1
      rw [hj] at h2
      cases h2
      have := ih.1
      exact ⟨by omega, .inl (by omega)⟩
    · rw [if_neg hu] at h1
      obtain ⟨z', d', e1, e2⟩ := hr u i h1
      rw [h2] at e1
      cases e1
      have := ih.1
      refine ⟨by omega, ?_⟩
      rcases ih.2 with h | h
      · exact .inl (by omega)
      · exact .inr (.cons h1 h2 h)
theorem Inv.step {n : Nat} {ts : List Tie} {s : St} {t : Nat → Nat} {k p : Nat} (I : Inv n ts s t k p) (ok : Ok n ts) (hk : 1 ≤ k) {tie : Tie} (hp : ts[p]? = some tie) : ∃ t', Inv n ts (step s p tie) t' k (p + 1) := by
  obtain ⟨x, y, c⟩ := tie
  obtain ⟨hx, hy⟩ := ok p x y c hp
  unfold BF.step
  dsimp only
  by_cases hl : gv s.v y + c < gv s.v x
  · rw [if_pos hl]
    have hxv : x < s.v.length := by rw [I.lv]; exact hx
    have hxr : x < s.r.length := by rw [I.lr]; exact hx
    have ty : k ≤ t y + 1 := by
      rcases Nat.lt_or_ge k 2 with h | h
      · omega
      · rcases I.wait p x y c (Nat.le_refl _) hp h with h | h
        · omega
        · exact h
    refine ⟨fun u => if u = x then k else t u, ?_⟩
    have hv : ∀ i, gv (s.v.set x (gv s.v y + c)) i = if i = x then gv s.v y + c else gv s.v i := fun i => gv_set hxv
    have hr : ∀ i, gr (s.r.set x (some p)) i = if i = x then some p else gr s.r i := fun i => gr_set hxr
    refine ⟨by dsimp only; rw [List.length_set]; exact I.lv, by dsimp only; rw [List.length_set]; exact I.lr, ?_, ?_, ?_, ?_, ?_, ?_, ?_, ?_, ?_⟩
    · intro u h
      dsimp only at h
      rw [hr] at h
      by_cases hu : u = x
      · rw [hu]; exact hx
      · rw [if_neg hu] at h; exact I.lt u h
    · intro u j h
      dsimp only at h ⊢
      rw [hr] at h
      by_cases hu : u = x
      · subst hu
        rw [if_pos rfl] at h
        cases h
        refine ⟨y, c, hp, hy, ?_, ?_, ?_⟩
        · rw [hv, hv, if_pos rfl]
          by_cases hyx : y = u
          · subst hyx; rw [if_pos rfl]; omega
          · rw [if_neg hyx]; omega
        · rw [if_pos rfl]
          by_cases hyx : y = u
          · rw [if_pos hyx]; omega
          · rw [if_neg hyx]; exact ty
        · rw [if_pos rfl]; exact hk
      · rw [if_neg hu] at h
        obtain ⟨z, d, e1, e2, e3, e4, e5⟩ := I.rs u j h
        refine ⟨z, d, e1, e2, ?_, ?_, ?_⟩
        · rw [hv, hv, if_neg hu]
          by_cases hz : z = x
          · rw [if_pos hz]; rw [hz] at e3; omega
          · rw [if_neg hz]; exact e3
        · rw [if_neg hu]
          by_cases hz : z = x
          · rw [if_pos hz]; have := I.tk u; omega
          · rw [if_neg hz]; exact e4
        · rw [if_neg hu]; exact e5
    · intro u h
      dsimp only at h ⊢
      rw [hr]
      by_cases hu : u = x
      · rw [if_pos hu]; exact ⟨p, rfl⟩
      · rw [if_neg hu] at h ⊢; exact I.has u h
    · intro u
      split
      · exact Nat.le_refl _
      · exact I.tk u
    · intro j x' y' c' hj he
      dsimp only
      rw [hv, hv]
      by_cases hyx : y' = x
      · exact .inr (by rw [if_pos hyx])
      · rw [if_neg hyx, if_neg hyx]
        rcases Nat.lt_or_ge j p with h | h
        · rcases I.done j x' y' c' h he with h | h
          · refine .inl ?_
            by_cases hx' : x' = x
            · rw [if_pos hx']; rw [hx'] at h; omega
            · rw [if_neg hx']; exact h
          · exact .inr h
        · have : j = p := by omega
          subst this
          rw [hp] at he
          cases he
          refine .inl ?_
          rw [if_pos rfl]
          omega
    · intro j x' y' c' hj he h2
      dsimp only
      rw [hv, hv]
      by_cases hyx : y' = x
      · exact .inr (by rw [if_pos hyx]; omega)
      · rw [if_neg hyx, if_neg hyx]
        rcases I.wait j x' y' c' (by omega) he h2 with h | h
        · refine .inl ?_
          by_cases hx' : x' = x
          · rw [if_pos hx']; rw [hx'] at h; omega
          · rw [if_neg hx']; exact h
        · exact .inr h
    · intro u m e hm hpa
      have := path_set hxr hp hl (fun u j h => by obtain ⟨z, d, e1, _, e3, _⟩ := I.rs u j h; exact ⟨z, d, e1, e3⟩) hpa
      rcases this.2 with h | h
      · omega
      · exact I.neg u m e hm h
    · intro h; cases h
    · intro z h
      cases h
      exact ⟨by rw [if_pos rfl], hx⟩
  · rw [if_neg hl]
    refine ⟨t, I.lv, I.lr, I.lt, I.rs, I.has, I.tk, ?_, ?_, I.neg, I.low0, I.low1⟩
    · intro j x' y' c' hj he
      rcases Nat.lt_or_ge j p with h | h
      · exact I.done j x' y' c' h he
      · have : j = p := by omega
        subst this
        rw [hp] at he
        cases he
        exact .inl (by omega)
    · intro j x' y' c' hj he h2
      exact I.wait j x' y' c' (by omega) he h2
theorem Inv.next {n : Nat} {ts : List Tie} {s : St} {t : Nat → Nat} {k : Nat} (I : Inv n ts s t k ts.length) : Inv n ts { s with l := none } t (k + 1) 0 := by
  refine ⟨I.lv, I.lr, I.lt, I.rs, I.has, fun u => Nat.le_succ_of_le (I.tk u), fun j _ _ _ hj => absurd hj (Nat.not_lt_zero _), ?_, I.neg, fun _ u => Nat.lt_succ_of_le (I.tk u), fun x h => by cases h⟩
  intro j x y c _ he _
  have hj : j < ts.length := (List.getElem?_eq_some_iff.mp he).1
  rcases I.done j x y c hj he with h | h
  · exact .inl h
  · exact .inr (by omega)
theorem Inv.start (n : Nat) (ts : List Tie) : Inv n ts ⟨List.replicate n 0, List.replicate n none, none⟩ (fun _ => 0) 1 0 := by
  have h0 : ∀ u, gr (List.replicate n (none : Option Nat)) u = none := fun u => by
    unfold gr
    rw [List.getD_eq_getElem?_getD, List.getElem?_replicate]
    split <;> rfl
  refine ⟨List.length_replicate, List.length_replicate, fun u h => absurd (h0 u) h, fun u j h => ?_, fun u h => absurd h (by decide), fun u => Nat.zero_le _, fun j _ _ _ hj => absurd hj (Nat.not_lt_zero _), fun j x y c _ _ h => absurd h (by decide), fun u m c hm h => ?_, fun _ u => Nat.one_pos, fun x h => by cases h⟩
  · rw [h0 u] at h; cases h
  · cases h with
    | nil => exact absurd hm (by decide)
    | cons h1 => rw [h0 u] at h1; cases h1
theorem Inv.all {n : Nat} {ts : List Tie} {s : St} {t : Nat → Nat} {k : Nat} (I : Inv n ts s t k ts.length) (h : s.l = none) : ∀ (j x y : Nat) (c : Int), ts[j]? = some (x, y, c) → gv s.v x ≤ gv s.v y + c := by
  intro j x y c he
  rcases I.done j x y c (List.getElem?_eq_some_iff.mp he).1 he with g | g
  · exact g
  · have := I.low0 h y; omega
theorem Path.det {ts : List Tie} {r : List (Option Nat)} : ∀ {u m w w' : Nat} {s s' : Int}, Path ts r u m w s → Path ts r u m w' s' → w = w' ∧ s = s' := by
  intro u m w w' s s' h
  induction h generalizing w' s' with
  | nil u => intro h'; cases h'; exact ⟨rfl, rfl⟩
  | cons h1 h2 h3 ih =>
    intro h'
    cases h' with
    | cons g1 g2 g3 =>
      rw [h1] at g1
      cases g1
      rw [h2] at g2
      cases g2
      obtain ⟨e1, e2⟩ := ih g3
      exact ⟨e1, by rw [e2]⟩
theorem Path.trans {ts : List Tie} {r : List (Option Nat)} {u m w m' w' : Nat} {s s' : Int} (h : Path ts r u m w s) (h' : Path ts r w m' w' s') : Path ts r u (m + m') w' (s + s') := by
  induction h with
  | nil u => rw [Nat.zero_add, Int.zero_add]; exact h'
  | @cons u m w j y c s h1 h2 h3 ih =>
    have := Path.cons h1 h2 (ih h')
    rw [← Int.add_assoc] at this
    rw [show m + 1 + m' = m + m' + 1 by omega]
    exact this
theorem Path.split {ts : List Tie} {r : List (Option Nat)} : ∀ {m m' u w : Nat} {s : Int}, Path ts r u (m + m') w s → ∃ z a b, Path ts r u m z a ∧ Path ts r z m' w b ∧ s = a + b
  | 0, m', u, w, s, h => ⟨u, 0, s, .nil u, by rw [Nat.zero_add] at h; exact h, by omega⟩
  | m + 1, m', u, w, s, h => by
    rw [show m + 1 + m' = m + m' + 1 by omega] at h
    cases h with
    | cons h1 h2 h3 =>
      obtain ⟨z, a, b, e1, e2, e3⟩ := Path.split h3
      exact ⟨z, _, b, .cons h1 h2 e1, e2, by omega⟩
theorem Inv.walk {n : Nat} {ts : List Tie} {s : St} {t : Nat → Nat} {k p : Nat} (I : Inv n ts s t k p) {x : Nat} (hx : x < n) : ∀ m, m ≤ t x → ∃ w c, Path ts s.r x m w c ∧ t x ≤ t w + m ∧ w < n
  | 0, _ => ⟨x, 0, .nil x, by omega, hx⟩
  | m + 1, h => by
    obtain ⟨w, c, h1, h2, h3⟩ := I.walk hx m (by omega)
    obtain ⟨j, hj⟩ := I.has w (by omega)
    obtain ⟨y, d, e1, e2, e3, e4, e5⟩ := I.rs w j hj
    refine ⟨y, c + (d + 0), h1.trans (.cons hj e1 (.nil y)), by omega, e2⟩
theorem pigeon : ∀ (n : Nat) (f : Nat → Nat), (∀ i, i ≤ n → f i < n) → ∃ i j, i < j ∧ j ≤ n ∧ f i = f j
  | 0, f, h => absurd (h 0 (Nat.le_refl _)) (Nat.not_lt_zero _)
  | n + 1, f, h => by
    by_cases hex : ∃ i, i ≤ n ∧ f i = f (n + 1)
    · obtain ⟨i, hi, e⟩ := hex
      exact ⟨i, n + 1, by omega, Nat.le_refl _, e⟩
    · obtain ⟨i, j, h1, h2, h3⟩ := pigeon n (fun i => if f i = n then f (n + 1) else f i) (fun i hi => by
        have h1 := h i (by omega)
        have h2 := h (n + 1) (Nat.le_refl _)
        have h3 : f i ≠ f (n + 1) := fun e => hex ⟨i, hi, e⟩
        split
        · next e => omega
        · next e => omega)
      have a1 : f i ≠ f (n + 1) := fun e => hex ⟨i, by omega, e⟩
      have a2 : f j ≠ f (n + 1) := fun e => hex ⟨j, h2, e⟩
      refine ⟨i, j, h1, by omega, ?_⟩
      by_cases e1 : f i = n
      · by_cases e2 : f j = n
        · omega
        · rw [if_pos e1, if_neg e2] at h3; exact absurd h3.symm a2
      · by_cases e2 : f j = n
        · rw [if_neg e1, if_pos e2] at h3; exact absurd h3 a1
        · rw [if_neg e1, if_neg e2] at h3; exact h3
theorem Inv.ring {n : Nat} {ts : List Tie} {s : St} {t : Nat → Nat} {k p : Nat} (I : Inv n ts s t k p) {x w : Nat} {c : Int} (hx : x < n) (hn : n ≤ t x) (hw : Path ts s.r x n w c) : ∃ L e, 0 < L ∧ L ≤ n ∧ Path ts s.r w L w e := by
  have key : ∀ m, ∃ z, m ≤ n → ∃ c, Path ts s.r x m z c ∧ z < n := fun m => by
    by_cases h : m ≤ n
    · obtain ⟨z, c, h1, _, h3⟩ := I.walk hx m (by omega)
      exact ⟨z, fun _ => ⟨c, h1, h3⟩⟩
    · exact ⟨0, fun z => absurd z h⟩
  obtain ⟨f, hf⟩ := Classical.axiomOfChoice key
  obtain ⟨i, j, hij, hj, e⟩ := pigeon n f fun i hi => by obtain ⟨c, _, h⟩ := hf i hi; exact h
  obtain ⟨ci, hi, _⟩ := hf i (by omega)
  obtain ⟨cj, hj', _⟩ := hf j hj
  have h1 : Path ts s.r x (i + (j - i)) (f j) cj := by rw [show i + (j - i) = j by omega]; exact hj'
  obtain ⟨z, a, b, p1, p2, _⟩ := Path.split h1
  obtain ⟨e1, _⟩ := p1.det hi
  subst e1
  rw [← e] at p2
  have h2 : Path ts s.r x (i + (n - i)) w c := by rw [show i + (n - i) = n by omega]; exact hw
  obtain ⟨z, a', b', q1, q2, _⟩ := Path.split h2
  obtain ⟨e2, _⟩ := q1.det hi
  subst e2
  have h3 := p2.trans q2
  rw [Nat.add_comm] at h3
  obtain ⟨z, a'', b'', r1, r2, _⟩ := Path.split h3
  obtain ⟨e3, _⟩ := r1.det q2
  subst e3
  exact ⟨j - i, _, by omega, by omega, r2⟩
end BF
set_option linter.all false
namespace BF
def passTo (ts : List Tie) (s : St) : Nat → St
  | 0 => { s with l := none }
  | i + 1 => match ts[i]? with
    | some t => step (passTo ts s i) i t
    | none => passTo ts s i
def s0 (n : Nat) : St := ⟨List.replicate n 0, List.replicate n none, none⟩
def stt (n : Nat) (ts : List Tie) : Nat → St
  | 0 => s0 n
  | k + 1 => passTo ts (stt n ts k) ts.length
theorem passInv {n : Nat} {ts : List Tie} {s : St} {t : Nat → Nat} {k : Nat} (ok : Ok n ts) (hk : 1 ≤ k) (I : Inv n ts { s with l := none } t k 0) : ∀ i, i ≤ ts.length → ∃ t', Inv n ts (passTo ts s i) t' k i
  | 0, _ => ⟨t, I⟩
  | i + 1, hi => by
    obtain ⟨t', I'⟩ := passInv ok hk I i (by omega)
    have hlt : i < ts.length := by omega
    show ∃ t', Inv n ts (match ts[i]? with | some t => step (passTo ts s i) i t | none => passTo ts s i) t' k (i + 1)
    rw [List.getElem?_eq_getElem hlt]
    exact I'.step ok hk (List.getElem?_eq_getElem hlt)
theorem sttInv {n : Nat} {ts : List Tie} (ok : Ok n ts) : ∀ k, ∃ t, Inv n ts (stt n ts (k + 1)) t (k + 1) ts.length
  | 0 => passInv ok (Nat.le_refl _) (Inv.start n ts) _ (Nat.le_refl _)
  | k + 1 => by
    obtain ⟨t, I⟩ := sttInv ok k
    exact passInv ok (by omega) I.next _ (Nat.le_refl _)
inductive Chain (ts : List Tie) (r : List (Option Nat)) : Nat → List Nat → Nat → Int → Prop where
  | nil (u : Nat) : Chain ts r u [] u 0
  | cons {u w j y : Nat} {es : List Nat} {c s : Int} : gr r u = some j → ts[j]? = some (u, y, c) → Chain ts r y es w s → Chain ts r u (j :: es) w (c + s)
theorem Chain.path {ts : List Tie} {r : List (Option Nat)} {u w : Nat} {es : List Nat} {s : Int} (h : Chain ts r u es w s) : Path ts r u es.length w s := by
  induction h with
  | nil u => exact .nil u
  | cons h1 h2 _ ih => exact .cons h1 h2 ih
theorem Chain.snoc {ts : List Tie} {r : List (Option Nat)} {u w j y : Nat} {es : List Nat} {s c : Int} (h : Chain ts r u es w s) (h1 : gr r w = some j) (h2 : ts[j]? = some (w, y, c)) : Chain ts r u (es ++ [j]) y (s + c) := by
  induction h with
  | nil u =>
    have := Chain.cons h1 h2 (.nil y)
    rw [Int.add_zero] at this
    rw [Int.zero_add]
    exact this
  | cons g1 g2 _ ih =>
    have := Chain.cons g1 g2 (ih h1 h2)
    rw [← Int.add_assoc] at this
    exact this
theorem Chain.at {ts : List Tie} {r : List (Option Nat)} : ∀ {es : List Nat} {u w : Nat} {s : Int}, Chain ts r u es w s → ∀ (i j : Nat), es[i]? = some j → ∃ z y c a, Path ts r u i z a ∧ gr r z = some j ∧ ts[j]? = some (z, y, c) ∧ Path ts r u (i + 1) y (a + c)
  | [], u, w, s, h, i, j, e => by simp at e
  | e :: es, u, w, s, h, 0, j, he => by
    cases h with
    | @cons _ _ _ y _ c _ h1 h2 h3 =>
      have : e = j := by simpa using he
      subst this
      refine ⟨u, y, c, 0, .nil u, h1, h2, ?_⟩
      have := Path.cons h1 h2 (.nil y)
      rw [Int.add_zero] at this
      rw [Int.zero_add]
      exact this
  | e :: es, u, w, s, h, i + 1, j, he => by
    cases h with
    | @cons _ _ _ y _ c _ h1 h2 h3 =>
      obtain ⟨z, y', c', a, p1, p2, p3, p4⟩ := Chain.at h3 i j (by simpa using he)
      refine ⟨z, y', c', c + a, .cons h1 h2 p1, p2, p3, ?_⟩
      have := Path.cons h1 h2 p4
      rw [← Int.add_assoc] at this
      exact this
structure RingAt (ts : List Tie) (r : List (Option Nat)) (w : Nat) (es : List Nat) : Prop where
  ne : es ≠ []
  ch : ∃ c, Chain ts r w es w c
  no : ∀ m z c, 0 < m → m < es.length → Path ts r w m z c → z ≠ w
theorem RingAt.unlike {ts : List Tie} {r : List (Option Nat)} {w : Nat} {es : List Nat} (h : RingAt ts r w es) : ∀ i j, i < j → j < es.length → ∀ z c c', Path ts r w i z c → Path ts r w j z c' → False := by
  intro i j hij hj z c c' p1 p2
  obtain ⟨s, hc⟩ := h.ch
  have hp := hc.path
  rw [show es.length = j + (es.length - j) by omega] at hp
  obtain ⟨z', a, b, q1, q2, _⟩ := Path.split hp
  obtain ⟨e, _⟩ := q1.det p2
  subst e
  exact h.no (i + (es.length - j)) w _ (by omega) (by omega) (p1.trans q2) rfl
inductive Ans where
  | vals (v : List Int) | ring (es : List Nat)
def Tells (n : Nat) (ts : List Tie) : Ans → Prop
  | .vals v => ∃ k, 1 ≤ k ∧ k ≤ n ∧ (∀ j, 1 ≤ j → j < k → (stt n ts j).l ≠ none) ∧ (stt n ts k).l = none ∧ v = (stt n ts k).v
  | .ring es => (∀ j, 1 ≤ j → j ≤ n → (stt n ts j).l ≠ none) ∧ ∃ x w c, (stt n ts n).l = some x ∧ Path ts (stt n ts n).r x n w c ∧ RingAt ts (stt n ts n).r w es
theorem Tells.vals_ok {n : Nat} {ts : List Tie} {v : List Int} (ok : Ok n ts) (h : Tells n ts (.vals v)) : v.length = n ∧ ∀ (j x y : Nat) (c : Int), ts[j]? = some (x, y, c) → gv v x ≤ gv v y + c := by
  obtain ⟨k, h1, h2, h3, h4, rfl⟩ := h
  obtain ⟨k, rfl⟩ : ∃ k', k = k' + 1 := ⟨k - 1, by omega⟩
  obtain ⟨t, I⟩ := sttInv ok k
  exact ⟨I.lv, I.all h4⟩
structure RingOk (ts : List Tie) (es : List Nat) : Prop where
  ne : es ≠ []
  mem : ∀ (i j : Nat), es[i]? = some j → ∃ x y c, ts[j]? = some (x, y, c)
  next : ∀ (i j j' x y x' y' : Nat) (c c' : Int), es[i]? = some j → es[(i + 1) % es.length]? = some j' → ts[j]? = some (x, y, c) → ts[j']? = some (x', y', c') → y = x'
  unlike : ∀ (i i' j j' x y y' : Nat) (c c' : Int), i < i' → es[i]? = some j → es[i']? = some j' → ts[j]? = some (x, y, c) → ts[j']? = some (x, y', c') → False
  sum : ∃ s, s < 0 ∧ s = (es.map fun j => (ts.getD j (0, 0, 0)).2.2).sum
theorem Chain.sum {ts : List Tie} {r : List (Option Nat)} {u w : Nat} {es : List Nat} {s : Int} (h : Chain ts r u es w s) : s = (es.map fun j => (ts.getD j (0, 0, 0)).2.2).sum := by
  induction h with
  | nil u => rfl
  | @cons u w j y es c s h1 h2 _ ih =>
    rw [List.map_cons, List.sum_cons, ← ih]
    congr 1
    rw [List.getD_eq_getElem?_getD, h2]
    rfl
theorem Tells.ring_ok {n : Nat} {ts : List Tie} {es : List Nat} (ok : Ok n ts) (hn : 1 ≤ n) (h : Tells n ts (.ring es)) : RingOk ts es := by
  obtain ⟨h1, x, w, c, hx, hw, R⟩ := h
  obtain ⟨k, rfl⟩ : ∃ k', n = k' + 1 := ⟨n - 1, by omega⟩
  obtain ⟨t, I⟩ := sttInv ok k
  obtain ⟨s, hc⟩ := R.ch
  have l1 : 0 < es.length := List.length_pos_iff.mpr R.ne
  refine ⟨R.ne, fun i j e => ?_, fun i j j' x y x' y' c c' e1 e2 e3 e4 => ?_, fun i i' j j' x y y' c c' hii e1 e2 e3 e4 => ?_, s, I.neg w _ s l1 hc.path, hc.sum⟩
  · obtain ⟨z, y, c, a, _, _, p3, _⟩ := hc.at i j e
    exact ⟨z, y, c, p3⟩
  · obtain ⟨z, y0, c0, a, p1, p2, p3, p4⟩ := hc.at i j e1
    rw [e3] at p3
    cases p3
    have hi : i < es.length := (List.getElem?_eq_some_iff.mp e1).1
    rcases Nat.lt_or_ge (i + 1) es.length with hlt | hge
    · rw [Nat.mod_eq_of_lt hlt] at e2
      obtain ⟨z', y0', c0', a', q1, q2, q3, q4⟩ := hc.at (i + 1) j' e2
      rw [e4] at q3
      cases q3
      exact (p4.det q1).1
    · have hieq : i + 1 = es.length := by omega
      rw [hieq, Nat.mod_self] at e2
      obtain ⟨z', y0', c0', a', q1, q2, q3, q4⟩ := hc.at 0 j' e2
      rw [e4] at q3
      cases q3
      rw [hieq] at p4
      have e5 := (p4.det hc.path).1
      cases q1
      exact e5
  · obtain ⟨z, y0, c0, a, p1, p2, p3, p4⟩ := hc.at i j e1
    obtain ⟨z', y0', c0', a', q1, q2, q3, q4⟩ := hc.at i' j' e2
    rw [e3] at p3
    cases p3
    rw [e4] at q3
    cases q3
    exact R.unlike i i' hii (List.getElem?_eq_some_iff.mp e2).1 _ _ _ p1 q1
end BF
set_option Elab.async false
set_option linter.all false
set_option maxRecDepth 100000
namespace BF
theorem Path.potential {ts : List Tie} {r : List (Option Nat)} {N : Nat → Int} (h : ∀ t ∈ ts, N t.1 - N t.2.1 ≤ t.2.2) {u m w : Nat} {c : Int} (p : Path ts r u m w c) : N u - N w ≤ c := by
  induction p with
  | nil u => omega
  | @cons u m w j y c s h1 h2 _ ih =>
    have := h (u, y, c) (List.mem_iff_getElem?.mpr ⟨j, h2⟩)
    dsimp only at this
    omega
theorem Tells.kept {n : Nat} {ts : List Tie} {a : Ans} {N : Nat → Int} (ok : Ok n ts) (hn : 1 ≤ n) (h : ∀ t ∈ ts, N t.1 - N t.2.1 ≤ t.2.2) (ha : Tells n ts a) : ∃ v, a = .vals v := by
  cases a with
  | vals v => exact ⟨v, rfl⟩
  | ring es =>
    exfalso
    obtain ⟨_, x, w, c, hx, hw, R⟩ := ha
    obtain ⟨k, rfl⟩ : ∃ k', n = k' + 1 := ⟨n - 1, by omega⟩
    obtain ⟨t, I⟩ := sttInv ok k
    obtain ⟨s, hc⟩ := R.ch
    have l1 : 0 < es.length := List.length_pos_iff.mpr R.ne
    have h1 := I.neg w _ s l1 hc.path
    have h2 := hc.path.potential h
    omega
theorem Tells.drawn {n : Nat} {ts : List Tie} {a : Ans} {N : Nat → Int} {p : Nat → Nat} {m at' : Nat} {more : Int} (ok : Ok n ts) (hm : at' < m) (h0 : more < 0)
    (h : ∀ k, k < m → (p k, p ((k + 1) % m), N (p k) - N (p ((k + 1) % m)) + (if k = at' then more else 0)) ∈ ts) (ha : Tells n ts a) : ∃ es, a = .ring es := by
  cases a with
  | ring es => exact ⟨es, rfl⟩
  | vals v =>
    exfalso
    obtain ⟨_, hv⟩ := ha.vals_ok ok
    have step : ∀ k, k < m → gv v (p k) - N (p k) ≤ gv v (p ((k + 1) % m)) - N (p ((k + 1) % m)) + (if k = at' then more else 0) := fun k hk => by
      obtain ⟨j, hj⟩ := List.mem_iff_getElem?.mp (h k hk)
      have := hv j _ _ _ hj
      omega
    have walk : ∀ j, j < m → gv v (p ((at' + 1) % m)) - N (p ((at' + 1) % m)) ≤ gv v (p ((at' + 1 + j) % m)) - N (p ((at' + 1 + j) % m)) := by
      intro j
      induction j with
      | zero => intro _; exact Int.le_refl _
      | succ j ih =>
        intro hj
        have i1 := ih (by omega)
        have hlt : (at' + 1 + j) % m < m := Nat.mod_lt _ (by omega)
        have st := step _ hlt
        have hne : (at' + 1 + j) % m ≠ at' := by
          intro e
          rcases Nat.lt_or_ge (at' + 1 + j) m with g | g
          · rw [Nat.mod_eq_of_lt g] at e; omega
          · rw [Nat.mod_eq_sub_mod g, Nat.mod_eq_of_lt (by omega)] at e; omega
        rw [if_neg hne] at st
        have e2 : ((at' + 1 + j) % m + 1) % m = (at' + 1 + (j + 1)) % m := by rw [Nat.mod_add_mod]; rfl
        rw [e2] at st
        omega
    have w := walk (m - 1) (by omega)
    have e3 : (at' + 1 + (m - 1)) % m = at' := by
      rw [show at' + 1 + (m - 1) = at' + m by omega, Nat.add_mod_right, Nat.mod_eq_of_lt hm]
    rw [e3] at w
    have s := step at' hm
    rw [if_pos rfl] at s
    omega
end BF
set_option Elab.async false
set_option linter.all false
set_option maxRecDepth 100000
set_option maxHeartbeats 2000000
namespace LW
open PySem L2
def top (i : Nat) : Stmt := PySem.Challenge.pw_outlineward_k32_whole_long_rings.main.body.getD i (.Pass ⟨0, 0, 0, 0⟩)
theorem same_new {H : Hp} {p : Addr} (h : H p = none) (o : HO) : Same H (upd H p o) := fun b u q => by rw [upd_ne (ne_of_none q h)]; exact q
theorem small {n : Nat} (h : n ≤ 1000) : n ≤ sizeLine := Nat.le_of_lt (small1000 h)
theorem sm {n : Nat} (h : n.ble 1000 = true) : n ≤ sizeLine := small (Nat.le_of_ble_eq_true h)
theorem at_map {ns : List Int} {k : Int} (h0 : 0 ≤ k) (h : k < (ns.length : Int)) : atI (ns.map V.int) k = some (.int (ns.getD k.toNat 0)) := by
  have hk : k.toNat < ns.length := by omega
  have ek : k = ((k.toNat : Nat) : Int) := by omega
  have q : atI (ns.map V.int) ((k.toNat : Nat) : Int) = some (.int (ns.getD k.toNat 0)) := atI_nat (by rw [List.getElem?_map, List.getElem?_eq_getElem hk, List.getD_eq_getElem?_getD, List.getElem?_eq_getElem hk] <;> rfl)
  rw [← ek] at q
  exact q
abbrev sSettled : Stmt := top 1
abbrev sLower_once : Stmt := top 2
abbrev sRing_behind : Stmt := top 3
abbrev tieV (t : BF.Tie) : List V := [.int t.1, .int t.2.1, .int t.2.2]
def TiesAt (H : Hp) (qs : List V) (ts : List BF.Tie) : Prop := qs.length = ts.length ∧ ∀ (i : Nat) t, ts[i]? = some t → ∃ c, qs[i]? = some (.ref c) ∧ H c = some (.tup (tieV t))
theorem TiesAt.keep {H H' : Hp} {qs : List V} {ts : List BF.Tie} (h : TiesAt H qs ts) (k : ∀ b xs, H b = some (.tup xs) → H' b = some (.tup xs)) : TiesAt H' qs ts := ⟨h.1, fun i t e => by
  obtain ⟨c, e1, e2⟩ := h.2 i t e
  exact ⟨c, e1, k _ _ e2⟩⟩
theorem TiesAt.mono {H H' : Hp} {qs : List V} {ts : List BF.Tie} (h : TiesAt H qs ts) (s : Same H H') : TiesAt H' qs ts := h.keep fun b xs e => s b _ e
def rV (qs : List V) (r : List (Option Nat)) : List V := r.map fun o => match o with | none => V.non | some j => qs.getD j .non
def lV : Option Nat → V
  | none => .non
  | some x => .int x
theorem gv_at {v : List Int} {y : Nat} (h : y < v.length) : atI (v.map V.int) (y : Int) = some (.int (BF.gv v y)) := atI_nat (by
  unfold BF.gv
  rw [List.getElem?_map, List.getElem?_eq_getElem h, List.getD_eq_getElem?_getD, List.getElem?_eq_getElem h] <;> rfl)
theorem ix_nat {n j : Nat} (h : j < n) : ixN n (j : Int) = some j := by
  unfold ixN
  rw [if_pos (by omega), if_pos (by omega)]; simp
theorem passTo_len (ts : List BF.Tie) (s : BF.St) : ∀ i, (BF.passTo ts s i).v.length = s.v.length ∧ (BF.passTo ts s i).r.length = s.r.length
  | 0 => ⟨rfl, rfl⟩
  | i + 1 => by
    have ih := passTo_len ts s i
    show (match ts[i]? with | some t => BF.step (BF.passTo ts s i) i t | none => BF.passTo ts s i).v.length = _ ∧ (match ts[i]? with | some t => BF.step (BF.passTo ts s i) i t | none => BF.passTo ts s i).r.length = _
    cases ts[i]? with
    | none => exact ih
    | some t =>
      dsimp only
      unfold BF.step
      split
      · exact ⟨by dsimp only; rw [List.length_set]; exact ih.1, by dsimp only; rw [List.length_set]; exact ih.2⟩
      · exact ih
theorem passTo_succ {ts : List BF.Tie} {s : BF.St} {i : Nat} (h : i < ts.length) : BF.passTo ts s (i + 1) = BF.step (BF.passTo ts s i) i ts[i] := by
  show (match ts[i]? with | some t => BF.step (BF.passTo ts s i) i t | none => BF.passTo ts s i) = _
  rw [List.getElem?_eq_getElem h]
def spLower : Sp := fun vs H Q _ => ∃ (va ra tl : Addr) (qs : List V) (ts : List BF.Tie) (n : Nat) (s : BF.St), vs = [.ref va, .ref ra, .ref tl] ∧ va ≠ ra ∧ tl ≠ va ∧ tl ≠ ra ∧ H va = some (.lst (s.v.map V.int)) ∧ H ra = some (.lst (rV qs s.r)) ∧ H tl = some (.lst qs) ∧ TiesAt H qs ts ∧ BF.Ok n ts ∧ s.v.length = n ∧ s.r.length = n ∧
  ∀ H', (∀ b o, b ≠ va → b ≠ ra → H b = some o → H' b = some o) → H' va = some (.lst ((BF.passTo ts s ts.length).v.map V.int)) → H' ra = some (.lst (rV qs (BF.passTo ts s ts.length).r)) → Q (lV (BF.passTo ts s ts.length).l) H'
def spBehind : Sp := fun vs H Q _ => ∃ (x w L : Nat) (ra : Addr) (qs : List V) (ts : List BF.Tie) (r : List (Option Nat)) (c e : Int), vs = [.int x, .ref ra] ∧ H ra = some (.lst (rV qs r)) ∧ TiesAt H qs ts ∧ BF.Path ts r x r.length w c ∧ 0 < L ∧ BF.Path ts r w L w e ∧ L ≤ 900 ∧
  ∀ l es H', Same H H' → H l = none → H' l = some (.lst (es.map fun j => qs.getD j .non)) → BF.RingAt ts r w es → es.length ≤ L → Q (.ref l) H'
theorem reason_at {H : Hp} {qs : List V} {ts : List BF.Tie} {r : List (Option Nat)} {u j y : Nat} {c : Int} (hT : TiesAt H qs ts) (h1 : BF.gr r u = some j) (h2 : ts[j]? = some (u, y, c)) : ∃ a, atI (rV qs r) (u : Int) = some (.ref a) ∧ H a = some (.tup [.int u, .int y, .int c]) ∧ qs.getD j .non = .ref a := by
  obtain ⟨a, e1, e2⟩ := hT.2 j _ h2
  have eq : qs.getD j .non = .ref a := by rw [List.getD_eq_getElem?_getD, e1]; rfl
  refine ⟨a, atI_nat ?_, e2, eq⟩
  have hu : u < r.length := by
    rcases Nat.lt_or_ge u r.length with g | g
    · exact g
    · unfold BF.gr at h1
      rw [List.getD_eq_getElem?_getD, List.getElem?_eq_none g] at h1
      cases h1
  unfold rV
  rw [List.getElem?_map, List.getElem?_eq_getElem hu]
  have h1' : r[u] = some j := by
    unfold BF.gr at h1
    rw [List.getD_eq_getElem?_getD, List.getElem?_eq_getElem hu] at h1
    exact h1
  rw [h1']
  show some (qs.getD j .non) = _
  rw [eq]
theorem least_ring {ts : List BF.Tie} {r : List (Option Nat)} {w : Nat} : ∀ (L : Nat) (e : Int), 0 < L → BF.Path ts r w L w e → ∃ M e', 0 < M ∧ M ≤ L ∧ BF.Path ts r w M w e' ∧ ∀ m z c, 0 < m → m < M → BF.Path ts r w m z c → z ≠ w := by
  intro L
  induction L using Nat.strongRecOn with
  | ind L ih =>
    intro e hL hp
    by_cases h : ∃ m c, 0 < m ∧ m < L ∧ BF.Path ts r w m w c
    · obtain ⟨m, c, h1, h2, h3⟩ := h
      obtain ⟨M, e', g1, g2, g3, g4⟩ := ih m h2 c h1 h3
      exact ⟨M, e', g1, by omega, g3, g4⟩
    · refine ⟨L, e, hL, Nat.le_refl _, hp, fun m z c h1 h2 h3 hz => h ⟨m, c, h1, h2, by rw [← hz]; rw [← hz] at h3; exact h3⟩⟩
section
variable {P : Program} {w : World} {K : PySem.W.Frag} {mg : Str → Option Value} {base : Heap}
theorem ok_lower {f : Addr} {fd : FuncData} (F : Fun K "lower_once" "lower_once" sLower_once f fd) : FnOk P w K mg base CX0 1 f fd ["values", "reasons", "ties"] spLower := by
  have sc : FnScope ["values", "reasons", "ties", "lowered", "tie", "x", "y", "c"] ["values", "reasons", "ties"] (defScope sLower_once) := ⟨rfl, rfl, rfl, by decide +kernel, rfl, by decide +kernel, by decide +kernel⟩
  refine F.ok sc (fun vs H Q E h => ?_) (fun cdv A outer s H vs Q E hr h => ?_)
  · obtain ⟨va, ra, tl, qs, ts, n, s, rfl, _⟩ := h
    rfl
  obtain ⟨va, ra, tl, qs, ts, n, st, rfl, nvr, ntv, ntr, hva, hra, htl, hT, ok, lv, lr, q⟩ := h
  refine ⟨_, (pss_cons (ps_set (i := 3) sc.nd rfl (by first | exact Or.inl rfl | exact Or.inr rfl) pe_non)
      (pss_cons (ps_for PassesOwn.never rfl (pi_list (pv 2)) (pg_name (i := 4) sc.nd rfl (by first | exact Or.inl rfl | exact Or.inr rfl)) (pss_cons (ps_asg (pv 4) (pg_tup rfl (pgs_cons (pg_name (i := 5) sc.nd rfl (by first | exact Or.inl rfl | exact Or.inr rfl)) (pgs_cons (pg_name (i := 6) sc.nd rfl (by first | exact Or.inl rfl | exact Or.inr rfl)) (pgs_cons (pg_name (i := 7) sc.nd rfl (by first | exact Or.inl rfl | exact Or.inr rfl)) pgs_nil)))))
      (pss_one (ps_if (pt_cmpR op_lt (pe_op op_add (pe_ix ix_list (pv 0) (pv 6) (fun _ _ => rfl)) (pv 7)) (pe_ix ix_list (pv 0) (pv 5) (fun _ _ => rfl)) (nomark _)) (pss_cons (ps_asg (pe_op op_add (pe_ix ix_list (pv 0) (pv 6) (fun _ _ => rfl)) (pv 7)) (pg_sub (pv 0) (pv 5) set_list))
      (pss_cons (ps_asg (pv 4) (pg_sub (pv 1) (pv 5) set_list))
      (pss_one (ps_set (i := 3) sc.nd rfl (by first | exact Or.inl rfl | exact Or.inr rfl) (pv 5))))) pss_nil))))
      (pss_one (ps_ret (pv 3))))), ?_⟩
  refine ⟨_, rfl, tl, rfl, ⟨_, SqL.of htl⟩, for_list (xs := qs) (fun i σ G => ∃ x4 x5 x6 x7, σ = [some (.ref va), some (.ref ra), some (.ref tl), some (lV (BF.passTo ts st i).l), x4, x5, x6, x7] ∧ (∀ b o, b ≠ va → b ≠ ra → H b = some o → G b = some o) ∧ G va = some (.lst ((BF.passTo ts st i).v.map V.int)) ∧ G ra = some (.lst (rV qs (BF.passTo ts st i).r))) ⟨none, none, none, none, rfl, fun b o _ _ e => e, hva, hra⟩ ?_ ?_ ?_⟩
  · rintro i σ G _ ⟨x4, x5, x6, x7, rfl, k, _⟩
    exact SqL.of (k _ _ ntv ntr htl)
  · rintro i y σ G hy ⟨x4, x5, x6, x7, rfl, k, hGv, hGr⟩
    have hi : i < ts.length := by
      have := (List.getElem?_eq_some_iff.mp hy).1
      have := hT.1
      omega
    obtain ⟨a, e1, e2⟩ := hT.2 i ts[i] (List.getElem?_eq_getElem hi)
    rw [hy] at e1
    cases e1
    have ha : G a = some (.tup (tieV ts[i])) := k _ _ (ne_of e2 hva (by intro z; cases z)) (ne_of e2 hra (by intro z; cases z)) e2
    have hok := ok i ts[i].1 ts[i].2.1 ts[i].2.2 (List.getElem?_eq_getElem hi)
    have hl := passTo_len ts st i
    have hqi : qs.getD i .non = .ref a := by rw [List.getD_eq_getElem?_getD, hy]; rfl
    rw [passTo_succ hi]
    generalize BF.passTo ts st i = S at *
    generalize ts[i] = t at *
    obtain ⟨x, y, c⟩ := t
    dsimp only at hok ha
    have hx : x < S.v.length := by omega
    have hy' : y < S.v.length := by omega
    refine ⟨_, rfl, a, _, rfl, SqT.of ha, rfl, _, _, rfl, _, _, rfl, _, _, rfl, rfl, ?_⟩
    refine ⟨_, rfl, _, rfl, va, _, _, _, rfl, rfl, SqL.of hGv, gv_at hy', _, rfl, _, _, rfl, rfl, _, rfl, _, rfl, va, _, _, _, rfl, rfl, SqL.of hGv, gv_at hx, _, _, rfl, rfl, _, rfl, ?_⟩
    unfold BF.step
    dsimp only
    refine ite2 (fun d => ?_) (fun d => ?_)
    · have d' := of_decide_eq_true d
      rw [if_pos d']
      refine ⟨_, rfl, _, rfl, va, _, _, _, rfl, rfl, SqL.of hGv, gv_at hy', _, rfl, _, _, rfl, rfl, ?_⟩
      refine ⟨_, rfl, _, rfl, va, _, _, x, rfl, rfl, hGv, ix_nat (by rw [List.length_map]; exact hx), ?_⟩
      have hGr2 : upd G va (.lst ((S.v.map V.int).set x (V.int (BF.gv S.v y + c)))) ra = some (.lst (rV qs S.r)) := by rw [upd_ne nvr.symm]; exact hGr
      refine ⟨_, rfl, _, rfl, _, rfl, ra, _, _, x, rfl, rfl, hGr2, ix_nat (by unfold rV; rw [List.length_map]; omega), ?_⟩
      refine ⟨_, rfl, _, _, _, _, rfl, fun b o h1 h2 e => ?_, ?_, ?_⟩
      · rw [upd_ne h2, upd_ne h1]; exact k b o h1 h2 e
      · rw [upd_ne nvr, upd_same, List.map_set]
      · rw [upd_same]
        unfold rV
        rw [List.map_set]
        dsimp only
        rw [hqi]
    · have d' : ¬ BF.gv S.v y + c < BF.gv S.v x := fun z => d (decide_eq_true z)
      rw [if_neg d']
      exact ⟨_, _, _, _, rfl, k, hGv, hGr⟩
  · rintro σ G ⟨x4, x5, x6, x7, rfl, k, hGv, hGr⟩
    rw [hT.1] at hGv hGr
    refine ⟨_, rfl, ?_⟩
    rw [hT.1]
    exact q G k hGv hGr
theorem ok_behind {f : Addr} {fd : FuncData} (F : Fun K "ring_behind" "ring_behind" sRing_behind f fd) : FnOk P w K mg base CX0 1 f fd ["lowered", "reasons"] spBehind := by
  have sc : FnScope ["lowered", "reasons", "unknown", "step", "ring"] ["lowered", "reasons"] (defScope sRing_behind) := ⟨rfl, rfl, rfl, by decide +kernel, rfl, by decide +kernel, by decide +kernel⟩
  refine F.ok sc (fun vs H Q E h => ?_) (fun cdv A outer s H vs Q E hr h => ?_)
  · obtain ⟨x, u, L, ra, qs, ts, r, c, e, rfl, _⟩ := h
    rfl
  obtain ⟨x, u, L, ra, qs, ts, r, c, e, rfl, hra, hT, hp, hL0, hL, hL9, q⟩ := h
  refine ⟨_, (pss_cons (ps_set (i := 2) sc.nd rfl (by first | exact Or.inl rfl | exact Or.inr rfl) (pv 0))
      (pss_cons (ps_for PassesOwn.never rfl (pi_list (pv 1)) (pg_name (i := 3) sc.nd rfl (by first | exact Or.inl rfl | exact Or.inr rfl)) (pss_one (ps_set (i := 2) sc.nd rfl (by first | exact Or.inl rfl | exact Or.inr rfl) (pe_ix ix_tup (pe_ix ix_list (pv 1) (pv 2) (fun _ _ => rfl)) pe_int (fun _ _ => rfl)))))
      (pss_cons (ps_set (i := 4) sc.nd rfl (by first | exact Or.inl rfl | exact Or.inr rfl) (pe_lst (pa_c (pe_ix ix_list (pv 1) (pv 2) (fun _ _ => rfl)) pa_nil)))
      (pss_cons (ps_while PassesOwn.never (pt_cmpR op_ne (pe_ix ix_tup (pe_ix ix_list (pv 4) (pe_un un_neg pe_int) (fun _ _ => rfl)) pe_int (fun _ _ => rfl)) (pv 2) (nomark _)) (pss_one (ps_expr (pe_bm PySem.F.plainAttrs_list PySem.F.slot_list_append PySem.F.type_list_append mt_append (pv 4) (pa_c (pe_ix ix_list (pv 1) (pe_ix ix_tup (pe_ix ix_list (pv 4) (pe_un un_neg pe_int) (fun _ _ => rfl)) pe_int (fun _ _ => rfl)) (fun _ _ => rfl)) pa_nil)))))
      (pss_one (ps_ret (pv 4))))))), ?_⟩
  refine ⟨_, rfl, _, rfl, ra, rfl, ⟨_, SqL.of hra⟩, ?_⟩
  have hlr : (rV qs r).length = r.length := by unfold rV; rw [List.length_map]
  refine for_list (xs := rV qs r) (fun i σ G => ∃ (z : Nat) (a : Int) (x3 : Option V), σ = [some (.int x), some (.ref ra), some (.int z), x3, none] ∧ G = H ∧ BF.Path ts r x i z a) ⟨x, 0, none, rfl, rfl, .nil x⟩ ?_ ?_ ?_
  · rintro i σ G _ ⟨z, a, x3, rfl, rfl, _⟩
    exact SqL.of hra
  · rintro i y σ G hy ⟨z, a, x3, rfl, rfl, hpi⟩
    have hi : i < r.length := by
      have := (List.getElem?_eq_some_iff.mp hy).1
      omega
    have hp' := hp
    rw [show r.length = i + ((r.length - i - 1) + 1) by omega] at hp'
    obtain ⟨z', a', b', p1, p2, _⟩ := BF.Path.split hp'
    obtain ⟨e1, _⟩ := p1.det hpi
    subst e1
    cases p2 with
    | @cons _ _ _ j y' c' s' h1 h2 h3 =>
      obtain ⟨t, g1, g2, _⟩ := reason_at hT h1 h2
      refine ⟨_, rfl, _, rfl, ra, _, _, _, rfl, rfl, SqL.of hra, g1, t, _, _, _, rfl, rfl, SqT.of g2, rfl, ?_⟩
      exact ⟨y', _, _, rfl, rfl, hpi.trans (.cons h1 h2 (.nil y'))⟩
  rintro σ G ⟨z, a, x3, rfl, rfl, hpi⟩
  rw [hlr] at hpi
  obtain ⟨e1, _⟩ := hpi.det hp
  subst e1
  obtain ⟨M, e', hM0, hML, hM, hMno⟩ := least_ring L e hL0 hL
  obtain ⟨M, rfl⟩ : ∃ M', M = M' + 1 := ⟨M - 1, by omega⟩
  have hM' := hM
  cases hM' with
  | @cons _ _ _ j y' c' s' h1 h2 h3 =>
  obtain ⟨t, g1, g2, g3⟩ := reason_at hT h1 h2
  refine ⟨_, rfl, _, rfl, ra, _, _, _, rfl, rfl, SqL.of hra, g1, sm rfl, fun l hl => ?_⟩
  have s1 := same_new hl (.lst [V.ref t])
  have e1 : upd G l (.lst [V.ref t]) l = some (.lst [V.ref t]) := upd_same
  generalize upd G l (.lst [V.ref t]) = G1 at *
  refine while_by (fun σ G' => ∃ (es0 : List Nat) (j z0 y0 : Nat) (c0 s0 : Int), σ = [some (.int x), some (.ref ra), some (.int z), x3, some (.ref l)] ∧ Same G G' ∧ G' l = some (.lst ((es0 ++ [j]).map fun j => qs.getD j .non)) ∧ BF.Chain ts r z es0 z0 s0 ∧ BF.gr r z0 = some j ∧ ts[j]? = some (z0, y0, c0) ∧ es0.length < M + 1 ∧ ∀ m v c, 0 < m → m < es0.length + 1 → BF.Path ts r z m v c → v ≠ z)
    (fun _ G' => match G' l with | some (.lst xs) => M + 2 - xs.length | _ => 0) ?_ ?_ ?_
  · refine ⟨[], j, z, y', c', 0, rfl, s1, ?_, .nil z, h1, h2, Nat.succ_pos _, fun m v c h1 h2 => by simp at h2; omega⟩
    rw [e1]
    show _ = some (HO.lst [qs.getD j .non])
    rw [g3]
  · rintro σ G' ⟨es0, j, z0, y0, c0, s0, rfl, sG, hGl, hch, k1, k2, hlen, hno⟩
    have hT' := hT.mono sG
    have hra' := sG _ _ hra
    obtain ⟨a0, q1, q2, q3⟩ := reason_at hT' k1 k2
    have hlast : atI ((es0 ++ [j]).map fun j => qs.getD j .non) (-1) = some (.ref a0) := by
      rw [List.map_append]
      show atI (_ ++ [qs.getD j .non]) (-1) = _
      rw [q3]
      exact atI_last _ _
    refine ⟨_, rfl, _, rfl, l, _, _, _, rfl, rfl, SqL.of hGl, hlast, a0, _, _, _, rfl, rfl, SqT.of q2, rfl, _, rfl, rfl, _, rfl, ite2 (fun d => ?_) (fun d => ?_)⟩
    · have d' : y0 ≠ z := by
        intro e
        rw [e] at d
        simp at d
      have hch' := hch.snoc k1 k2
      have hpl := hch'.path
      rw [List.length_append, List.length_singleton] at hpl
      have hlt : es0.length + 1 < M + 1 := by
        rcases Nat.lt_or_ge (es0.length + 1) (M + 1) with g | g
        · exact g
        · have : es0.length + 1 = M + 1 := by omega
          rw [this] at hpl
          exact absurd (hpl.det hM).1 d'
      have hM2 := hM
      rw [show M + 1 = (es0.length + 1) + ((M - es0.length - 1) + 1) by omega] at hM2
      obtain ⟨v, a1, b1, p1, p2, _⟩ := BF.Path.split hM2
      obtain ⟨ev, _⟩ := p1.det hpl
      subst ev
      cases p2 with
      | @cons _ _ _ j2 y2 c2 s2 m1 m2 m3 =>
      obtain ⟨a2, r1, r2, r3⟩ := reason_at hT' m1 m2
      refine ⟨_, rfl, .inl ⟨rfl, _, SqL.of hGl⟩, _, rfl, _, rfl, _, rfl, l, _, _, _, rfl, rfl, SqL.of hGl, hlast, a0, _, _, _, rfl, rfl, SqT.of q2, rfl, ra, _, _, _, rfl, rfl, SqL.of hra', r1, l, _, _, rfl, rfl, hGl, small1000 (by rw [List.length_map, List.length_append, List.length_singleton]; omega), ?_⟩
      refine ⟨⟨es0 ++ [j], j2, _, y2, c2, _, rfl, fun b o e => ?_, ?_, hch', m1, m2, by rw [List.length_append, List.length_singleton]; exact hlt, fun m v c h1 h2 h3 => ?_⟩, ?_⟩
      · rw [upd_ne (ne_of_none e hl)]; exact sG _ _ e
      · rw [upd_same, List.map_append (l₁ := es0 ++ [j])]
        show _ = some (HO.lst (_ ++ [qs.getD j2 .non]))
        rw [r3]
      · rw [List.length_append, List.length_singleton] at h2
        rcases Nat.lt_or_ge m (es0.length + 1) with g | g
        · exact hno m v c h1 g h3
        · have : m = es0.length + 1 := by omega
          subst this
          rw [(h3.det hpl).1]
          exact d'
      · show (match upd G' l _ l with | some (.lst xs) => M + 2 - xs.length | _ => 0) < (match G' l with | some (.lst xs) => M + 2 - xs.length | _ => 0)
        rw [upd_same, hGl]
        show M + 2 - _ < M + 2 - _
        rw [List.length_append, List.length_map, List.length_append, List.length_singleton, List.length_singleton]
        omega
    · have d' : y0 = z := by
        apply Classical.byContradiction
        intro e
        apply d
        simp
        omega
      subst d'
      have hch' := hch.snoc k1 k2
      refine ⟨_, rfl, q l (es0 ++ [j]) G' sG hl hGl ⟨by simp, ⟨_, hch'⟩, fun m v c h1 h2 h3 => hno m v c h1 (by rw [List.length_append, List.length_singleton] at h2; exact h2) h3⟩ (by rw [List.length_append, List.length_singleton]; omega)⟩
  · intro σ H1 Q1 Q2 hm h
    obtain ⟨v1, e1, i0, e0, p, xs, i, v, e2, e3, e4, e5, p2, xs2, i2, v2, f2, f3, f4, f5, v3, f6, f7, k, f8, h⟩ := h
    exact ⟨v1, e1, i0, e0, p, xs, i, v, e2, e3, e4, e5, p2, xs2, i2, v2, f2, f3, f4, f5, v3, f6, f7, k, f8, hm _ _ h⟩
end
end LW
set_option Elab.async false
set_option linter.all false
set_option maxRecDepth 100000
set_option maxHeartbeats 2000000
namespace LW
open PySem L2
def nmA : BF.Ans → Str
  | .vals _ => "values"
  | .ring _ => "ring"
def outA (qs : List V) : BF.Ans → List V
  | .vals v => (v.map fun x => x - BF.gv v 0).map V.int
  | .ring es => es.map fun j => qs.getD j .non
def lenA (n : Nat) : BF.Ans → Prop
  | .vals v => v.length = n
  | .ring es => es.length ≤ n
def spSettled : Sp := fun vs H Q _ => ∃ (n : Nat) (tl : Addr) (qs : List V) (ts : List BF.Tie), vs = [.int n, .ref tl] ∧ 1 ≤ n ∧ n ≤ 900 ∧ H tl = some (.lst qs) ∧ TiesAt H qs ts ∧ BF.Ok n ts ∧
  ∀ a t l H', BF.Tells n ts a → lenA n a → Same H H' → H t = none → H l = none → t ≠ l → H' t = some (.tup [.str (nmA a), .ref l]) → H' l = some (.lst (outA qs a)) → Q (.ref t) H'
theorem rV_rep (qs : List V) (n : Nat) : rV qs (List.replicate n none) = List.replicate n V.non := by
  unfold rV
  rw [List.map_replicate]
theorem lV_not {o : Option Nat} : (!decide (lV o = V.non)) = true ↔ o ≠ none := by
  cases o <;> simp [lV]
def leftN (n : Nat) (σ : St) : Nat := match σ[4]? with
  | some (some (V.int t)) => ((n : Int) - t).toNat
  | _ => 0
section
variable {P : Program} {w : World} {K : PySem.W.Frag} {mg : Str → Option Value} {base : Heap}
theorem ok_settled {f : Addr} {fd : FuncData} (B : Free0 mg) (F : Fun K "settled" "settled" sSettled f fd) (F_lower_once : Fn P w K mg base 1 "lower_once" ["values", "reasons", "ties"] spLower) (F_ring_behind : Fn P w K mg base 1 "ring_behind" ["lowered", "reasons"] spBehind) : FnOk P w K mg base CX0 2 f fd ["count", "ties"] spSettled := by
  have sc : FnScope ["count", "ties", "values", "reasons", "turns", "lowered"] ["count", "ties"] (defScope sSettled) := ⟨rfl, rfl, rfl, by decide +kernel, rfl, by decide +kernel, by decide +kernel⟩
  refine F.ok sc (fun vs H Q E h => ?_) (fun cdv A outer s H vs Q E hr h => ?_)
  · obtain ⟨n, tl, qs, ts, rfl, _⟩ := h
    rfl
  obtain ⟨n, tl, qs, ts, rfl, hn1, hn9, htl, hT, ok, q⟩ := h
  refine ⟨_, (pss_cons (ps_set (i := 2) sc.nd rfl (by first | exact Or.inl rfl | exact Or.inr rfl) (pe_comp ["unknown"] [] rfl (comp_ok (sc := defScope sSettled) (N := ["count", "ties", "values", "reasons", "turns", "lowered"]) rfl rfl (by decide +kernel)) (pi_range1 (by rfl) B.range_ (pa_c (pv 0) pa_nil)) (fun s H ex => ⟨(pg_name (i := 0) (show List.Nodup (["unknown"] : List Str) by decide +kernel) rfl (by first | exact Or.inl rfl | exact Or.inr rfl)), pts_nil, pe_int⟩)))
      (pss_cons (ps_setcomp (i := 3) sc.nd rfl (by first | exact Or.inl rfl | exact Or.inr rfl) ["unknown"] [] rfl (comp_ok (sc := defScope sSettled) (N := ["count", "ties", "values", "reasons", "turns", "lowered"]) rfl rfl (by decide +kernel)) (pi_range1 (by rfl) B.range_ (pa_c (pv 0) pa_nil)) (fun s H ex => ⟨(pg_name (i := 0) (show List.Nodup (["unknown"] : List Str) by decide +kernel) rfl (by first | exact Or.inl rfl | exact Or.inr rfl)), pts_nil, pe_non⟩))
      (pss_cons (ps_set (i := 4) sc.nd rfl (by first | exact Or.inl rfl | exact Or.inr rfl) pe_int)
      (pss_cons (ps_set (i := 5) sc.nd rfl (by first | exact Or.inl rfl | exact Or.inr rfl) (pe_fn F_lower_once hr (pa_c (pv 2) (pa_c (pv 3) (pa_c (pv 1) pa_nil)))))
      (pss_cons (ps_while PassesOwn.never (pt_cmpR op_notN (pv 5) pe_non (nomark _)) (pss_cons (ps_if (pt_cmpR op_eq (pv 4) (pv 0) (nomark _)) (pss_one (ps_ret (pe_tup (pa_c pe_str (pa_c (pe_fn F_ring_behind hr (pa_c (pv 5) (pa_c (pv 3) pa_nil))) pa_nil))))) pss_nil)
      (pss_cons (ps_set (i := 5) sc.nd rfl (by first | exact Or.inl rfl | exact Or.inr rfl) (pe_fn F_lower_once hr (pa_c (pv 2) (pa_c (pv 3) (pa_c (pv 1) pa_nil)))))
      (pss_one (ps_aug (i := 4) sc.nd rfl (by first | exact Or.inl rfl | exact Or.inr rfl) pe_int ip_add)))))
      (pss_one (ps_ret (pe_tup (pa_c pe_str (pa_c (pe_comp ["value"] [2] rfl (comp_ok (sc := defScope sSettled) (N := ["count", "ties", "values", "reasons", "turns", "lowered"]) rfl rfl (by decide +kernel)) (pi_list (pv 2)) (fun s H ex => ⟨(pg_name (i := 0) (show List.Nodup (["value", "values"] : List Str) by decide +kernel) rfl (by first | exact Or.inl rfl | exact Or.inr rfl)), pts_nil, (pe_op op_sub (pv 0) (pe_ix (ix_listK (K := K)) (pv 1) pe_int (fun _ _ => rfl)))⟩)) pa_nil)))))))))), ?_⟩
  have en : ((n : Nat) : Int).toNat = n := by omega
  refine ⟨_, rfl, _, rfl, (by omega), (by omega), fun p1 hp1 => ?_⟩
  rw [en]
  refine comp_range (fun i σ' H' => ∃ v, σ' = [v] ∧ Same H H' ∧ H' p1 = some (.lst ((List.replicate i (0 : Int)).map V.int))) ⟨none, rfl, same_new hp1 _, upd_same⟩ ?_ ?_
  · rintro i σ' H1 hi ⟨v, rfl, s1, e1⟩
    unfold gName tYes
    refine iteT ?_
    refine ⟨_, e1, (by rw [List.length_map, List.length_replicate]; exact small1000 (by omega)), _, rfl, ?_, ?_⟩
    · intro b o e
      rw [upd_ne (ne_of_none e hp1)]
      exact s1 _ _ e
    · rw [upd_same, List.replicate_succ', List.map_append]
      rfl
  rintro σ' H1 ⟨v, rfl, s1, e1⟩
  refine ⟨_, rfl, _, rfl, (by omega), (by omega), fun p2 hp2 => ?_⟩
  rw [en]
  have hne : p1 ≠ p2 := fun e => by rw [e, hp2] at e1; cases e1
  have hp2' : H p2 = none := by
    rcases hh : H p2 with _ | o
    · rfl
    · rw [s1 _ _ hh] at hp2; cases hp2
  refine comp_range (fun i σ' H' => ∃ v, σ' = [v] ∧ Same H1 H' ∧ H' p2 = some (.lst (List.replicate i V.non))) ⟨none, rfl, same_new hp2 _, upd_same⟩ ?_ ?_
  · rintro i σ' H2 hi ⟨v, rfl, s2, e2⟩
    unfold gName tYes
    refine iteT ?_
    refine ⟨_, e2, (by rw [List.length_replicate]; exact small1000 (by omega)), _, rfl, ?_, ?_⟩
    · intro b o e
      rw [upd_ne (ne_of_none e hp2)]
      exact s2 _ _ e
    · rw [upd_same, List.replicate_succ']
  rintro σ' H2 ⟨v, rfl, s2, e2⟩
  have e1' := s2 _ _ e1
  have s12 := s1.trans s2
  have ntl1 : tl ≠ p1 := fun e => by rw [e, hp1] at htl; cases htl
  have ntl2 : tl ≠ p2 := fun e => by rw [e, hp2'] at htl; cases htl
  clear e1 s1 s2 hp2
  rw [← rV_rep qs] at e2
  refine ⟨_, rfl, _, rfl, _, rfl, p1, p2, tl, qs, ts, n, BF.stt n ts 0, rfl, hne, ntl1, ntl2, e1', e2, s12 _ _ htl, hT.mono s12, ok, by show (List.replicate n _).length = n; rw [List.length_replicate], by show (List.replicate n _).length = n; rw [List.length_replicate], fun H3 k3 v3 r3 => ?_⟩
  have kk : ∀ b o, H b = some o → H3 b = some o := fun b o e => k3 b o (ne_of_none e hp1) (ne_of_none e hp2') (s12 _ _ e)
  refine while_by (fun σ G => ∃ (k : Nat), σ = [some (.int n), some (.ref tl), some (.ref p1), some (.ref p2), some (.int k), some (lV (BF.stt n ts k).l)] ∧ Same H G ∧ 1 ≤ k ∧ k ≤ n ∧ (∀ j, 1 ≤ j → j < k → (BF.stt n ts j).l ≠ none) ∧ G p1 = some (.lst ((BF.stt n ts k).v.map V.int)) ∧ G p2 = some (.lst (rV qs (BF.stt n ts k).r)))
    (fun σ _ => leftN n σ) ⟨1, rfl, kk, Nat.le_refl _, hn1, fun j h1 h2 => by omega, v3, r3⟩ ?_ ?_
  · rintro σ G ⟨k, rfl, sG, hk1, hkn, hl, gv, gr⟩
    obtain ⟨t, I⟩ := BF.sttInv ok (k - 1)
    rw [show k - 1 + 1 = k by omega] at I
    refine ⟨_, rfl, rfl, _, rfl, ite2 (fun d => ?_) (fun d => ?_)⟩
    · have d' := lV_not.mp d
      refine ⟨_, rfl, _, rfl, rfl, _, rfl, ite2 (fun c => ?_) (fun c => ?_)⟩
      · have c' : k = n := by
          have c := of_decide_eq_true c
          simp at c
          omega
        subst c'
        obtain ⟨x, hx⟩ : ∃ x, (BF.stt k ts k).l = some x := by
          cases h : (BF.stt k ts k).l with
          | none => exact absurd h d'
          | some x => exact ⟨x, rfl⟩
        obtain ⟨htx, hxn⟩ := I.low1 x hx
        obtain ⟨u, cu, pu, _, _⟩ := I.walk hxn k (by omega)
        obtain ⟨L, e, hL0, hLn, hL⟩ := I.ring hxn (by omega) pu
        refine ⟨_, rfl, _, rfl, x, u, L, p2, qs, ts, (BF.stt k ts k).r, cu, e, by rw [hx]; rfl, gr, hT.mono sG, by rw [I.lr]; exact pu, hL0, hL, by omega, fun l es H4 s4 hl0 hl4 hR hle => ?_⟩
        refine ⟨sm rfl, fun t' ht' => ?_⟩
        have hl0' : H l = none := by
          rcases hh : H l with _ | o
          · rfl
          · rw [sG _ _ hh] at hl0; cases hl0
        have ht0 : H t' = none := by
          rcases hh : H t' with _ | o
          · rfl
          · rw [s4 _ _ (sG _ _ hh)] at ht'; cases ht'
        have htl' : t' ≠ l := fun e => by rw [e, hl4] at ht'; cases ht'
        refine q (.ring es) t' l _ ⟨fun j h1 h2 => ?_, x, u, cu, hx, pu, hR⟩ (show es.length ≤ k by omega) ((sG.trans s4).trans (same_new ht' _)) ht0 hl0' htl' upd_same ?_
        · rcases Nat.lt_or_ge j k with g | g
          · exact hl j h1 g
          · rw [show j = k by omega]; exact d'
        · rw [upd_ne htl'.symm]; exact hl4
      · have c' : k < n := by
          have : k ≠ n := fun e => c (by subst e; simp)
          omega
        have htlG := sG _ _ htl
        refine ⟨_, rfl, _, rfl, _, rfl, p1, p2, tl, qs, ts, n, BF.stt n ts k, rfl, hne, ntl1, ntl2, gv, gr, htlG, hT.mono sG, ok, I.lv, I.lr, fun H4 k4 v4 r4 => ?_⟩
        refine ⟨_, rfl, _, _, rfl, rfl, ⟨k + 1, rfl, fun b o e => k4 b o (ne_of_none e hp1) (ne_of_none e hp2') (sG _ _ e), by omega, by omega, fun j h1 h2 => ?_, v4, r4⟩, ?_⟩
        · rcases Nat.lt_or_ge j k with g | g
          · exact hl j h1 g
          · rw [show j = k by omega]; exact d'
        · show ((n : Int) - ((k : Int) + 1)).toNat < ((n : Int) - (k : Int)).toNat
          omega
    · have d' : (BF.stt n ts k).l = none := by
        apply Classical.byContradiction
        intro h
        exact d (lV_not.mpr h)
      refine ⟨_, rfl, p1, rfl, ⟨_, SqL.of gv⟩, fun p3 hp3 => ?_⟩
      have hne3 : p1 ≠ p3 := fun e => by rw [e, hp3] at gv; cases gv
      have hv0 : 0 < (BF.stt n ts k).v.length := by rw [I.lv]; omega
      refine comp_list (xs := (BF.stt n ts k).v.map V.int) (fun i σ' G' => ∃ v, σ' = [v, some (.ref p1)] ∧ Same G G' ∧ G' p3 = some (.lst ((((BF.stt n ts k).v.take i).map fun x => x - BF.gv (BF.stt n ts k).v 0).map V.int))) ⟨none, rfl, same_new hp3 _, upd_same⟩ ?_ ?_ ?_
      · rintro i σ' G' _ ⟨v, rfl, s', _⟩
        exact SqL.of (s' _ _ gv)
      · rintro i x σ' G' hx ⟨v, rfl, s', e3⟩
        rw [List.getElem?_map] at hx
        have hi : i < (BF.stt n ts k).v.length := by
          rcases Nat.lt_or_ge i (BF.stt n ts k).v.length with g | g
          · exact g
          · rw [List.getElem?_eq_none g] at hx; cases hx
        rw [List.getElem?_eq_getElem hi] at hx
        cases hx
        unfold gName tYes
        refine iteT ?_
        refine ⟨_, rfl, _, rfl, p1, _, _, _, rfl, rfl, SqL.of (s' _ _ gv), gv_at hv0, _, _, rfl, rfl, ?_⟩
        refine ⟨_, e3, (by rw [List.length_map, List.length_map]; exact small1000 (by have := List.length_take_le i (BF.stt n ts k).v; have := I.lv; omega)), _, rfl, ?_, ?_⟩
        · intro b o e
          rw [upd_ne (ne_of_none e hp3)]
          exact s' _ _ e
        · rw [upd_same, List.take_succ, List.getElem?_eq_getElem hi, List.map_append, List.map_append]
          rfl
      rintro σ' G' ⟨v, rfl, s', e3⟩
      rw [List.length_map, List.take_length] at e3
      refine ⟨sm rfl, fun t' ht' => ?_⟩
      have hl0' : H p3 = none := by
        rcases hh : H p3 with _ | o
        · rfl
        · rw [sG _ _ hh] at hp3; cases hp3
      have ht0 : H t' = none := by
        rcases hh : H t' with _ | o
        · rfl
        · rw [s' _ _ (sG _ _ hh)] at ht'; cases ht'
      have htl' : t' ≠ p3 := fun e => by rw [e, e3] at ht'; cases ht'
      refine q (.vals (BF.stt n ts k).v) t' p3 _ ⟨k, hk1, hkn, hl, d', rfl⟩ I.lv ((sG.trans s').trans (same_new ht' _)) ht0 hl0' htl' upd_same ?_
      rw [upd_ne htl'.symm]; exact e3
  · intro σ H1 Q1 Q2 hm h
    obtain ⟨v1, e1, e2, k, e3, h⟩ := h
    exact ⟨v1, e1, e2, k, e3, hm _ _ h⟩
end
end LW
set_option Elab.async false
set_option linter.all false
set_option maxRecDepth 100000
set_option maxHeartbeats 2000000
namespace LW
open PySem L2
abbrev sCell : Stmt := top 5
abbrev sFeed : Stmt := top 6
abbrev sTake : Stmt := top 7
def spCell (K : PySem.W.Frag) : Sp := fun vs H Q _ => ∃ (a : Addr) (ns : List Int) (k : Int), vs = [.ref a, .int k] ∧ SqL K H a (ns.map V.int) ∧ 0 ≤ k ∧ k ≤ 1000 ∧ ∀ c : Int, Q (.int c) H
def spFeed (K : PySem.W.Frag) : Sp := fun vs H Q _ => ∃ (a : Addr) (ns : List Int) (k : Int), vs = [.ref a, .int k] ∧ SqL K H a (ns.map V.int) ∧ 0 ≤ k ∧ k ≤ 1000 ∧ ∀ (l : Addr) (xs : List Int) H', Same H H' → H l = none → H' l = some (.lst (xs.map V.int)) → 1 ≤ xs.length → xs.length ≤ 2 → Q (.ref l) H'
def spTake : Sp := fun vs H Q _ => ∃ (l : Addr) (xs : List Int) (m : Int), vs = [.ref l, .int m] ∧ H l = some (.lst (xs.map V.int)) ∧ 1 ≤ xs.length ∧ xs.length ≤ 2 ∧ 0 < m ∧ m < 2 ^ 200 ∧ ∀ (d : Int) (ys : List Int) H', 0 ≤ d → d < m → (∀ b o, b ≠ l → H b = some o → H' b = some o) → H' l = some (.lst (ys.map V.int)) → 1 ≤ ys.length → ys.length ≤ 2 → Q (.int d) H'
section
variable {P : Program} {w : World} {K : PySem.W.Frag} {mg : Str → Option Value} {base : Heap}
theorem ok_cell {f : Addr} {fd : FuncData} (F : Fun K "_law_cell" "_law_cell" sCell f fd) (B : Free0 mg) : FnOk P w K mg base CX0 1 f fd ["_law_script", "_law_k"] (spCell K) := by
  have sc : FnScope ["_law_script", "_law_k", "_law_number"] ["_law_script", "_law_k"] (defScope sCell) := ⟨rfl, rfl, rfl, by decide +kernel, rfl, by decide +kernel, by decide +kernel⟩
  refine F.ok sc (fun vs H Q E h => ?_) (fun cdv A outer s H vs Q E hr h => ?_)
  · obtain ⟨a, ns, k, rfl, _⟩ := h
    rfl
  obtain ⟨a, ns, k, rfl, hS, h0, h1, q⟩ := h
  have hl : (ns.map V.int).length = ns.length := List.length_map _
  refine ⟨_, (pss_cons (ps_if (pt_cmpR op_lt (pv 1) (pe_cB call_len_seq (by rfl) B.len_ bt_len (pa_c (pv 0) pa_nil)) (nomark _)) (pss_one (ps_ret (pe_ix ix_list (pv 0) (pv 1) (fun _ _ => rfl)))) pss_nil)
      (pss_cons (ps_set (i := 2) sc.nd rfl (by first | exact Or.inl rfl | exact Or.inr rfl) (pe_op op_add (pe_op op_mul (pv 1) pe_int) pe_int))
      (pss_cons (ps_if (pt_cmpR op_gt (pe_cB call_len_seq (by rfl) B.len_ bt_len (pa_c (pv 0) pa_nil)) pe_int (nomark _)) (pss_one (ps_set (i := 2) sc.nd rfl (by first | exact Or.inl rfl | exact Or.inr rfl) (pe_op op_mod (pe_op op_add (pe_op op_mul (pe_ix ix_list (pv 0) (pe_op op_mod (pe_op op_mul (pv 1) pe_int) (pe_cB call_len_seq (by rfl) B.len_ bt_len (pa_c (pv 0) pa_nil))) (fun _ _ => rfl)) pe_int) (pe_op op_mul (pv 1) pe_int)) pe_int))) pss_nil)
      (pss_cons (ps_set (i := 2) sc.nd rfl (by first | exact Or.inl rfl | exact Or.inr rfl) (pe_op op_mod (pe_op op_add (pe_op op_mul (pv 2) (pv 2)) pe_int) pe_int))
      (pss_one (ps_ret (pe_op op_mod (pe_op op_mul (pv 2) (pv 2)) pe_int))))))), ?_⟩
  have b1 : ∀ x : Int, 0 ≤ x % 2147483647 ∧ x % 2147483647 < 2147483647 := fun x => ⟨Int.emod_nonneg _ (by decide), Int.emod_lt_of_pos _ (by decide)⟩
  have b2 : ∀ x : Int, 0 ≤ x % 2147483629 ∧ x % 2147483629 < 2147483629 := fun x => ⟨Int.emod_nonneg _ (by decide), Int.emod_lt_of_pos _ (by decide)⟩
  refine ⟨_, rfl, _, rfl, a, _, rfl, .inl hS, _, _, rfl, rfl, _, rfl, ite2 (fun c => ?_) (fun c => ?_)⟩
  · have c' : k < (ns.length : Int) := by
      have := of_decide_eq_true c
      rw [hl] at this
      exact this
    exact ⟨_, rfl, _, rfl, a, _, _, _, rfl, rfl, hS, at_map h0 c', q _⟩
  · refine ⟨_, rfl, _, _, rfl, rfl, .inl ⟨by omega, by omega⟩, _, _, rfl, rfl, ?_⟩
    refine ⟨_, rfl, a, _, rfl, .inl hS, _, _, rfl, rfl, _, rfl, ite2 (fun d => ?_) (fun d => ?_)⟩
    · have d' : 0 < ns.length := by
        have := of_decide_eq_true d
        rw [hl] at this
        omega
      have hm0 : 0 ≤ k * 7 % (ns.length : Int) := Int.emod_nonneg _ (by omega)
      have hm1 : k * 7 % (ns.length : Int) < (ns.length : Int) := Int.emod_lt_of_pos _ (by omega)
      have hat : atI (ns.map V.int) (k * 7 % (((ns.map V.int).length : Nat) : Int)) = some (.int (ns.getD (k * 7 % (ns.length : Int)).toNat 0)) := by
        rw [hl]
        exact at_map hm0 hm1
      refine ⟨_, rfl, _, rfl, _, _, rfl, rfl, .inl ⟨by omega, by omega⟩, _, rfl, a, _, rfl, .inl hS, _, _, rfl, rfl, (by rw [hl]; omega), a, _, _, _, rfl, rfl, hS, hat, _, _, rfl, rfl, .inr ⟨by decide, by decide⟩, _, rfl, _, _, rfl, rfl, .inl ⟨by omega, by omega⟩, _, _, rfl, rfl, _, _, rfl, rfl, (by show (0 : Int) < _; decide), ?_⟩
      obtain ⟨x1, x2⟩ := b1 (ns.getD (k * 7 % (ns.length : Int)).toNat 0 * 48271 + k * 7919)
      dsimp only at x1 x2 ⊢
      generalize (ns.getD (k * 7 % (ns.length : Int)).toNat 0 * 48271 + k * 7919) % 2147483647 = y at *
      refine ⟨_, rfl, _, rfl, _, _, rfl, rfl, .inl ⟨by omega, by omega⟩, _, _, rfl, rfl, _, _, rfl, rfl, (by show (0 : Int) < _; decide), ?_⟩
      obtain ⟨z1, z2⟩ := b2 (y * y + 48271)
      exact ⟨_, rfl, _, rfl, _, _, rfl, rfl, .inl ⟨by omega, by omega⟩, _, _, rfl, rfl, (by show (0 : Int) < _; decide), q _⟩
    · refine ⟨_, rfl, _, rfl, _, _, rfl, rfl, .inl ⟨by omega, by omega⟩, _, _, rfl, rfl, _, _, rfl, rfl, (by show (0 : Int) < _; decide), ?_⟩
      obtain ⟨z1, z2⟩ := b2 ((k * 7919 + 5) * (k * 7919 + 5) + 48271)
      exact ⟨_, rfl, _, rfl, _, _, rfl, rfl, .inl ⟨by omega, by omega⟩, _, _, rfl, rfl, (by show (0 : Int) < _; decide), q _⟩
theorem ok_feed {f : Addr} {fd : FuncData} (F : Fun K "_law_feed" "_law_feed" sFeed f fd) (B : Free0 mg) (F_cell : Fn P w K mg base 1 "_law_cell" ["_law_script", "_law_k"] (spCell K)) : FnOk P w K mg base CX0 2 f fd ["_law_script", "_law_k"] (spFeed K) := by
  have sc : FnScope ["_law_script", "_law_k", "_law_cell_here", "_law_number", "_law_whole", "_law_j"] ["_law_script", "_law_k"] (defScope sFeed) := ⟨rfl, rfl, rfl, by decide +kernel, rfl, by decide +kernel, by decide +kernel⟩
  refine F.ok sc (fun vs H Q E h => ?_) (fun cdv A outer s H vs Q E hr h => ?_)
  · obtain ⟨a, ns, k, rfl, _⟩ := h
    rfl
  obtain ⟨a, ns, k, rfl, hS, h0, h1, q⟩ := h
  refine ⟨_, (pss_cons (ps_set (i := 2) sc.nd rfl (by first | exact Or.inl rfl | exact Or.inr rfl) (pe_fn F_cell hr (pa_c (pv 0) (pa_c (pv 1) pa_nil))))
      (pss_cons (ps_set (i := 3) sc.nd rfl (by first | exact Or.inl rfl | exact Or.inr rfl) (pe_op op_mod (pe_op op_add (pe_op op_mul (pv 2) pe_int) (pe_op op_mul pe_int (pv 1))) pe_int))
      (pss_cons (ps_set (i := 4) sc.nd rfl (by first | exact Or.inl rfl | exact Or.inr rfl) pe_int)
      (pss_cons (ps_for PassesOwn.never rfl (pi_range1 (by rfl) B.range_ (pa_c pe_int pa_nil)) (pg_name (i := 5) sc.nd rfl (by first | exact Or.inl rfl | exact Or.inr rfl)) (pss_cons (ps_set (i := 3) sc.nd rfl (by first | exact Or.inl rfl | exact Or.inr rfl) (pe_op op_mod (pe_op op_add (pe_op op_add (pe_op op_mul (pv 3) (pv 3)) (pe_op op_mul pe_int (pv 3))) (pv 5)) pe_int))
      (pss_one (ps_set (i := 4) sc.nd rfl (by first | exact Or.inl rfl | exact Or.inr rfl) (pe_op op_add (pe_op op_mul (pv 4) pe_int) (pv 3))))))
      (pss_cons (ps_if (pt_cmpR op_lt (pv 2) (pe_op op_pow pe_int pe_int) (nomark _)) (pss_one (ps_ret (pe_lst (pa_c (pv 4) pa_nil)))) pss_nil)
      (pss_one (ps_ret (pe_lst (pa_c (pv 2) (pa_c (pv 4) pa_nil)))))))))), ?_⟩
  have b1 : ∀ x : Int, 0 ≤ x % 2147483647 ∧ x % 2147483647 < 2147483647 := fun x => ⟨Int.emod_nonneg _ (by decide), Int.emod_lt_of_pos _ (by decide)⟩
  have b2 : ∀ x : Int, 0 ≤ x % 2147483629 ∧ x % 2147483629 < 2147483629 := fun x => ⟨Int.emod_nonneg _ (by decide), Int.emod_lt_of_pos _ (by decide)⟩
  refine ⟨_, rfl, _, rfl, a, ns, k, rfl, hS, h0, h1, fun c => ?_⟩
  refine ⟨_, rfl, _, _, rfl, rfl, .inr ⟨by decide, by decide⟩, _, rfl, _, _, rfl, rfl, .inl ⟨by decide, by decide⟩, _, _, rfl, rfl, _, _, rfl, rfl, (by show (0 : Int) < _; decide), ?_⟩
  obtain ⟨z1, z2⟩ := b2 (c * 48271 + 7919 * k)
  dsimp only at z1 z2 ⊢
  generalize (c * 48271 + 7919 * k) % 2147483629 = y at *
  refine ⟨_, rfl, by decide, by decide, for_range (fun i σ G => ∃ (y W : Int) (x5 : Option V), σ = [some (.ref a), some (.int k), some (.int c), some (.int y), some (.int W), x5] ∧ G = H ∧ 0 ≤ y ∧ y < 2147483647) ⟨y, 0, none, rfl, rfl, z1, by omega⟩ ?_ ?_⟩
  · rintro i σ G hi ⟨y, W, x5, rfl, rfl, y1, y2⟩
    have hi' : i < 9 := hi
    refine ⟨_, rfl, _, rfl, _, _, rfl, rfl, .inl ⟨by omega, by omega⟩, _, rfl, _, _, rfl, rfl, .inl ⟨by decide, by decide⟩, _, _, rfl, rfl, _, rfl, _, _, rfl, rfl, _, _, rfl, rfl, (by show (0 : Int) < _; decide), ?_⟩
    obtain ⟨w1, w2⟩ := b1 (y * y + 48271 * y + (0 + (i : Int)))
    exact ⟨_, rfl, _, _, rfl, rfl, .inr ⟨by decide, by decide⟩, _, rfl, _, _, rfl, rfl, _, _, _, rfl, rfl, w1, w2⟩
  rintro σ G ⟨y, W, x5, rfl, rfl, y1, y2⟩
  refine ⟨_, rfl, _, _, rfl, rfl, ⟨by decide, by decide, by decide⟩, _, _, rfl, rfl, _, rfl, ite2 (fun d => ?_) (fun d => ?_)⟩
  · refine ⟨_, rfl, sm rfl, fun l hl => q l [W] _ (same_new hl _) hl upd_same (by show 1 ≤ 1; omega) (by show 1 ≤ 2; omega)⟩
  · refine ⟨_, rfl, _, rfl, sm rfl, fun l hl => q l [c, W] _ (same_new hl _) hl upd_same (by show 1 ≤ 2; omega) (by show 2 ≤ 2; omega)⟩
theorem ok_take {f : Addr} {fd : FuncData} (F : Fun K "_law_take" "_law_take" sTake f fd) (B : Free0 mg) : FnOk P w K mg base CX0 1 f fd ["_law_feed_here", "_law_many"] spTake := by
  have sc : FnScope ["_law_feed_here", "_law_many", "_law_digit"] ["_law_feed_here", "_law_many"] (defScope sTake) := ⟨rfl, rfl, rfl, by decide +kernel, rfl, by decide +kernel, by decide +kernel⟩
  refine F.ok sc (fun vs H Q E h => ?_) (fun cdv A outer s H vs Q E hr h => ?_)
  · obtain ⟨l, xs, m, rfl, _⟩ := h
    rfl
  obtain ⟨l, xs, m, rfl, hl, hx1, hx2, hm0, hm1, q⟩ := h
  refine ⟨_, (pss_cons (ps_if (pw_and (pt_cmpR op_gt (pe_cB call_len_seq (by rfl) B.len_ bt_len (pa_c (pv 0) pa_nil)) pe_int (nomark _)) (pw_and1 (pt_cmpR op_eq (pe_ix ix_list (pv 0) pe_int (fun _ _ => rfl)) pe_int (nomark _)))).pt (pss_one (ps_expr (pe_bm PySem.F.plainAttrs_list PySem.F.slot_list_pop PySem.F.type_list_pop mt_popAt (pv 0) (pa_c pe_int pa_nil)))) pss_nil)
      (pss_cons (ps_set (i := 2) sc.nd rfl (by first | exact Or.inl rfl | exact Or.inr rfl) (pe_op op_mod (pe_ix ix_list (pv 0) pe_int (fun _ _ => rfl)) (pv 1)))
      (pss_cons (ps_asg (pe_op op_fdivB (pe_ix ix_list (pv 0) pe_int (fun _ _ => rfl)) (pv 1)) (pg_sub (pv 0) pe_int set_list))
      (pss_one (ps_ret (pv 2)))))), ?_⟩
  have fin : ∀ (x : Int) (ys : List Int) (G : Hp), ys.length ≤ 1 → (∀ b o, b ≠ l → H b = some o → G b = some o) → G l = some (.lst ((x :: ys).map V.int)) → Q (.int (x % m)) (upd G l (.lst (((x / m) :: ys).map V.int))) := by
    intro x ys G h1 k e
    exact q (x % m) ((x / m) :: ys) _ (Int.emod_nonneg _ (by omega)) (Int.emod_lt_of_pos _ hm0) (fun b o hb e => by rw [upd_ne hb]; exact k b o hb e) upd_same (by show 1 ≤ ys.length + 1; omega) (by show ys.length + 1 ≤ 2; omega)
  match xs, hl, hx1, hx2 with
  | [x], hl, _, _ =>
    refine ⟨_, rfl, l, _, rfl, .inl (SqL.of hl), _, _, rfl, rfl, _, rfl, ite2 (fun c => absurd c (by show ¬ (decide ((1 : Int) < ((1 : Nat) : Int)) = true); decide)) (fun _ => ?_)⟩
    refine ⟨_, rfl, l, _, _, _, rfl, rfl, SqL.of hl, rfl, _, rfl, _, _, rfl, rfl, hm0, ?_⟩
    refine ⟨_, rfl, l, _, _, _, rfl, rfl, SqL.of hl, rfl, _, rfl, _, _, rfl, rfl, ⟨hm0, hm1⟩, ?_⟩
    exact ⟨_, rfl, l, _, _, 0, rfl, rfl, hl, rfl, _, rfl, fin x [] H (by show 0 ≤ 1; omega) (fun b o _ e => e) hl⟩
  | [x, x2], hl, _, _ =>
    refine ⟨_, rfl, l, _, rfl, .inl (SqL.of hl), _, _, rfl, rfl, _, rfl, ite2 (fun _ => ?_) (fun c => absurd (show decide ((1 : Int) < ((2 : Nat) : Int)) = true by decide) c)⟩
    refine ⟨_, rfl, l, _, _, _, rfl, rfl, SqL.of hl, rfl, rfl, _, rfl, ite2 (fun _ => ?_) (fun _ => ?_)⟩
    · refine ⟨_, rfl, .inl ⟨rfl, _, SqL.of hl⟩, l, _, 0, 0, _, rfl, rfl, hl, by decide, by decide, rfl, rfl, ?_⟩
      have hl2 : upd H l (.lst (([V.int x, V.int x2]).eraseIdx 0)) l = some (.lst ([x2].map V.int)) := upd_same
      have k2 : ∀ b o, b ≠ l → H b = some o → upd H l (.lst (([V.int x, V.int x2]).eraseIdx 0)) b = some o := fun b o hb e => by rw [upd_ne hb]; exact e
      show tSeq _ _ _ _ _
      refine ⟨_, rfl, l, _, _, _, rfl, rfl, SqL.of hl2, rfl, _, rfl, _, _, rfl, rfl, hm0, ?_⟩
      refine ⟨_, rfl, l, _, _, _, rfl, rfl, SqL.of hl2, rfl, _, rfl, _, _, rfl, rfl, ⟨hm0, hm1⟩, ?_⟩
      exact ⟨_, rfl, l, _, _, 0, rfl, rfl, hl2, rfl, _, rfl, fin x2 [] _ (by show 0 ≤ 1; omega) k2 hl2⟩
    · refine ⟨_, rfl, l, _, _, _, rfl, rfl, SqL.of hl, rfl, _, rfl, _, _, rfl, rfl, hm0, ?_⟩
      refine ⟨_, rfl, l, _, _, _, rfl, rfl, SqL.of hl, rfl, _, rfl, _, _, rfl, rfl, ⟨hm0, hm1⟩, ?_⟩
      exact ⟨_, rfl, l, _, _, 0, rfl, rfl, hl, rfl, _, rfl, fin x [x2] H (by show 1 ≤ 1; omega) (fun b o _ e => e) hl⟩
end
end LW
set_option Elab.async false
set_option linter.all false
set_option maxRecDepth 100000
set_option maxHeartbeats 1000000
namespace L2
open PySem PySem.Spec PyProof.Rows
variable {X : Cx} {pins : List (Addr × Obj)} {s : Shared} {σ : St} {H : Hp}
theorem Vals.back : ∀ {xs : List V} {us : List Value} {i : Nat} {u : Value}, Vals xs us → us[i]? = some u → ∃ x, xs[i]? = some x ∧ RelV x u
  | _, _, _, _, .nil, e => by simp at e
  | _, _, 0, _, .cons r _, e => by simp at e; subst e; exact ⟨_, rfl, r⟩
  | _, _, i + 1, _, .cons _ t, e => by simp only [List.getElem?_cons_succ] at e ⊢; exact Vals.back t e
open Classical in
theorem isIn (I : Inv X pins σ H s) {n : Nat} {A : Around} {d : D} {ds : List D} {x : V} {v : Value} {xs : List V} {its : List Value} (hd : D.depthL ds ≤ n) (hA : A.units + n < cLine) (hx : Held H d x) (hxs : HeldL H ds xs) (rx : RelV x v) (rv : Vals xs its) :
    ∃ f : Value → Bool, (∀ u ∈ its, SeqAt.EqAt A s u v (f u)) ∧ its.any f = decide (d ∈ ds) := by
  have l1 := hxs.length
  have l3 := rv.length
  have one : ∀ (j : Nat) u, its[j]? = some u → ∃ d' x', ds[j]? = some d' ∧ Held H d' x' ∧ RelV x' u := by
    intro j u e
    obtain ⟨x', h1, h2⟩ := rv.back e
    have hj : j < ds.length := by
      have := (List.getElem?_eq_some_iff.mp h1).1
      omega
    obtain ⟨x'', g1, g2⟩ := hxs.get (List.getElem?_eq_getElem hj)
    rw [g1] at h1
    cases h1
    exact ⟨_, _, List.getElem?_eq_getElem hj, g2, h2⟩
  refine ⟨fun u => decide (∃ x', RelV x' u ∧ Held H d x'), fun u hu => ?_, ?_⟩
  · obtain ⟨j, hj, e⟩ := List.mem_iff_getElem.mp hu
    obtain ⟨d', x', h1, h2, h3⟩ := one j u (List.getElem?_eq_some_iff.mpr ⟨hj, e⟩)
    have key := eqAt_dd I n A d' d x' x u v (by have := D.depthL_get h1; omega) hA h2 hx h3 rx
    have : dEq d' d = decide (∃ x', RelV x' u ∧ Held H d x') := by
      rw [dEq_dec]
      by_cases h : d' = d
      · subst h
        rw [decide_eq_true rfl, decide_eq_true ⟨x', h3, h2⟩]
      · rw [decide_eq_false h, decide_eq_false]
        rintro ⟨x2, g1, g2⟩
        rw [RelV.inj g1 h3] at g2
        exact h (held_inj h2 g2)
    rw [this] at key
    exact key
  · apply Bool.eq_iff_iff.mpr
    rw [List.any_eq_true, decide_eq_true_iff]
    constructor
    · rintro ⟨u, hu, h⟩
      obtain ⟨x2, g1, g2⟩ := of_decide_eq_true h
      obtain ⟨j, hj, e⟩ := List.mem_iff_getElem.mp hu
      obtain ⟨d', x', h1, h2, h3⟩ := one j u (List.getElem?_eq_some_iff.mpr ⟨hj, e⟩)
      rw [RelV.inj g1 h3] at g2
      rw [held_inj g2 h2]
      exact List.mem_iff_getElem?.mpr ⟨j, h1⟩
    · intro h
      obtain ⟨j, hj⟩ := List.mem_iff_getElem?.mp h
      obtain ⟨x', g1, g2⟩ := hxs.get hj
      obtain ⟨u, g3, g4⟩ := rv.get g1
      exact ⟨u, List.mem_iff_getElem?.mpr ⟨j, g3⟩, decide_eq_true ⟨x', g4, g2⟩⟩
theorem op_notInD (n : Nat) (hu : X.A.units + 1 + n < cLine) : OpR X (compareOp .NotIn) (fun x y H Q => ∃ p xs d ds, y = .ref p ∧ H p = some (.lst xs) ∧ D.depthL ds ≤ n ∧ Held H d x ∧ HeldL H ds xs ∧ Q (.bl (!decide (d ∈ ds))) H) := by
  intro pins s σ H x y v u Q I rx ry h
  obtain ⟨p, xs, d, ds, rfl, hp, hd, hx, hxs, q⟩ := h
  cases ry
  obtain ⟨its, r, pl, hz⟩ := I.list (SqL.of hp)
  obtain ⟨f, h1, h2⟩ := isIn I (A := X.A.in1) hd (by show X.A.units + 1 + n < cLine; exact hu) hx hxs rx r
  refine SeqAt.notIn_listAt f pl.isList (fun w hw => h1 w (by simpa using hw)) ⟨.bl _, H, I, rfl, ?_⟩
  rw [show its.toArray.any f = its.any f by simp, h2]
  exact q
end L2
set_option Elab.async false
set_option linter.all false
set_option maxRecDepth 100000
set_option maxHeartbeats 2000000
namespace LW
open PySem L2
abbrev sTie : Stmt := top 8
abbrev sValues : Stmt := top 9
abbrev sRing : Stmt := top 10
abbrev sGood : Stmt := top 11
def dT (t : BF.Tie) : D := .tup [.int t.1, .int t.2.1, .int t.2.2]
theorem held_dT {H : Hp} {c : Addr} {t : BF.Tie} (h : H c = some (.tup (tieV t))) : Held H (dT t) (.ref c) := by
  unfold dT Held
  refine ⟨c, _, rfl, h, ?_⟩
  unfold HeldL
  refine ⟨_, _, rfl, by unfold Held; rfl, ?_⟩
  unfold HeldL
  refine ⟨_, _, rfl, by unfold Held; rfl, ?_⟩
  unfold HeldL
  refine ⟨_, _, rfl, by unfold Held; rfl, ?_⟩
  unfold HeldL
  rfl
theorem heldL_of {H : Hp} : ∀ {ds : List D} {xs : List V}, xs.length = ds.length → (∀ (i : Nat) d, ds[i]? = some d → ∃ x, xs[i]? = some x ∧ Held H d x) → HeldL H ds xs
  | [], xs, hl, _ => by unfold HeldL; exact List.eq_nil_of_length_eq_zero hl
  | d :: ds, xs, hl, h => by
    obtain ⟨x, h1, h2⟩ := h 0 d rfl
    match xs, hl, h, h1 with
    | y :: ys, hl, h, h1 =>
      have : y = x := by simpa using h1
      subst this
      unfold HeldL
      exact ⟨y, ys, rfl, h2, heldL_of (by simpa using hl) fun i d' e => by
        obtain ⟨x', g1, g2⟩ := h (i + 1) d' (by simpa using e)
        exact ⟨x', by simpa using g1, g2⟩⟩
theorem TiesAt.heldL {H : Hp} {qs : List V} {ts : List BF.Tie} (h : TiesAt H qs ts) : HeldL H (ts.map dT) qs := heldL_of (by rw [List.length_map]; exact h.1) fun i d e => by
  rw [List.getElem?_map] at e
  cases ht : ts[i]? with
  | none => rw [ht] at e; cases e
  | some t =>
    rw [ht] at e
    cases e
    obtain ⟨c, e1, e2⟩ := h.2 i t ht
    exact ⟨_, e1, held_dT e2⟩
theorem dT_depth : ∀ (ts : List BF.Tie), D.depthL (ts.map dT) ≤ 1
  | [] => by unfold D.depthL; decide
  | t :: ts => by
    have := dT_depth ts
    rw [List.map_cons]
    unfold D.depthL
    have h : D.depth (dT t) ≤ 1 := by
      unfold dT
      simp [D.depth, D.depthL]
    omega
def spTie : Sp := fun vs H Q _ => ∃ (a : Addr) (t : BF.Tie), vs = [.ref a] ∧ H a = some (.tup (tieV t)) ∧ ∀ H', Same H H' → Q (.bl true) H'
def spValues : Sp := fun vs H Q _ => ∃ (l tl : Addr) (n : Nat) (v : List Int) (qs : List V) (ts : List BF.Tie), vs = [.ref l, .int n, .ref tl] ∧ 1 ≤ n ∧ v.length = n ∧ H l = some (.lst ((v.map fun x => x - BF.gv v 0).map V.int)) ∧ H tl = some (.lst qs) ∧ TiesAt H qs ts ∧ BF.Ok n ts ∧ (∀ (j x y : Nat) (c : Int), ts[j]? = some (x, y, c) → BF.gv v x ≤ BF.gv v y + c) ∧ Q (.bl true) H
def spRing : Sp := fun vs H Q _ => ∃ (l tl : Addr) (es : List Nat) (qs : List V) (ts : List BF.Tie), vs = [.ref l, .ref tl] ∧ H l = some (.lst (es.map fun j => qs.getD j .non)) ∧ H tl = some (.lst qs) ∧ TiesAt H qs ts ∧ BF.RingOk ts es ∧ es.length ≤ 69 ∧ ∀ H', Same H H' → Q (.bl true) H'
section
variable {P : Program} {w : World} {K : PySem.W.Frag} {mg : Str → Option Value} {base : Heap}
theorem call_isinstK {X : Cx} {K : PySem.W.Frag} (h : X.K = K := by rfl) : CallR X (.builtin "isinstance") (fun xs H Q => ∃ x t T b, xs = [x, .ty T] ∧ TyOf K H x t ∧ PySem.W.kitOne K t (.type T) = some b ∧ Q (.bl b) H) := by subst h; exact call_isinst
theorem ok_tie {f : Addr} {fd : FuncData} (F : Fun K "_law_tie" "_law_tie" sTie f fd) (B : Free0 mg) : FnOk P w K mg base CX0 1 f fd ["_law_answer"] spTie := by
  have sc : FnScope ["_law_answer"] ["_law_answer"] (defScope sTie) := ⟨rfl, rfl, rfl, by decide +kernel, rfl, by decide +kernel, by decide +kernel⟩
  refine F.ok sc (fun vs H Q E h => ?_) (fun cdv A outer s H vs Q E hr h => ?_)
  · obtain ⟨a, t, rfl, _⟩ := h
    rfl
  obtain ⟨a, t, rfl, ha, q⟩ := h
  refine ⟨_, (pss_cons (ps_if (pw_or (pt_not (pt_val (pe_cB call_isinst (by rfl) B.isinstance_ bt_isinstance (pa_c (pv 0) (pa_c (pe_bltn (v := .ty "tuple") (by rfl) B.tuple_ bt_tuple (by rfl)) pa_nil))))) (pw_or1 (pt_cmpR op_ne (pe_cB call_len_seq (by rfl) B.len_ bt_len (pa_c (pv 0) pa_nil)) pe_int (nomark _)))).pt (pss_one (ps_ret pe_bl)) pss_nil)
      (pss_one (ps_ret (pe_cmpR op_eq (pe_cB call_len_seq (by rfl) B.len_ bt_len (pa_c (pe_comp ["_law_part"] [] rfl (comp_ok (sc := defScope sTie) (N := ["_law_answer"]) rfl rfl (by decide +kernel)) (pi_tup (pv 0)) (fun s H ex => ⟨(pg_name (i := 0) (show List.Nodup (["_law_part"] : List Str) by decide +kernel) rfl (by first | exact Or.inl rfl | exact Or.inr rfl)), (pts_one (pw_and (pt_val (pe_cB (call_isinstK (K := K)) (by rfl) B.isinstance_ bt_isinstance (pa_c (pv 0) (pa_c (pe_bltn (v := .ty "int") (by rfl) B.int_ bt_int (by rfl)) pa_nil)))) (pw_and1 (pt_not (pt_val (pe_cB (call_isinstK (K := K)) (by rfl) B.isinstance_ bt_isinstance (pa_c (pv 0) (pa_c (pe_bltn (v := .ty "bool") (by rfl) B.bool_ bt_bool (by rfl)) pa_nil))))))).pt), (pv 0)⟩)) pa_nil)) pe_int (nomark _))))), ?_⟩
  refine ⟨_, rfl, _, _, _, _, rfl, TyOf.tup ha, kit_tt K, _, rfl, iteF ?_⟩
  refine ⟨_, rfl, a, _, rfl, .inr (SqT.of ha), rfl, _, rfl, iteNS rfl ?_⟩
  refine ⟨_, rfl, a, rfl, ⟨_, SqT.of ha⟩, fun p hp => ?_⟩
  refine comp_tup (xs := tieV t) (fun i σ' G => ∃ u, σ' = [u] ∧ Same H G ∧ ∃ zs, G p = some (.lst zs) ∧ zs.length = i) ⟨none, rfl, same_new hp _, _, upd_same, rfl⟩ ?_ ?_ ?_
  · rintro i σ' G _ ⟨u, rfl, s1, _⟩
    exact SqT.of (s1 _ _ ha)
  · rintro i x σ' G hx ⟨u, rfl, s1, zs, e1, hz⟩
    have hi : i < 3 := (List.getElem?_eq_some_iff.mp hx).1
    obtain ⟨k, rfl⟩ : ∃ k, x = V.int k := by
      match i, hi with
      | 0, _ => exact ⟨_, (Option.some.inj hx).symm⟩
      | 1, _ => exact ⟨_, (Option.some.inj hx).symm⟩
      | 2, _ => exact ⟨_, (Option.some.inj hx).symm⟩
    unfold gName
    refine ⟨_, rfl, _, _, _, _, rfl, TyOf.int _, kit_ii K, _, rfl, iteT ?_⟩
    refine ⟨_, rfl, _, _, _, _, rfl, TyOf.int _, kit_ib K, _, rfl, iteT ?_⟩
    refine ⟨_, rfl, zs, e1, small1000 (by omega), _, rfl, fun b o e => ?_, _, upd_same, by rw [List.length_append, List.length_singleton, hz]⟩
    rw [upd_ne (ne_of_none e hp)]
    exact s1 _ _ e
  rintro σ' G ⟨u, rfl, s1, zs, e1, hz⟩
  refine ⟨p, _, rfl, .inl (SqL.of e1), rfl, ?_⟩
  have hz3 : zs.length = 3 := hz
  rw [hz3]
  exact q G s1
theorem ok_values {f : Addr} {fd : FuncData} (F : Fun K "_law_values" "_law_values" sValues f fd) (B : Free0 mg) : FnOk P w K mg base CX0 1 f fd ["_law_answer", "_law_count", "_law_ties"] spValues := by
  have sc : FnScope ["_law_answer", "_law_count", "_law_ties", "_law_value", "_law_x", "_law_y", "_law_c"] ["_law_answer", "_law_count", "_law_ties"] (defScope sValues) := ⟨rfl, rfl, rfl, by decide +kernel, rfl, by decide +kernel, by decide +kernel⟩
  refine F.ok sc (fun vs H Q E h => ?_) (fun cdv A outer s H vs Q E hr h => ?_)
  · obtain ⟨l, tl, n, v, qs, ts, rfl, _⟩ := h
    rfl
  obtain ⟨l, tl, n, v, qs, ts, rfl, hn, hv, hl, htl, hT, ok, hall, q⟩ := h
  refine ⟨_, (pss_cons (ps_if (pw_or (pt_not (pt_val (pe_cB call_isinst (by rfl) B.isinstance_ bt_isinstance (pa_c (pv 0) (pa_c (pe_bltn (v := .ty "list") (by rfl) B.list_ bt_list (by rfl)) pa_nil))))) (pw_or (pt_cmpR op_ne (pe_cB call_len_seq (by rfl) B.len_ bt_len (pa_c (pv 0) pa_nil)) (pv 1) (nomark _)) (pw_or1 (pt_cmpR op_ne (pe_ix ix_list (pv 0) pe_int (fun _ _ => rfl)) pe_int (nomark _))))).pt (pss_one (ps_ret pe_bl)) pss_nil)
      (pss_cons (ps_for PassesOwn.never rfl (pi_list (pv 0)) (pg_name (i := 3) sc.nd rfl (by first | exact Or.inl rfl | exact Or.inr rfl)) (pss_one (ps_if (pw_or (pt_not (pt_val (pe_cB call_isinst (by rfl) B.isinstance_ bt_isinstance (pa_c (pv 3) (pa_c (pe_bltn (v := .ty "int") (by rfl) B.int_ bt_int (by rfl)) pa_nil))))) (pw_or1 (pt_val (pe_cB call_isinst (by rfl) B.isinstance_ bt_isinstance (pa_c (pv 3) (pa_c (pe_bltn (v := .ty "bool") (by rfl) B.bool_ bt_bool (by rfl)) pa_nil)))))).pt (pss_one (ps_ret pe_bl)) pss_nil)))
      (pss_cons (ps_for PassesOwn.never rfl (pi_list (pv 2)) (pg_tup rfl (pgs_cons (pg_name (i := 4) sc.nd rfl (by first | exact Or.inl rfl | exact Or.inr rfl)) (pgs_cons (pg_name (i := 5) sc.nd rfl (by first | exact Or.inl rfl | exact Or.inr rfl)) (pgs_cons (pg_name (i := 6) sc.nd rfl (by first | exact Or.inl rfl | exact Or.inr rfl)) pgs_nil)))) (pss_one (ps_if (pt_cmpR op_gt (pe_op op_sub (pe_ix ix_list (pv 0) (pv 4) (fun _ _ => rfl)) (pe_ix ix_list (pv 0) (pv 5) (fun _ _ => rfl))) (pv 6) (nomark _)) (pss_one (ps_ret pe_bl)) pss_nil)))
      (pss_one (ps_ret pe_bl))))), ?_⟩
  have at_v : ∀ y : Nat, y < n → atI ((v.map fun x => x - BF.gv v 0).map V.int) (y : Int) = some (.int (BF.gv v y - BF.gv v 0)) := fun y hy => by
    refine atI_nat ?_
    rw [List.getElem?_map, List.getElem?_map, List.getElem?_eq_getElem (by omega : y < v.length)]
    have e : BF.gv v y = v[y]'(by omega) := by
      show v.getD y 0 = _
      rw [List.getD_eq_getElem?_getD, List.getElem?_eq_getElem (by omega : y < v.length)]
      rfl
    rw [e]
    rfl
  have at0 : atI ((v.map fun x => x - BF.gv v 0).map V.int) 0 = some (.int 0) := by
    have := at_v 0 hn
    rw [Int.sub_self] at this
    exact this
  refine ⟨_, rfl, _, _, _, _, rfl, TyOf.lst hl, rfl, _, rfl, iteF ?_⟩
  refine ⟨_, rfl, l, _, rfl, .inl (SqL.of hl), _, rfl, rfl, _, rfl, iteNS (by rw [List.length_map, List.length_map, hv]) ?_⟩
  refine ⟨_, rfl, l, _, _, _, rfl, rfl, SqL.of hl, at0, rfl, _, rfl, iteNS rfl ?_⟩
  refine ⟨_, rfl, l, rfl, ⟨_, SqL.of hl⟩, for_list (xs := ((v.map fun x => x - BF.gv v 0).map V.int)) (fun i σ G => ∃ u, σ = [some (.ref l), some (.int n), some (.ref tl), u, none, none, none] ∧ G = H) ⟨none, rfl, rfl⟩ ?_ ?_ ?_⟩
  · rintro i σ G _ ⟨u, rfl, rfl⟩
    exact SqL.of hl
  · rintro i x σ G hx ⟨u, rfl, rfl⟩
    obtain ⟨k, rfl⟩ : ∃ k, x = V.int k := by
      rw [List.getElem?_map] at hx
      cases h : (v.map fun x => x - BF.gv v 0)[i]? with
      | none => rw [h] at hx; cases hx
      | some k => rw [h] at hx; exact ⟨k, (Option.some.inj hx).symm⟩
    refine ⟨_, rfl, _, _, _, _, rfl, TyOf.int _, kit_ii K, _, rfl, iteF ?_⟩
    exact ⟨_, rfl, _, _, _, _, rfl, TyOf.int _, kit_ib K, _, rfl, iteF ⟨_, rfl, rfl⟩⟩
  rintro σ G ⟨u, rfl, rfl⟩
  refine ⟨_, rfl, tl, rfl, ⟨_, SqL.of htl⟩, for_list (xs := qs) (fun i σ G' => ∃ u4 u5 u6, σ = [some (.ref l), some (.int n), some (.ref tl), u, u4, u5, u6] ∧ G' = G) ⟨_, _, _, rfl, rfl⟩ ?_ ?_ ?_⟩
  · rintro i σ G' _ ⟨u4, u5, u6, rfl, rfl⟩
    exact SqL.of htl
  · rintro i x σ G' hx ⟨u4, u5, u6, rfl, rfl⟩
    have hi : i < ts.length := by
      have := (List.getElem?_eq_some_iff.mp hx).1
      have := hT.1
      omega
    obtain ⟨c, e1, e2⟩ := hT.2 i ts[i] (List.getElem?_eq_getElem hi)
    rw [hx] at e1
    cases e1
    have h1 := ok i ts[i].1 ts[i].2.1 ts[i].2.2 (List.getElem?_eq_getElem hi)
    have h2 := hall i ts[i].1 ts[i].2.1 ts[i].2.2 (List.getElem?_eq_getElem hi)
    generalize ts[i] = t at *
    obtain ⟨x, y, e⟩ := t
    dsimp only at h1 h2 e2
    refine ⟨c, _, rfl, SqT.of e2, rfl, _, _, rfl, _, _, rfl, _, _, rfl, rfl, ?_⟩
    refine ⟨_, rfl, _, rfl, l, _, _, _, rfl, rfl, SqL.of hl, at_v x h1.1, _, rfl, _, rfl, l, _, _, _, rfl, rfl, SqL.of hl, at_v y h1.2, _, _, rfl, rfl, _, rfl, _, _, rfl, rfl, _, rfl, ite2 (fun d => ?_) (fun d => ?_)⟩
    · have d' := of_decide_eq_true d
      dsimp only at d'
      omega
    · exact ⟨_, _, _, rfl, rfl⟩
  rintro σ G' ⟨u4, u5, u6, rfl, rfl⟩
  exact q
theorem nodup_of {α : Type} : ∀ {l : List α}, (∀ (i j : Nat) x, i < j → l[i]? = some x → l[j]? = some x → False) → l.Nodup
  | [], _ => List.nodup_nil
  | a :: l, h => by
    rw [List.nodup_cons]
    refine ⟨fun hm => ?_, nodup_of fun i j x hij h1 h2 => h (i + 1) (j + 1) x (by omega) (by simpa using h1) (by simpa using h2)⟩
    obtain ⟨j, hj⟩ := List.mem_iff_getElem?.mp hm
    exact h 0 (j + 1) a (by omega) rfl (by simpa using hj)
theorem ok_ring {f : Addr} {fd : FuncData} (F : Fun K "_law_ring" "_law_ring" sRing f fd) (B : Free0 mg) (F_tie : Fn P w K mg base 1 "_law_tie" ["_law_answer"] spTie) : FnOk P w K mg base CX0 2 f fd ["_law_answer", "_law_ties"] spRing := by
  have sc : FnScope ["_law_answer", "_law_ties", "_law_total", "_law_at", "_law_tie_here"] ["_law_answer", "_law_ties"] (defScope sRing) := ⟨rfl, rfl, rfl, by decide +kernel, rfl, by decide +kernel, by decide +kernel⟩
  refine F.ok sc (fun vs H Q E h => ?_) (fun cdv A outer s H vs Q E hr h => ?_)
  · obtain ⟨l, tl, es, qs, ts, rfl, _⟩ := h
    rfl
  obtain ⟨l, tl, es, qs, ts, rfl, hl, htl, hT, R, hes, q⟩ := h
  have hu3 : (A.deeper (PyProof.Rows.envOfC "_law_ring" (defScope sRing) s.heap.objs.size f cdv)).units + 3 < cLine := by have := hr.units; omega
  have hu1 : (A.deeper (PyProof.Rows.envOfC "_law_ring" (defScope sRing) s.heap.objs.size f cdv)).units + 1 + 1 < cLine := by have := hr.units; omega
  refine ⟨_, (pss_cons (ps_if (pw_or (pt_not (pt_val (pe_cB call_isinst (by rfl) B.isinstance_ bt_isinstance (pa_c (pv 0) (pa_c (pe_bltn (v := .ty "list") (by rfl) B.list_ bt_list (by rfl)) pa_nil))))) (pw_or (pt_cmpR op_eq (pe_cB call_len_seq (by rfl) B.len_ bt_len (pa_c (pv 0) pa_nil)) pe_int (nomark _)) (pw_or1 (pt_cmpR op_ne (pe_cB call_len_tset (by rfl) B.len_ bt_len (pa_c (pe_cT (call_set_tups rfl hu3) (by rfl) B.set_ bt_set (pa_c (pv 0) pa_nil)) pa_nil)) (pe_cB call_len_seq (by rfl) B.len_ bt_len (pa_c (pv 0) pa_nil)) (nomark _))))).pt (pss_one (ps_ret pe_bl)) pss_nil)
      (pss_cons (ps_set (i := 2) sc.nd rfl (by first | exact Or.inl rfl | exact Or.inr rfl) pe_int)
      (pss_cons (ps_for PassesOwn.never rfl (pi_range1 (by rfl) B.range_ (pa_c (pe_cB call_len_seq (by rfl) B.len_ bt_len (pa_c (pv 0) pa_nil)) pa_nil)) (pg_name (i := 3) sc.nd rfl (by first | exact Or.inl rfl | exact Or.inr rfl)) (pss_cons (ps_set (i := 4) sc.nd rfl (by first | exact Or.inl rfl | exact Or.inr rfl) (pe_ix ix_list (pv 0) (pv 3) (fun _ _ => rfl)))
      (pss_cons (ps_if (pw_or (pt_not (pt_val (pe_fn F_tie hr (pa_c (pv 4) pa_nil)))) (pw_or (pt_cmpR (op_notInD 1 hu1) (pv 4) (pv 1) rfl) (pw_or1 (pt_cmpR op_ne (pe_ix ix_tup (pv 4) pe_int (fun _ _ => rfl)) (pe_ix ix_tup (pe_ix ix_list (pv 0) (pe_op op_mod (pe_op op_add (pv 3) pe_int) (pe_cB call_len_seq (by rfl) B.len_ bt_len (pa_c (pv 0) pa_nil))) (fun _ _ => rfl)) pe_int (fun _ _ => rfl)) (nomark _))))).pt (pss_one (ps_ret pe_bl)) pss_nil)
      (pss_one (ps_set (i := 2) sc.nd rfl (by first | exact Or.inl rfl | exact Or.inr rfl) (pe_op op_add (pv 2) (pe_ix ix_tup (pv 4) pe_int (fun _ _ => rfl))))))))
      (pss_one (ps_ret (pe_cmpR op_lt (pv 2) pe_int (nomark _))))))), ?_⟩
  have hne : 0 < es.length := List.length_pos_iff.mpr R.ne
  have hll : (es.map fun j => qs.getD j V.non).length = es.length := List.length_map _
  have item : ∀ i, i < es.length → ∃ c t, es[i]? = some (es.getD i 0) ∧ (es.map fun j => qs.getD j V.non)[i]? = some (.ref c) ∧ H c = some (.tup (tieV t)) ∧ ts[es.getD i 0]? = some t ∧ ts.getD (es.getD i 0) (0, 0, 0) = t := by
    intro i hi
    have e0 : es[i]? = some (es.getD i 0) := by rw [List.getD_eq_getElem?_getD, List.getElem?_eq_getElem hi]; rfl
    obtain ⟨x, y, c, e1⟩ := R.mem i _ e0
    obtain ⟨a, e2, e3⟩ := hT.2 _ _ e1
    refine ⟨a, _, e0, ?_, e3, e1, by rw [List.getD_eq_getElem?_getD, e1]; rfl⟩
    rw [List.getElem?_map, e0]
    show some (qs.getD _ V.non) = _
    rw [List.getD_eq_getElem?_getD, e2]
    rfl
  refine ⟨_, rfl, _, _, _, _, rfl, TyOf.lst hl, rfl, _, rfl, iteF ?_⟩
  refine ⟨_, rfl, l, _, rfl, .inl (SqL.of hl), rfl, _, rfl, ?_⟩
  have hz : decide (V.int (((es.map fun j => qs.getD j V.non).length : Nat) : Int) = V.int 0) = false := by
    apply decide_eq_false
    rw [hll]
    intro e
    injection e with e
    omega
  refine ite2 (fun c => by rw [hz] at c; cases c) (fun _ => ?_)
  refine ⟨_, rfl, l, _, es.map (fun j => [((ts.getD j (0, 0, 0)).1 : Int), ((ts.getD j (0, 0, 0)).2.1 : Int), (ts.getD j (0, 0, 0)).2.2]), rfl, SqL.of hl, by rw [List.length_map, List.length_map], fun i x k h1 h2 => ?_, nodup_of fun i j x hij h1 h2 => ?_, by rw [List.length_map]; exact hes, fun v hv => ?_⟩
  · have hi : i < es.length := by
      have := (List.getElem?_eq_some_iff.mp h1).1
      rw [List.length_map] at this
      exact this
    obtain ⟨c, t, e0, e1, e2, e3, e4⟩ := item i hi
    rw [h1] at e1
    cases e1
    rw [List.getElem?_map, e0] at h2
    cases h2
    refine ⟨c, rfl, SqT.of ?_⟩
    dsimp only
    rw [e4]
    exact e2
  · have hi : i < es.length := by
      have := (List.getElem?_eq_some_iff.mp h1).1
      rw [List.length_map] at this
      exact this
    have hj : j < es.length := by
      have := (List.getElem?_eq_some_iff.mp h2).1
      rw [List.length_map] at this
      exact this
    obtain ⟨c, t, e0, e1, e2, e3, e4⟩ := item i hi
    obtain ⟨c', t', e0', e1', e2', e3', e4'⟩ := item j hj
    rw [List.getElem?_map, e0, Option.map_some, Option.some.injEq, e4] at h1
    rw [List.getElem?_map, e0', Option.map_some, Option.some.injEq, e4'] at h2
    rw [← h2] at h1
    injection h1 with g1 g2
    have g1' : t.1 = t'.1 := Int.ofNat.inj g1
    obtain ⟨x1, y1, c1⟩ := t
    obtain ⟨x2, y2, c2⟩ := t'
    dsimp only at g1'
    subst g1'
    exact R.unlike i j _ _ x1 y1 y2 c1 c2 hij e0 e0' e3 e3'
  rw [List.length_map]
  have s1 := same_new hv (tsetH v es.length)
  have e1 : upd H v (tsetH v es.length) v = some (tsetH v es.length) := upd_same
  generalize upd H v (tsetH v es.length) = H1 at *
  refine ⟨v, es.length, rfl, e1, by omega, _, rfl, l, _, rfl, .inl (SqL.of (s1 _ _ hl)), rfl, _, rfl, iteNS (by rw [hll]) ?_⟩
  refine ⟨_, rfl, l, _, rfl, .inl (SqL.of (s1 _ _ hl)), _, rfl, by rw [hll]; omega, by rw [hll]; omega, ?_⟩
  have en : (((es.map fun j => qs.getD j V.non).length : Nat) : Int).toNat = es.length := by rw [hll]; omega
  rw [en]
  have l1 := s1 _ _ hl
  have tl1 := s1 _ _ htl
  have T1 := hT.mono s1
  refine for_range (fun i σ G => ∃ (tot : Int) (u3 u4 : Option V), σ = [some (.ref l), some (.ref tl), some (.int tot), u3, u4] ∧ Same H1 G ∧ tot = ((es.take i).map fun j => (ts.getD j (0, 0, 0)).2.2).sum) ⟨0, none, none, rfl, fun _ _ e => e, rfl⟩ ?_ ?_
  · rintro i σ G hi ⟨tot, u3, u4, rfl, sG, htot⟩
    obtain ⟨c, t, e0, e1, e2, e3, e4⟩ := item i hi
    have hi2 : (i + 1) % es.length < es.length := Nat.mod_lt _ hne
    obtain ⟨c', t', e0', e1', e2', e3', e4'⟩ := item _ hi2
    have at1 : atI (es.map fun j => qs.getD j V.non) (0 + (i : Int)) = some (.ref c) := by rw [Int.zero_add]; exact atI_nat e1
    have at2 : atI (es.map fun j => qs.getD j V.non) ((0 + (i : Int) + 1) % ((es.map fun j => qs.getD j V.non).length : Nat)) = some (.ref c') := by
      rw [hll, Int.zero_add]
      exact atI_nat e1'
    have lG := sG _ _ l1
    have cG := sG _ _ (s1 _ _ e2)
    have cG' := sG _ _ (s1 _ _ e2')
    refine ⟨_, rfl, _, rfl, l, _, _, _, rfl, rfl, SqL.of lG, at1, ?_⟩
    refine ⟨_, rfl, c, t, rfl, cG, fun G2 s2 => ⟨_, rfl, iteF ?_⟩⟩
    have hin : dT t ∈ ts.map dT := List.mem_map.mpr ⟨t, List.mem_iff_getElem?.mpr ⟨_, e3⟩, rfl⟩
    refine ⟨_, rfl, _, rfl, tl, qs, dT t, ts.map dT, rfl, s2 _ _ (sG _ _ tl1), dT_depth ts, held_dT (s2 _ _ cG), ((T1.mono sG).mono s2).heldL, _, rfl, iteNS hin ?_⟩
    have hnext : t.2.1 = t'.1 := R.next i _ _ t.1 t.2.1 t'.1 t'.2.1 t.2.2 t'.2.2 e0 e0' e3 e3'
    refine ⟨_, rfl, c, _, _, _, rfl, rfl, SqT.of (s2 _ _ cG), rfl, _, rfl, _, rfl, _, _, rfl, rfl, _, rfl, l, _, rfl, .inl (SqL.of (s2 _ _ lG)), _, _, rfl, rfl, (by rw [hll]; show (0 : Int) < _; omega), l, _, _, _, rfl, rfl, SqL.of (s2 _ _ lG), at2, c', _, _, _, rfl, rfl, SqT.of (s2 _ _ cG'), rfl, rfl, _, rfl, iteNS (by rw [hnext]) ?_⟩
    refine ⟨_, rfl, _, rfl, c, _, _, _, rfl, rfl, SqT.of (s2 _ _ cG), rfl, _, _, rfl, rfl, _, _, _, rfl, sG.trans s2, ?_⟩
    rw [List.take_succ, e0, List.map_append, List.sum_append, htot]
    show _ + t.2.2 = _ + ([(ts.getD (es.getD i 0) (0, 0, 0)).2.2]).sum
    rw [e4]
    simp
  rintro σ G ⟨tot, u3, u4, rfl, sG, htot⟩
  rw [List.take_length] at htot
  obtain ⟨sm', hs0, hs1⟩ := R.sum
  refine ⟨_, rfl, _, _, rfl, rfl, ?_⟩
  show Q (.bl (decide (tot < 0))) G
  rw [show decide (tot < 0) = true from decide_eq_true (by rw [htot, ← hs1]; exact hs0)]
  exact q G (s1.trans sG)
end
end LW
set_option Elab.async false
set_option linter.all false
set_option maxRecDepth 100000
set_option maxHeartbeats 2000000
namespace LW
open PySem L2
structure AnsAt (H : Hp) (n : Nat) (ts : List BF.Tie) (qs : List V) (a : BF.Ans) (t l : Addr) : Prop where
  tells : BF.Tells n ts a
  len : lenA n a
  ht : H t = some (.tup [.str (nmA a), .ref l])
  hl : H l = some (.lst (outA qs a))
theorem AnsAt.mono {H H' : Hp} {n : Nat} {ts : List BF.Tie} {qs : List V} {a : BF.Ans} {t l : Addr} (h : AnsAt H n ts qs a t l) (s : Same H H') : AnsAt H' n ts qs a t l := ⟨h.tells, h.len, s _ _ h.ht, s _ _ h.hl⟩
def spGood : Sp := fun vs H Q _ => ∃ (t l tl : Addr) (n : Nat) (a : BF.Ans) (ts : List BF.Tie) (qs : List V) (due : Str), vs = [.ref t, .int n, .ref tl, .str due] ∧ 1 ≤ n ∧ n ≤ 69 ∧ H tl = some (.lst qs) ∧ TiesAt H qs ts ∧ BF.Ok n ts ∧ AnsAt H n ts qs a t l ∧ (due = "" ∨ due = nmA a) ∧ ∀ H', Same H H' → Q (.bl true) H'
section
variable {P : Program} {w : World} {K : PySem.W.Frag} {mg : Str → Option Value} {base : Heap}
theorem ok_good {f : Addr} {fd : FuncData} (F : Fun K "_law_good" "_law_good" sGood f fd) (B : Free0 mg) (F_values : Fn P w K mg base 1 "_law_values" ["_law_answer", "_law_count", "_law_ties"] spValues) (F_ring : Fn P w K mg base 2 "_law_ring" ["_law_answer", "_law_ties"] spRing) : FnOk P w K mg base CX0 3 f fd ["_law_answer", "_law_count", "_law_ties", "_law_due"] spGood := by
  have sc : FnScope ["_law_answer", "_law_count", "_law_ties", "_law_due"] ["_law_answer", "_law_count", "_law_ties", "_law_due"] (defScope sGood) := ⟨rfl, rfl, rfl, by decide +kernel, rfl, by decide +kernel, by decide +kernel⟩
  refine F.ok sc (fun vs H Q E h => ?_) (fun cdv A outer s H vs Q E hr h => ?_)
  · obtain ⟨t, l, tl, n, a, ts, qs, due, rfl, _⟩ := h
    rfl
  obtain ⟨t, l, tl, n, a, ts, qs, due, rfl, hn1, hn2, htl, hT, ok, hA, hdue, q⟩ := h
  refine ⟨_, (pss_cons (ps_if (pw_or (pt_not (pt_val (pe_cB call_isinst (by rfl) B.isinstance_ bt_isinstance (pa_c (pv 0) (pa_c (pe_bltn (v := .ty "tuple") (by rfl) B.tuple_ bt_tuple (by rfl)) pa_nil))))) (pw_or (pt_cmpR op_ne (pe_cB call_len_seq (by rfl) B.len_ bt_len (pa_c (pv 0) pa_nil)) pe_int (nomark _)) (pw_or1 (pt_cmpR op_notIn_seq (pv 3) (pe_lst (pa_c pe_str (pa_c (pe_ix ix_tup (pv 0) pe_int (fun _ _ => rfl)) pa_nil))) rfl)))).pt (pss_one (ps_ret pe_bl)) pss_nil)
      (pss_cons (ps_if (pt_cmpR op_eq (pe_ix ix_tup (pv 0) pe_int (fun _ _ => rfl)) pe_str (nomark _)) (pss_one (ps_ret (pe_fn F_values hr (pa_c (pe_ix ix_tup (pv 0) pe_int (fun _ _ => rfl)) (pa_c (pv 1) (pa_c (pv 2) pa_nil)))))) pss_nil)
      (pss_one (ps_ret (pe_and (pe_cmpR op_eq (pe_ix ix_tup (pv 0) pe_int (fun _ _ => rfl)) pe_str (nomark _)) (pe_one (pe_fn F_ring hr (pa_c (pe_ix ix_tup (pv 0) pe_int (fun _ _ => rfl)) (pa_c (pv 2) pa_nil))))))))), ?_⟩
  refine ⟨_, rfl, _, _, _, _, rfl, TyOf.tup hA.ht, kit_tt K, _, rfl, iteF ?_⟩
  refine ⟨_, rfl, t, _, rfl, .inr (SqT.of hA.ht), rfl, _, rfl, iteNS rfl ?_⟩
  refine ⟨_, rfl, _, rfl, t, _, _, _, rfl, rfl, SqT.of hA.ht, rfl, sm rfl, fun m hm => ?_⟩
  have s1 := same_new hm (.lst [V.str "", V.str (nmA a)])
  have e1 : upd H m (.lst [V.str "", V.str (nmA a)]) m = some (.lst [V.str "", V.str (nmA a)]) := upd_same
  generalize upd H m (.lst [V.str "", V.str (nmA a)]) = H1 at *
  have hA1 := hA.mono s1
  have hin : inV (.str due) [V.str "", V.str (nmA a)] = true := by
    have e : ∀ x : Str, eqV (.str x) (.str x) = true := fun x => beq_self_eq_true x
    rcases hdue with rfl | rfl
    · simp [inV, e]
    · simp [inV, e]
  refine ⟨m, _, rfl, .inl (SqL.of e1), rfl, rfl, _, rfl, ?_⟩
  refine ite2 (fun c => ?_) (fun _ => ?_)
  · exfalso
    have : (!inV (.str due) [V.str "", V.str (nmA a)]) = true := c
    rw [hin] at this
    cases this
  refine ⟨_, rfl, t, _, _, _, rfl, rfl, SqT.of hA1.ht, rfl, rfl, _, rfl, ?_⟩
  cases a with
  | vals v =>
    refine ite2 (fun _ => ?_) (fun c => absurd (show decide (V.str (nmA (.vals v)) = V.str "values") = true from decide_eq_true rfl) c)
    obtain ⟨h1, h2⟩ := hA.tells.vals_ok ok
    exact ⟨_, rfl, t, _, _, _, rfl, rfl, SqT.of hA1.ht, rfl, _, rfl, _, rfl, l, tl, n, v, qs, ts, rfl, hn1, h1, hA1.hl, s1 _ _ htl, hT.mono s1, ok, h2, q H1 s1⟩
  | ring es =>
    refine ite2 (fun c => ?_) (fun _ => ?_)
    · exfalso
      have c' := of_decide_eq_true c
      have : nmA (.ring es) = "values" := by injection c'
      exact absurd this (show ¬ (("ring" : Str) = "values") by decide)
    have R := hA.tells.ring_ok ok hn1
    have hlen : es.length ≤ n := hA.len
    refine ⟨_, rfl, t, _, _, _, rfl, rfl, SqT.of hA1.ht, rfl, rfl, true, ?_, ?_⟩
    · show V.bl (decide (V.str (nmA (.ring es)) = V.str "ring")) = _
      rw [show decide (V.str (nmA (.ring es)) = V.str "ring") = true from decide_eq_true rfl]
    · refine iteT ?_
      exact ⟨_, rfl, t, _, _, _, rfl, rfl, SqT.of hA1.ht, rfl, _, rfl, l, tl, es, qs, ts, rfl, hA1.hl, s1 _ _ htl, hT.mono s1, R, by omega, fun H' s' => q H' (s1.trans s')⟩
end
end LW
set_option Elab.async false
set_option linter.all false
set_option maxRecDepth 100000
set_option maxHeartbeats 1000000
namespace L2
open PySem PySem.Spec PyProof.Rows
variable {X : Cx}
def rInsert : V → List V → Hp → VK → Prop := fun x vs H Q => ∃ (l : Addr) (xs : List V) (k : Nat) (y : V), x = .ref l ∧ vs = [.int k, y] ∧ H l = some (.lst xs) ∧ k ≤ xs.length ∧ xs.length < sizeLine ∧ Q .non (upd H l (.lst (xs.take k ++ y :: xs.drop k)))
theorem mt_insert : MtM X "list.insert" rInsert := by
  intro pins s σ H x vs v us Q I rx rv h
  obtain ⟨l, xs, k, y, rfl, rfl, hH, hk, hz, q⟩ := h
  cases rx
  obtain ⟨u, w, rfl, ru, rw'⟩ := rv.two
  obtain ⟨t, rfl⟩ := ru
  obtain ⟨z, its, n, r, hl, e⟩ := I.lstM hH
  have hs : (sizeLine : Nat) ≤ (2 ^ 63 - 1) / 8 := by decide
  have ex : ∃ i : Int, i = (k : Int) := ⟨_, rfl⟩
  obtain ⟨i, ei⟩ := ex
  rw [← ei]
  have hfit : ¬ (!Builtin.List.listFitsIndex i) = true := by
    rw [fitsIndex_both (by omega) (by omega)]
    exact Bool.false_ne_true
  have hz2 : its.toArray.size ≤ sizeLine := by rw [List.size_toArray]; omega
  have hm := PySem.AutoListH.list_insert_list_int_val_1 l its.toArray n i t w hfit hz2
  refine call_meets F.slot_list_insert ⟨_, e, rfl⟩ F.entry_list_insert (F.args_list_insert_3 _ _ _) hm ⟨e, ?_⟩
  refine ⟨.non, _, I.lset (its' := its.take k ++ w :: its.drop k) hH e ?_ ((r.take k).append (.cons rw' (r.drop k))) ?_, rfl, q⟩
  · have hk0 : ¬ (i < 0) := by omega
    have hm : min i.toNat its.toArray.size = k := by rw [List.size_toArray]; omega
    show ((its.toArray.extract 0 (if i < 0 then (i + ((its.toArray.size : Nat) : Int)).toNat else min i.toNat its.toArray.size)).push w ++ its.toArray.extract (if i < 0 then (i + ((its.toArray.size : Nat) : Int)).toNat else min i.toNat its.toArray.size)) = _
    rw [if_neg hk0, hm]
    apply Array.ext'
    simp
    exact List.take_of_length_le (by rw [List.length_drop] <;> omega)
  · rw [List.length_append, List.length_take, List.length_cons, List.length_drop]
    omega
theorem pe_bmK {K : PySem.W.Frag} {o e : Expr} {es : List Expr} {to : TE} {t : TA} {name : Str} {apos cpos : Pos} {T id : String} {r : V → List V → Hp → VK → Prop} (pa : PlainAttrs T) (slot : Slot T name id) (hty : typeOf (.builtin id) = pure (.type "method_descriptor")) (hm : MtR X id r) (ho : PE X o to) (ha : PA X (e :: es) t)
    (hbase : attributeBase o name X.env (eval o X.env) = eval o X.env := by rfl)
    (hfew : ((backTo cpos (starEach (e :: es) X.env)).all (fun x => !x.1) && (backToKw cpos (keywordEach [] X.env)).all (fun x => x.1.isSome)
      && decide ((e :: es).length + ([] : List Keyword).length + (if ([] : List Keyword).isEmpty then 0 else 1) < 30)) = true := by rfl)
    (hline : (apos.endLine == cpos.line) = true := by rfl) (hs : starEach (e :: es) X.env = (false, eval e X.env) :: starEach es X.env := by rfl) (hplain : (backTo cpos (starEach es X.env)).any (·.1) = false := by rfl) (hK : X.K = K := by rfl) :
    PE X (.Call (.Attribute o name apos) (e :: es) [] cpos) (tBM K T r to t) := by
  subst hK
  exact pe_bm pa slot hty hm ho ha hbase hfew hline hs hplain
def tRev (K : PySem.W.Frag) (te : TE) (ts : TO) : TE := fun σ H Q => te σ H fun x H1 => ts σ H1 fun o H2 => o = some (-1) ∧ ∃ a xs, x = .ref a ∧ SqL K H2 a xs ∧ ∀ p, H2 p = none → Q (.ref p) (upd H2 p (.lst xs.reverse))
theorem pe_rev {e : Expr} {st : Expr} {p2 pos : Pos} {te : TE} {ts : TO} (he : PE X e te) (hst : PO X (some st) ts) : PE X (.Subscript e (.Slice none none (some st) p2) pos) (tRev X.K te ts) := by
  intro pins s σ H Q I h
  refine Subscript_ (thn (he pins s σ H _ I h) fun v s1 ⟨x, H1, I1, r1, q1⟩ => ?_)
  refine wpAny_Slice ?_
  rw [evalPart_none]
  refine wpAny_pure ?_
  refine wpAny_pure ?_
  refine thn (hst pins s1 σ H1 _ I1 q1) fun vs s3 ⟨o, H3, I3, pu, q3⟩ => ?_
  obtain ⟨rfl, a, xs, rfl, hx, q⟩ := q3
  cases r1
  have I4 : Inv X pins σ H3 { s3 with heap := s3.heap.push { cls := .type "slice", data := .fields #[.none, .none, vs] } } := I3.kept (t' := s3.toks) fun b ob q => Heap.get?_push_of_some _ q
  obtain ⟨its, r, ht, hz⟩ := I4.list hx
  have hlen := r.length
  show wpAny (model X.prog X.w) X.A (subscriptTail e (.Slice none none (some st) p2) (.ref a) (.ref s3.heap.objs.size)) (EP X pins σ Q) X.xe { s3 with heap := s3.heap.push { cls := .type "slice", data := .fields #[.none, .none, vs] } }
  refine tail_any (ops := [.ref a, .ref s3.heap.objs.size]) ht.isList.typeIs slot_list_getitem.lookup ?_ (by with_unfolding_all rfl)
  refine wpAny_getItem_list_slice ht.isList (Heap.IsSliceOf.new ..) .none .none pu (by simp) ?_ (by rw [List.size_toArray] <;> omega)
  rw [PySem.W.krv_pick]
  exact ⟨.ref _, _, I4.laid (t' := s3.toks) (o := .lst xs.reverse) (fun b ob q => Heap.get?_push_of_some _ q) (Nat.le_refl _) ⟨by rw [List.length_reverse]; exact hz, _, 0, r.reverse, Heap.get?_push_size _ rfl⟩, rfl, q _ (I4.hok.fresh (Nat.le_refl _))⟩
end L2
set_option Elab.async false
set_option linter.all false
set_option maxRecDepth 100000
set_option maxHeartbeats 2000000
namespace LW
open PySem L2
abbrev sNumbers : Stmt := top 12
abbrev sMet : Stmt := top 13
inductive TR (H : Hp) : List V → List BF.Tie → Prop where
  | nil : TR H [] []
  | cons {c : Addr} {t : BF.Tie} {qs : List V} {ts : List BF.Tie} (h : H c = some (.tup (tieV t))) (r : TR H qs ts) : TR H (.ref c :: qs) (t :: ts)
theorem TiesAt.tr {H : Hp} : ∀ {qs : List V} {ts : List BF.Tie}, TiesAt H qs ts → TR H qs ts
  | [], [], _ => .nil
  | q :: qs, [], h => by have := h.1; simp at this
  | [], t :: ts, h => by have := h.1; simp at this
  | q :: qs, t :: ts, h => by
    obtain ⟨c, e1, e2⟩ := h.2 0 t rfl
    have : q = .ref c := by simpa using e1
    subst this
    exact .cons e2 (TiesAt.tr ⟨by simpa using h.1, fun i t' e => by
      obtain ⟨c', g1, g2⟩ := h.2 (i + 1) t' (by simpa using e)
      exact ⟨c', by simpa using g1, g2⟩⟩)
theorem TR.at {H : Hp} {qs : List V} {ts : List BF.Tie} (h : TR H qs ts) : TiesAt H qs ts := by
  induction h with
  | nil => exact ⟨rfl, fun i t e => by simp at e⟩
  | @cons c t qs ts h _ ih =>
    refine ⟨by simp [ih.1], fun i t' e => ?_⟩
    cases i with
    | zero => cases e; exact ⟨c, rfl, h⟩
    | succ i => obtain ⟨c', g1, g2⟩ := ih.2 i t' (by simpa using e); exact ⟨c', by simpa using g1, g2⟩
theorem TR.append {H : Hp} {qs qs' : List V} {ts ts' : List BF.Tie} (h : TR H qs ts) (h' : TR H qs' ts') : TR H (qs ++ qs') (ts ++ ts') := by
  induction h with
  | nil => exact h'
  | cons h _ ih => exact .cons h ih
theorem TR.take {H : Hp} {qs : List V} {ts : List BF.Tie} (h : TR H qs ts) : ∀ n, TR H (qs.take n) (ts.take n) := by
  induction h with
  | nil => intro n; rw [List.take_nil, List.take_nil]; exact .nil
  | cons h _ ih => intro n; cases n with | zero => exact .nil | succ n => exact .cons h (ih n)
theorem TR.drop {H : Hp} {qs : List V} {ts : List BF.Tie} (h : TR H qs ts) : ∀ n, TR H (qs.drop n) (ts.drop n) := by
  induction h with
  | nil => intro n; rw [List.drop_nil, List.drop_nil]; exact .nil
  | cons h r ih => intro n; cases n with | zero => exact .cons h r | succ n => exact ih n
theorem TR.reverse {H : Hp} {qs : List V} {ts : List BF.Tie} (h : TR H qs ts) : TR H qs.reverse ts.reverse := by
  induction h with
  | nil => exact .nil
  | cons h _ ih => rw [List.reverse_cons, List.reverse_cons]; exact ih.append (.cons h .nil)
structure Fd (H G : Hp) (tl : Addr) (qs : List V) (ts : List BF.Tie) (fl : Addr) (xs : List Int) : Prop where
  same : Same H G
  etl : G tl = some (.lst qs)
  ties : TiesAt G qs ts
  efl : G fl = some (.lst (xs.map V.int))
  ne : fl ≠ tl
  fl0 : H fl = none
  l1 : 1 ≤ xs.length
  l2 : xs.length ≤ 2
theorem Fd.take {H G G' : Hp} {tl fl : Addr} {qs : List V} {ts : List BF.Tie} {xs ys : List Int} (h : Fd H G tl qs ts fl xs) (k : ∀ b o, b ≠ fl → G b = some o → G' b = some o) (e : G' fl = some (.lst (ys.map V.int))) (l1 : 1 ≤ ys.length) (l2 : ys.length ≤ 2) : Fd H G' tl qs ts fl ys :=
  ⟨fun b o eb => k b o (ne_of_none eb h.fl0) (h.same b o eb), k _ _ h.ne.symm h.etl, h.ties.keep fun b zs eb => k _ _ (ne_of eb h.efl (by intro z; cases z)) eb, e, h.ne, h.fl0, l1, l2⟩
structure Fe (H G : Hp) (fl : Addr) (xs : List Int) : Prop where
  efl : G fl = some (.lst (xs.map V.int))
  fl0 : H fl = none
  l1 : 1 ≤ xs.length
  l2 : xs.length ≤ 2
def spNumbers (K : PySem.W.Frag) : Sp := fun vs H Q _ => ∃ (p : Addr) (ns : List Int) (n : Nat), vs = [.ref p, .int n] ∧ SqL K H p (ns.map V.int) ∧ n ≤ 69 ∧ ∀ (l : Addr) (N : List Int) H', Same H H' → H l = none → H' l = some (.lst (N.map V.int)) → N.length = n → Q (.ref l) H'
def spMet (K : PySem.W.Frag) : Sp := fun vs H Q _ => ∃ (p nl : Addr) (ns N : List Int), vs = [.ref p, .ref nl] ∧ SqL K H p (ns.map V.int) ∧ H nl = some (.lst (N.map V.int)) ∧ 1 ≤ N.length ∧ N.length ≤ 69 ∧ ∀ (tl : Addr) (qs : List V) (ts : List BF.Tie) H', Same H H' → H tl = none → H' tl = some (.lst qs) → TiesAt H' qs ts → BF.Ok N.length ts → (∀ t ∈ ts, BF.gv N t.1 - BF.gv N t.2.1 ≤ t.2.2) → ts.length ≤ 59 → Q (.ref tl) H'
section
variable {P : Program} {w : World} {K : PySem.W.Frag} {mg : Str → Option Value} {base : Heap}
theorem ok_numbers {f : Addr} {fd : FuncData} (F : Fun K "_law_numbers" "_law_numbers" sNumbers f fd) (B : Free0 mg) (F_cell : Fn P w K mg base 1 "_law_cell" ["_law_script", "_law_k"] (spCell K)) (F_feed : Fn P w K mg base 2 "_law_feed" ["_law_script", "_law_k"] (spFeed K)) (F_take : Fn P w K mg base 1 "_law_take" ["_law_feed_here", "_law_many"] spTake) : FnOk P w K mg base CX0 3 f fd ["_law_script", "_law_count"] (spNumbers K) := by
  have sc : FnScope ["_law_script", "_law_count", "_law_feed_here", "_law_number", "_law_some", "_law_k"] ["_law_script", "_law_count"] (defScope sNumbers) := ⟨rfl, rfl, rfl, by decide +kernel, rfl, by decide +kernel, by decide +kernel⟩
  refine F.ok sc (fun vs H Q E h => ?_) (fun cdv A outer s H vs Q E hr h => ?_)
  · obtain ⟨p, ns, n, rfl, _⟩ := h
    rfl
  obtain ⟨p, ns, n, rfl, hS, hn, q⟩ := h
  refine ⟨_, (pss_cons (ps_set (i := 2) sc.nd rfl (by first | exact Or.inl rfl | exact Or.inr rfl) (pe_fn F_feed hr (pa_c (pv 0) (pa_c pe_int pa_nil))))
      (pss_cons (ps_set (i := 3) sc.nd rfl (by first | exact Or.inl rfl | exact Or.inr rfl) (pe_op op_add (pe_op op_mod (pe_fn F_cell hr (pa_c (pv 0) (pa_c pe_int pa_nil))) pe_int) pe_int))
      (pss_cons (ps_set (i := 4) sc.nd rfl (by first | exact Or.inl rfl | exact Or.inr rfl) (pe_lst pa_nil))
      (pss_cons (ps_for PassesOwn.never rfl (pi_range1 (by rfl) B.range_ (pa_c (pv 1) pa_nil)) (pg_name (i := 5) sc.nd rfl (by first | exact Or.inl rfl | exact Or.inr rfl)) (pss_one (ps_if (pt_cmpR op_ge (pe_fn F_cell hr (pa_c (pv 0) (pa_c pe_int pa_nil))) (pe_op op_pow pe_int pe_int) (nomark _)) (pss_one (ps_expr (pe_bm PySem.F.plainAttrs_list PySem.F.slot_list_append PySem.F.type_list_append mt_append (pv 4) (pa_c (pe_op op_sub (pe_fn F_take hr (pa_c (pv 2) (pa_c (pe_op op_add (pe_op op_mul pe_int (pe_op op_pow pe_int pe_int)) pe_int) pa_nil))) (pe_op op_pow pe_int pe_int)) pa_nil)))) (pss_cons (ps_set (i := 3) sc.nd rfl (by first | exact Or.inl rfl | exact Or.inr rfl) (pe_op op_mod (pe_op op_add (pe_op op_add (pe_op op_mul (pv 3) (pv 3)) (pe_op op_mul pe_int (pv 3))) (pv 5)) pe_int))
      (pss_one (ps_expr (pe_bm PySem.F.plainAttrs_list PySem.F.slot_list_append PySem.F.type_list_append mt_append (pv 4) (pa_c (pe_op op_sub (pe_op op_mod (pe_op op_mul (pe_op op_mul (pv 3) (pv 3)) pe_int) (pe_op op_add (pe_op op_mul pe_int (pe_op op_pow pe_int pe_int)) pe_int)) (pe_op op_pow pe_int pe_int)) pa_nil))))))))
      (pss_one (ps_ret (pv 4))))))), ?_⟩
  have b1 : ∀ x : Int, 0 ≤ x % 2147483647 ∧ x % 2147483647 < 2147483647 := fun x => ⟨Int.emod_nonneg _ (by decide), Int.emod_lt_of_pos _ (by decide)⟩
  refine ⟨_, rfl, p, ns, 1, rfl, hS, by decide, by decide, fun fl xs H1 s1 hfl0 hfl x1 x2 => ?_⟩
  refine ⟨_, rfl, p, ns, 1, rfl, s1.seq hS, by decide, by decide, fun c => ?_⟩
  refine ⟨_, _, rfl, rfl, (by show (0 : Int) < _; decide), _, _, rfl, rfl, ?_⟩
  have hc := b1 c
  refine ⟨sm rfl, fun l hl => ?_⟩
  have s2 := same_new hl (.lst [])
  have e2 : upd H1 l (.lst []) l = some (.lst []) := upd_same
  have hl0 : H l = none := s1.free hl
  have nlf : l ≠ fl := fun e => by rw [e, hfl] at hl; cases hl
  have hfl2 := s2 _ _ hfl
  generalize upd H1 l (.lst []) = H2 at *
  refine ⟨_, rfl, _, rfl, by omega, by omega, ?_⟩
  rw [show ((n : Nat) : Int).toNat = n by omega]
  refine for_range (fun i σ G => ∃ (y : Int) (zs xs : List Int) (u5 : Option V), σ = [some (.ref p), some (.int n), some (.ref fl), some (.int y), some (.ref l), u5] ∧ Same H G ∧ 0 ≤ y ∧ y < 8589934592 ∧ G l = some (.lst (zs.map V.int)) ∧ zs.length = i ∧ Fe H G fl xs) ⟨_, [], xs, none, rfl, s1.trans s2, by omega, by omega, e2, rfl, hfl2, hfl0, x1, x2⟩ ?_ ?_
  · rintro i σ G hi ⟨y, zs, xs, u5, rfl, sG, y0, y1, eG, hz, fe⟩
    refine ⟨_, rfl, p, ns, 1, rfl, sG.seq hS, by decide, by decide, fun c => ?_⟩
    refine ⟨_, _, rfl, rfl, ⟨by decide, by decide, by decide⟩, _, _, rfl, rfl, _, rfl, ite2 (fun _ => ?_) (fun _ => ?_)⟩
    · refine ⟨_, rfl, .inl ⟨rfl, _, SqL.of eG⟩, _, rfl, _, _, rfl, rfl, ⟨by decide, by decide, by decide⟩, _, _, rfl, rfl, .inl ⟨by decide, by decide⟩, _, _, rfl, rfl, fl, xs, _, rfl, fe.efl, fe.l1, fe.l2, by decide, by decide, fun d ys G2 d0 d1 k2 e2 a1 a2 => ?_⟩
      have eG2 := k2 _ _ nlf eG
      refine ⟨_, _, rfl, rfl, ⟨by decide, by decide, by decide⟩, _, _, rfl, rfl, l, _, _, rfl, rfl, eG2, small1000 (by rw [List.length_map]; omega), ?_⟩
      refine ⟨y, zs ++ [d - 10 ^ Int.toNat 17], ys, _, rfl, fun b o e => ?_, y0, y1, ?_, by rw [List.length_append, hz]; rfl, ?_, fe.fl0, a1, a2⟩
      · rw [upd_ne (ne_of_none e hl0)]; exact k2 _ _ (ne_of_none e fe.fl0) (sG _ _ e)
      · rw [upd_same, List.map_append]; rfl
      · rw [upd_ne nlf.symm]; exact e2
    · refine ⟨_, rfl, _, rfl, _, _, rfl, rfl, .inl ⟨by omega, by omega⟩, _, rfl, _, _, rfl, rfl, .inl ⟨by decide, by decide⟩, _, _, rfl, rfl, _, rfl, _, _, rfl, rfl, _, _, rfl, rfl, (by show (0 : Int) < _; decide), ?_⟩
      have hy := b1 (y * y + 48271 * y + (0 + (i : Int)))
      have ey : ∃ y', y' = (y * y + 48271 * y + (0 + (i : Int))) % 2147483647 := ⟨_, rfl⟩
      obtain ⟨y', ey⟩ := ey
      rw [← ey] at hy
      dsimp only
      rw [← ey]
      refine ⟨_, rfl, .inl ⟨rfl, _, SqL.of eG⟩, _, rfl, _, rfl, _, _, rfl, rfl, .inl ⟨by omega, by omega⟩, _, _, rfl, rfl, .inr ⟨by decide, by decide⟩, _, _, rfl, rfl, ⟨by decide, by decide, by decide⟩, _, _, rfl, rfl, .inl ⟨by decide, by decide⟩, _, _, rfl, rfl, _, _, rfl, rfl, (by show (0 : Int) < _; decide), _, _, rfl, rfl, ⟨by decide, by decide, by decide⟩, _, _, rfl, rfl, l, _, _, rfl, rfl, eG, small1000 (by rw [List.length_map]; omega), ?_⟩
      refine ⟨y', zs ++ [y' * y' * 46566 % (2 * 10 ^ Int.toNat 17 + 1) - 10 ^ Int.toNat 17], xs, _, rfl, fun b o e => ?_, by omega, by omega, ?_, by rw [List.length_append, hz]; rfl, ?_, fe.fl0, fe.l1, fe.l2⟩
      · rw [upd_ne (ne_of_none e hl0)]; exact sG _ _ e
      · rw [upd_same, List.map_append]; rfl
      · rw [upd_ne nlf.symm]; exact fe.efl
  rintro σ G ⟨y, zs, xs, u5, rfl, sG, y0, y1, eG, hz, fe⟩
  exact ⟨_, rfl, q l zs G sG hl0 eG hz⟩
theorem ok_met {f : Addr} {fd : FuncData} (F : Fun K "_law_met" "_law_met" sMet f fd) (B : Free0 mg) (F_feed : Fn P w K mg base 2 "_law_feed" ["_law_script", "_law_k"] (spFeed K)) (F_take : Fn P w K mg base 1 "_law_take" ["_law_feed_here", "_law_many"] spTake) : FnOk P w K mg base CX0 3 f fd ["_law_script", "_law_numbers_here"] (spMet K) := by
  have sc : FnScope ["_law_script", "_law_numbers_here", "_law_ties", "_law_k", "_law_feed_here", "_law_x", "_law_y", "_law_room"] ["_law_script", "_law_numbers_here"] (defScope sMet) := ⟨rfl, rfl, rfl, by decide +kernel, rfl, by decide +kernel, by decide +kernel⟩
  refine F.ok sc (fun vs H Q E h => ?_) (fun cdv A outer s H vs Q E hr h => ?_)
  · obtain ⟨p, nl, ns, N, rfl, _⟩ := h
    rfl
  obtain ⟨p, nl, ns, N, rfl, hS, hN, hN1, hN2, q⟩ := h
  refine ⟨_, (pss_cons (ps_set (i := 2) sc.nd rfl (by first | exact Or.inl rfl | exact Or.inr rfl) (pe_lst pa_nil))
      (pss_cons (ps_for PassesOwn.never rfl (pi_range1 (by rfl) B.range_ (pa_c (pe_cB (call_min2 rfl) (by rfl) B.min_ bt_min (pa_c pe_int (pa_c (pe_cB (call_max2 rfl) (by rfl) B.max_ bt_max (pa_c pe_int (pa_c (pe_op op_sub (pe_cB call_len_seq (by rfl) B.len_ bt_len (pa_c (pv 0) pa_nil)) pe_int) pa_nil))) pa_nil))) pa_nil)) (pg_name (i := 3) sc.nd rfl (by first | exact Or.inl rfl | exact Or.inr rfl)) (pss_cons (ps_set (i := 4) sc.nd rfl (by first | exact Or.inl rfl | exact Or.inr rfl) (pe_fn F_feed hr (pa_c (pv 0) (pa_c (pe_op op_add pe_int (pv 3)) pa_nil))))
      (pss_cons (ps_set (i := 5) sc.nd rfl (by first | exact Or.inl rfl | exact Or.inr rfl) (pe_fn F_take hr (pa_c (pv 4) (pa_c (pe_cB call_len_seq (by rfl) B.len_ bt_len (pa_c (pv 1) pa_nil)) pa_nil))))
      (pss_cons (ps_set (i := 6) sc.nd rfl (by first | exact Or.inl rfl | exact Or.inr rfl) (pe_fn F_take hr (pa_c (pv 4) (pa_c (pe_cB call_len_seq (by rfl) B.len_ bt_len (pa_c (pv 1) pa_nil)) pa_nil))))
      (pss_cons (ps_set (i := 7) sc.nd rfl (by first | exact Or.inl rfl | exact Or.inr rfl) (pe_ix ix_list (pe_lst (pa_c pe_int (pa_c pe_int (pa_c pe_int (pa_c (pe_fn F_take hr (pa_c (pv 4) (pa_c (pe_op op_pow pe_int pe_int) pa_nil))) pa_nil))))) (pe_fn F_take hr (pa_c (pv 4) (pa_c pe_int pa_nil))) (fun _ _ => rfl)))
      (pss_one (ps_expr (pe_bm PySem.F.plainAttrs_list PySem.F.slot_list_append PySem.F.type_list_append mt_append (pv 2) (pa_c (pe_tup (pa_c (pv 5) (pa_c (pv 6) (pa_c (pe_op op_add (pe_op op_sub (pe_ix ix_list (pv 1) (pv 5) (fun _ _ => rfl)) (pe_ix ix_list (pv 1) (pv 6) (fun _ _ => rfl))) (pv 7)) pa_nil)))) pa_nil)))))))))
      (pss_one (ps_ret (pv 2))))), ?_⟩
  have hNl : ((N.map V.int).length : Int) = (N.length : Int) := by rw [List.length_map]
  refine ⟨sm rfl, fun tl htl => ?_⟩
  have s1 := same_new htl (.lst [])
  have e1 : upd H tl (.lst []) tl = some (.lst []) := upd_same
  generalize upd H tl (.lst []) = H1 at *
  have hv : ∃ v : Int, (if (if ((ns.map V.int).length : Int) - 4 > 0 then ((ns.map V.int).length : Int) - 4 else 0) < 59 then (if ((ns.map V.int).length : Int) - 4 > 0 then ((ns.map V.int).length : Int) - 4 else 0) else 59) = v ∧ 0 ≤ v ∧ v ≤ 59 := by
    refine ⟨_, rfl, ?_, ?_⟩
    · split <;> split <;> omega
    · split <;> split <;> omega
  obtain ⟨v, hv, hv0, hv1⟩ := hv
  refine ⟨_, rfl, p, _, rfl, .inl (s1.seq hS), _, _, rfl, rfl, _, _, rfl, _, _, rfl, ?_⟩
  rw [hv]
  refine ⟨_, rfl, by omega, by omega, ?_⟩
  refine for_range (fun i σ G => ∃ (qs : List V) (ts : List BF.Tie) (u3 u4 u5 u6 u7 : Option V), σ = [some (.ref p), some (.ref nl), some (.ref tl), u3, u4, u5, u6, u7] ∧ Same H G ∧ G tl = some (.lst qs) ∧ TiesAt G qs ts ∧ BF.Ok N.length ts ∧ (∀ t ∈ ts, BF.gv N t.1 - BF.gv N t.2.1 ≤ t.2.2) ∧ ts.length = i) ⟨[], [], none, none, none, none, none, rfl, s1, e1, ⟨rfl, fun i t e => by simp at e⟩, fun j x y c e => by simp at e, fun t ht => by simp at ht, rfl⟩ ?_ ?_
  · rintro i σ G hi ⟨qs, ts, u3, u4, u5, u6, u7, rfl, sG, etl, hT, ok, hp, hlen⟩
    have hi59 : i < 59 := by omega
    refine ⟨_, rfl, _, rfl, _, _, rfl, rfl, p, ns, _, rfl, sG.seq hS, by omega, by omega, fun fl xs G1 t1 hfl0 hfl x1 x2 => ?_⟩
    have sG1 := sG.trans t1
    have nft : fl ≠ tl := fun e => by rw [e, etl] at hfl0; cases hfl0
    have F1 : Fd H G1 tl qs ts fl xs := ⟨sG1, t1 _ _ etl, hT.mono t1, hfl, nft, sG.free hfl0, x1, x2⟩
    refine ⟨_, rfl, _, rfl, nl, _, rfl, .inl (SqL.of (F1.same _ _ hN)), fl, xs, _, rfl, F1.efl, F1.l1, F1.l2, by rw [hNl]; omega, by rw [hNl]; omega, fun x y1 G2 x0 x1 k2 e2 a1 a2 => ?_⟩
    rw [hNl] at x1
    have F2 := F1.take k2 e2 a1 a2
    refine ⟨_, rfl, _, rfl, nl, _, rfl, .inl (SqL.of (F2.same _ _ hN)), fl, y1, _, rfl, F2.efl, F2.l1, F2.l2, by rw [hNl]; omega, by rw [hNl]; omega, fun y y2 G3 y0 y1' k3 e3 a1 a2 => ?_⟩
    rw [hNl] at y1'
    have F3 := F2.take k3 e3 a1 a2
    refine ⟨_, rfl, _, _, rfl, rfl, ⟨by decide, by decide, by decide⟩, fl, y2, _, rfl, F3.efl, F3.l1, F3.l2, by decide, by decide, fun d y3 G4 d0 d1 k4 e4 a1 a2 => ?_⟩
    have F4 := F3.take k4 e4 a1 a2
    refine ⟨sm rfl, fun ml hml => ?_⟩
    have s5 := same_new hml (.lst [V.int 0, V.int 0, V.int 1, V.int d])
    have e5 : upd G4 ml (.lst [V.int 0, V.int 0, V.int 1, V.int d]) ml = some (.lst [V.int 0, V.int 0, V.int 1, V.int d]) := upd_same
    have F5 : Fd H (upd G4 ml (.lst [V.int 0, V.int 0, V.int 1, V.int d])) tl qs ts fl y3 := ⟨F4.same.trans s5, s5 _ _ F4.etl, F4.ties.mono s5, s5 _ _ F4.efl, F4.ne, F4.fl0, F4.l1, F4.l2⟩
    have nml : ml ≠ fl := fun e => by rw [e, F4.efl] at hml; cases hml
    generalize upd G4 ml (.lst [V.int 0, V.int 0, V.int 1, V.int d]) = G5 at *
    refine ⟨_, rfl, fl, y3, 4, rfl, F5.efl, F5.l1, F5.l2, by decide, by decide, fun k y4 G6 k0 k1 k6 e6 a1 a2 => ?_⟩
    have F6 := F5.take k6 e6 a1 a2
    have em := k6 _ _ nml e5
    have hroom : ∃ r : Int, atI [V.int 0, V.int 0, V.int 1, V.int d] k = some (.int r) ∧ 0 ≤ r := by
      have : k = 0 ∨ k = 1 ∨ k = 2 ∨ k = 3 := by omega
      rcases this with rfl | rfl | rfl | rfl
      · exact ⟨0, rfl, by decide⟩
      · exact ⟨0, rfl, by decide⟩
      · exact ⟨1, rfl, by decide⟩
      · exact ⟨d, rfl, d0⟩
    obtain ⟨r, hr1, hr0⟩ := hroom
    refine ⟨ml, _, _, _, rfl, rfl, SqL.of em, hr1, ?_⟩
    obtain ⟨x', rfl⟩ : ∃ x' : Nat, x = (x' : Int) := ⟨x.toNat, by omega⟩
    obtain ⟨y', rfl⟩ : ∃ y' : Nat, y = (y' : Int) := ⟨y.toNat, by omega⟩
    have hx' : x' < N.length := by omega
    have hy' : y' < N.length := by omega
    have hN6 := F6.same _ _ hN
    refine ⟨_, rfl, .inl ⟨rfl, _, SqL.of F6.etl⟩, _, rfl, _, rfl, _, rfl, _, rfl, nl, _, _, _, rfl, rfl, SqL.of hN6, gv_at hx', _, rfl, _, rfl, nl, _, _, _, rfl, rfl, SqL.of hN6, gv_at hy', _, _, rfl, rfl, _, rfl, _, _, rfl, rfl, sm rfl, fun cA hcA => ?_⟩
    have s7 := same_new hcA (.tup (tieV (x', y', BF.gv N x' - BF.gv N y' + r)))
    have e7 : upd G6 cA (.tup (tieV (x', y', BF.gv N x' - BF.gv N y' + r))) cA = some (.tup (tieV (x', y', BF.gv N x' - BF.gv N y' + r))) := upd_same
    have etl7 := s7 _ _ F6.etl
    have T7 := F6.ties.mono s7
    have sH7 := F6.same.trans s7
    have hq : qs.length = ts.length := hT.1
    refine ⟨tl, _, _, rfl, rfl, etl7, small1000 (by omega), ?_⟩
    generalize upd G6 cA (.tup [V.int x', V.int y', V.int (BF.gv N x' - BF.gv N y' + r)]) = G7 at *
    have kk : ∀ b zs, G7 b = some (.tup zs) → upd G7 tl (.lst (qs ++ [.ref cA])) b = some (.tup zs) := fun b zs e => by
      rw [upd_ne (ne_of e etl7 (by intro z; cases z))]; exact e
    refine ⟨qs ++ [.ref cA], ts ++ [(x', y', BF.gv N x' - BF.gv N y' + r)], _, _, _, _, _, rfl, fun b o e => ?_, upd_same, ?_, fun j a b c e => ?_, fun t ht => ?_, by rw [List.length_append, hlen]; rfl⟩
    · rw [upd_ne (ne_of_none e htl)]; exact sH7 _ _ e
    · exact ((T7.keep kk).tr.append (.cons (kk _ _ e7) .nil)).at
    · rcases List.mem_append.mp (List.mem_iff_getElem?.mpr ⟨j, e⟩) with g | g
      · obtain ⟨j', hj'⟩ := List.mem_iff_getElem?.mp g
        exact ok j' a b c hj'
      · have := List.mem_singleton.mp g
        cases this
        exact ⟨hx', hy'⟩
    · rcases List.mem_append.mp ht with g | g
      · exact hp t g
      · have := List.mem_singleton.mp g
        subst this
        dsimp only
        omega
  rintro σ G ⟨qs, ts, u3, u4, u5, u6, u7, rfl, sG, etl, hT, ok, hp, hlen⟩
  exact ⟨_, rfl, q tl qs ts G sG htl etl hT ok hp (by omega)⟩
end
end LW
set_option Elab.async false
set_option linter.all false
set_option maxRecDepth 100000
set_option maxHeartbeats 2000000
namespace LW
open PySem L2
abbrev sRound : Stmt := top 14
abbrev sMixed : Stmt := top 15
def rt (N : List Int) (p : Nat → Nat) (m : Nat) (k : Nat) : BF.Tie := (p k, p ((k + 1) % m), BF.gv N (p k) - BF.gv N (p ((k + 1) % m)))
structure RoundIs (N : List Int) (more : Int) (p : Nat → Nat) (m at' : Nat) (rs : List BF.Tie) : Prop where
  len : rs.length = m
  lt : at' < m
  le : m ≤ N.length
  pl : ∀ k, p k < N.length
  is : ∀ k, k < m → rs[k]? = some (p k, p ((k + 1) % m), BF.gv N (p k) - BF.gv N (p ((k + 1) % m)) + (if k = at' then more else 0))
def spRound (K : PySem.W.Frag) : Sp := fun vs H Q _ => ∃ (a nl : Addr) (ns N : List Int) (more : Int), vs = [.ref a, .ref nl, .int more] ∧ SqL K H a (ns.map V.int) ∧ H nl = some (.lst (N.map V.int)) ∧ 1 ≤ N.length ∧ N.length ≤ 69 ∧ ∀ (t rl : Addr) (qr : List V) (rs : List BF.Tie) (p : Nat → Nat) (m at' : Nat) H', Same H H' → H rl = none → H' t = some (.tup [.ref rl, .int at']) → H' rl = some (.lst qr) → TiesAt H' qr rs → RoundIs N more p m at' rs → Q (.ref t) H'
def spMixed : Sp := fun vs H Q _ => ∃ (fl tl rl : Addr) (xs : List Int) (qs qr : List V) (ts rs : List BF.Tie), vs = [.ref fl, .ref tl, .ref rl] ∧ H fl = some (.lst (xs.map V.int)) ∧ 1 ≤ xs.length ∧ xs.length ≤ 2 ∧ H tl = some (.lst qs) ∧ TiesAt H qs ts ∧ H rl = some (.lst qr) ∧ TiesAt H qr rs ∧ fl ≠ tl ∧ fl ≠ rl ∧ ts.length ≤ 100 ∧ rs.length ≤ 100 ∧
  ∀ (ml : Addr) (qm : List V) (tm : List BF.Tie) H', (∀ b o, b ≠ fl → H b = some o → H' b = some o) → H ml = none → H' ml = some (.lst qm) → TiesAt H' qm tm → (∀ t ∈ tm, t ∈ ts ∨ t ∈ rs) → (∀ t ∈ rs, t ∈ tm) → tm.length = ts.length + rs.length → Q (.ref ml) H'
theorem getI {ps : List Int} {k : Nat} (h : k < ps.length) (h0 : ∀ x ∈ ps, 0 ≤ x) : atI (ps.map V.int) (k : Int) = some (.int (((ps.getD k 0).toNat : Nat) : Int)) := by
  have e : atI (ps.map V.int) (k : Int) = some (.int (ps.getD k 0)) := gv_at h
  have hm : ps.getD k 0 ∈ ps := by
    rw [List.getD_eq_getElem?_getD, List.getElem?_eq_getElem h]
    exact List.getElem_mem h
  have := h0 _ hm
  rw [e, show (((ps.getD k 0).toNat : Nat) : Int) = ps.getD k 0 by omega]
section
variable {P : Program} {w : World} {K : PySem.W.Frag} {mg : Str → Option Value} {base : Heap}
theorem ok_mixed {f : Addr} {fd : FuncData} (F : Fun K "_law_mixed" "_law_mixed" sMixed f fd) (B : Free0 mg) (F_take : Fn P w K mg base 1 "_law_take" ["_law_feed_here", "_law_many"] spTake) : FnOk P w K mg base CX0 2 f fd ["_law_feed_here", "_law_ties", "_law_ring_here"] spMixed := by
  have sc : FnScope ["_law_feed_here", "_law_ties", "_law_ring_here", "_law_some", "_law_tie_here"] ["_law_feed_here", "_law_ties", "_law_ring_here"] (defScope sMixed) := ⟨rfl, rfl, rfl, by decide +kernel, rfl, by decide +kernel, by decide +kernel⟩
  refine F.ok sc (fun vs H Q E h => ?_) (fun cdv A outer s H vs Q E hr h => ?_)
  · obtain ⟨fl, tl, rl, xs, qs, qr, ts, rs, rfl, _⟩ := h
    rfl
  obtain ⟨fl, tl, rl, xs, qs, qr, ts, rs, rfl, hfl, x1, x2, htl, hT, hrl, hR, nft, nfr, lt1, lr1, q⟩ := h
  refine ⟨_, (pss_cons (ps_set (i := 3) sc.nd rfl (by first | exact Or.inl rfl | exact Or.inr rfl) (pe_cT call_list_of (by rfl) B.list_ bt_list (pa_c (pv 1) pa_nil)))
      (pss_cons (ps_for PassesOwn.never rfl (pi_list (pv 2)) (pg_name (i := 4) sc.nd rfl (by first | exact Or.inl rfl | exact Or.inr rfl)) (pss_one (ps_expr (pe_bm PySem.F.plainAttrs_list PySem.F.slot_list_insert PySem.F.type_list_insert mt_insert (pv 3) (pa_c (pe_fn F_take hr (pa_c (pv 0) (pa_c (pe_op op_add (pe_cB call_len_seq (by rfl) B.len_ bt_len (pa_c (pv 3) pa_nil)) pe_int) pa_nil))) (pa_c (pv 4) pa_nil))))))
      (pss_one (ps_ret (pv 3))))), ?_⟩
  refine ⟨_, rfl, tl, _, rfl, .inl (SqL.of htl), fun ml hml => ?_⟩
  have s1 := same_new hml (.lst qs)
  have e1 : upd H ml (.lst qs) ml = some (.lst qs) := upd_same
  generalize upd H ml (.lst qs) = H1 at *
  have nmf : ml ≠ fl := fun e => by rw [e, hfl] at hml; cases hml
  have nmr : ml ≠ rl := fun e => by rw [e, hrl] at hml; cases hml
  refine ⟨_, rfl, rl, rfl, ⟨_, SqL.of (s1 _ _ hrl)⟩, ?_⟩
  refine for_list (xs := qr) (fun i σ G => ∃ (u4 : Option V) (xs : List Int) (qm : List V) (tm : List BF.Tie), σ = [some (.ref fl), some (.ref tl), some (.ref rl), some (.ref ml), u4] ∧ (∀ b o, b ≠ fl → H b = some o → G b = some o) ∧ G fl = some (.lst (xs.map V.int)) ∧ 1 ≤ xs.length ∧ xs.length ≤ 2 ∧ G ml = some (.lst qm) ∧ TR G qm tm ∧ (∀ t ∈ tm, t ∈ ts ∨ t ∈ rs) ∧ (∀ j t, j < i → rs[j]? = some t → t ∈ tm) ∧ tm.length = ts.length + i) ⟨none, xs, qs, ts, rfl, fun b o _ e => s1 _ _ e, s1 _ _ hfl, x1, x2, e1, (hT.mono s1).tr, fun t ht => .inl ht, fun j t h => absurd h (Nat.not_lt_zero _), rfl⟩ ?_ ?_ ?_
  · rintro i σ G _ ⟨u4, xs, qm, tm, rfl, kG, _⟩
    exact SqL.of (kG _ _ nfr.symm hrl)
  · rintro i x σ G hx ⟨u4, xs, qm, tm, rfl, kG, hGf, x1, x2, hGm, hTR, hm1, hm2, hml'⟩
    have hi : i < rs.length := by
      have := (List.getElem?_eq_some_iff.mp hx).1
      have := hR.1
      omega
    obtain ⟨c, g1, g2⟩ := hR.2 i rs[i] (List.getElem?_eq_getElem hi)
    rw [hx] at g1
    cases g1
    have hc := kG _ _ (ne_of g2 hfl (by intro z; cases z)) g2
    have hqm : qm.length = tm.length := hTR.at.1
    refine ⟨_, rfl, .inl ⟨rfl, _, SqL.of hGm⟩, _, rfl, _, rfl, ml, _, rfl, .inl (SqL.of hGm), _, _, rfl, rfl, fl, xs, _, rfl, hGf, x1, x2, by omega, by omega, fun d ys G2 d0 d1 k2 e2 a1 a2 => ?_⟩
    obtain ⟨k, rfl⟩ : ∃ k : Nat, d = (k : Int) := ⟨d.toNat, by omega⟩
    have hk : k ≤ qm.length := by omega
    have hGm2 := k2 _ _ nmf hGm
    refine ⟨_, rfl, ml, qm, k, _, rfl, rfl, hGm2, hk, small1000 (by omega), ?_⟩
    have kt : ∀ b zs, G b = some (.tup zs) → upd G2 ml (.lst (qm.take k ++ .ref c :: qm.drop k)) b = some (.tup zs) := fun b zs e => by
      rw [upd_ne (ne_of e hGm (by intro z; cases z))]
      exact k2 _ _ (ne_of e hGf (by intro z; cases z)) e
    have hTR2 : TR (upd G2 ml (.lst (qm.take k ++ .ref c :: qm.drop k))) qm tm := (hTR.at.keep kt).tr
    refine ⟨_, ys, qm.take k ++ .ref c :: qm.drop k, tm.take k ++ rs[i] :: tm.drop k, rfl, fun b o hb e => ?_, ?_, a1, a2, upd_same, (hTR2.take k).append (.cons (kt _ _ hc) (hTR2.drop k)), fun t ht => ?_, fun j t hj ht => ?_, ?_⟩
    · rw [upd_ne (ne_of_none e hml)]
      exact k2 _ _ hb (kG _ _ hb e)
    · rw [upd_ne nmf.symm]; exact e2
    · rcases List.mem_append.mp ht with g | g
      · exact hm1 t (List.mem_of_mem_take g)
      · rcases List.mem_cons.mp g with g | g
        · rw [g]; exact .inr (List.getElem_mem hi)
        · exact hm1 t (List.mem_of_mem_drop g)
    · rcases Nat.lt_or_ge j i with g | g
      · have := hm2 j t g ht
        rw [← List.take_append_drop k tm] at this
        rcases List.mem_append.mp this with g | g
        · exact List.mem_append.mpr (.inl g)
        · exact List.mem_append.mpr (.inr (List.mem_cons_of_mem _ g))
      · have : j = i := by omega
        subst this
        rw [List.getElem?_eq_getElem hi] at ht
        cases ht
        exact List.mem_append.mpr (.inr List.mem_cons_self)
    · rw [List.length_append, List.length_cons, List.length_take, List.length_drop]
      omega
  rintro σ G ⟨u4, xs, qm, tm, rfl, kG, hGf, x1, x2, hGm, hTR, hm1, hm2, hml'⟩
  refine ⟨_, rfl, q ml qm tm G kG hml hGm hTR.at hm1 (fun t ht => ?_) (by rw [hml', hR.1])⟩
  obtain ⟨j, hj⟩ := List.mem_iff_getElem?.mp ht
  exact hm2 j t (by have := (List.getElem?_eq_some_iff.mp hj).1; have := hR.1; omega) hj
end
end LW
set_option Elab.async false
set_option linter.all false
set_option maxRecDepth 100000
set_option maxHeartbeats 2000000
namespace LW
open PySem L2
theorem rng_ints (n : Nat) : ∃ zs : List Int, rngV 0 n = zs.map V.int ∧ zs.length = n ∧ ∀ x ∈ zs, 0 ≤ x ∧ x < n := by
  refine ⟨(List.range n).map fun (k : Nat) => (0 : Int) + (k : Int), ?_, by simp, fun x hx => ?_⟩
  · unfold rngV
    rw [List.map_map]
    rfl
  · obtain ⟨k, hk, rfl⟩ := List.mem_map.mp hx
    have := List.mem_range.mp hk
    omega
theorem erase_map {α β : Type} (f : α → β) : ∀ (xs : List α) (k : Nat), (xs.map f).eraseIdx k = (xs.eraseIdx k).map f
  | [], _ => rfl
  | _ :: _, 0 => rfl
  | x :: xs, k + 1 => by
    rw [List.map_cons, List.eraseIdx_cons_succ, List.eraseIdx_cons_succ, List.map_cons, erase_map f xs k]
theorem TiesAt.set {H : Hp} {qs : List V} {ts : List BF.Tie} {c : Addr} {t : BF.Tie} (h : TiesAt H qs ts) (k : Nat) (hc : H c = some (.tup (tieV t))) : TiesAt H (qs.set k (.ref c)) (ts.set k t) := by
  refine ⟨by rw [List.length_set, List.length_set]; exact h.1, fun i t' e => ?_⟩
  rw [List.getElem?_set] at e ⊢
  by_cases hk : k = i
  · subst hk
    rw [if_pos rfl] at e ⊢
    rw [h.1]
    split at e
    · rename_i g
      cases e
      rw [if_pos g]
      exact ⟨c, rfl, hc⟩
    · cases e
  · rw [if_neg hk] at e ⊢
    exact h.2 i t' e
theorem round_is {N : List Int} {more : Int} {p : Nat → Nat} {m at' : Nat} (h1 : at' < m) (h2 : m ≤ N.length) (h3 : ∀ k, p k < N.length) :
    RoundIs N more p m at' (((List.range m).map (rt N p m)).set at' (p at', p ((at' + 1) % m), BF.gv N (p at') - BF.gv N (p ((at' + 1) % m)) + more)) := by
  refine ⟨by rw [List.length_set, List.length_map, List.length_range], h1, h2, h3, fun k hk => ?_⟩
  rw [List.getElem?_set]
  by_cases e : at' = k
  · subst e
    rw [if_pos rfl, if_pos (by rw [List.length_map, List.length_range]; exact h1), if_pos rfl]
  · rw [if_neg e, List.getElem?_map, List.getElem?_range hk, if_neg (fun z => e z.symm), Int.add_zero]
    rfl
section
variable {P : Program} {w : World} {K : PySem.W.Frag} {mg : Str → Option Value} {base : Heap}
theorem ok_round {f : Addr} {fd : FuncData} (F : Fun K "_law_round" "_law_round" sRound f fd) (B : Free0 mg) (F_feed : Fn P w K mg base 2 "_law_feed" ["_law_script", "_law_k"] (spFeed K)) (F_take : Fn P w K mg base 1 "_law_take" ["_law_feed_here", "_law_many"] spTake) : FnOk P w K mg base CX0 3 f fd ["_law_script", "_law_numbers_here", "_law_more"] (spRound K) := by
  have sc : FnScope ["_law_script", "_law_numbers_here", "_law_more", "_law_feed_here", "_law_many", "_law_left", "_law_at", "_law_places", "_law_ring_here", "_law_k", "_law_x", "_law_y", "_law_c"] ["_law_script", "_law_numbers_here", "_law_more"] (defScope sRound) := ⟨rfl, rfl, rfl, by decide +kernel, rfl, by decide +kernel, by decide +kernel⟩
  refine F.ok sc (fun vs H Q E h => ?_) (fun cdv A outer s H vs Q E hr h => ?_)
  · obtain ⟨a, nl, ns, N, more, rfl, _⟩ := h
    rfl
  obtain ⟨a, nl, ns, N, more, rfl, hS, hN, hN1, hN2, q⟩ := h
  refine ⟨_, (pss_cons (ps_set (i := 3) sc.nd rfl (by first | exact Or.inl rfl | exact Or.inr rfl) (pe_fn F_feed hr (pa_c (pv 0) (pa_c pe_int pa_nil))))
      (pss_cons (ps_set (i := 4) sc.nd rfl (by first | exact Or.inl rfl | exact Or.inr rfl) (pe_op op_add pe_int (pe_fn F_take hr (pa_c (pv 3) (pa_c (pe_cB call_len_seq (by rfl) B.len_ bt_len (pa_c (pv 1) pa_nil)) pa_nil)))))
      (pss_cons (ps_set (i := 5) sc.nd rfl (by first | exact Or.inl rfl | exact Or.inr rfl) (pe_cT (call_list_rng rfl) (by rfl) B.list_ bt_list (pa_c (pe_cT call_rangev1 (by rfl) B.range_ bt_range (pa_c (pe_cB call_len_seq (by rfl) B.len_ bt_len (pa_c (pv 1) pa_nil)) pa_nil)) pa_nil)))
      (pss_cons (ps_set (i := 6) sc.nd rfl (by first | exact Or.inl rfl | exact Or.inr rfl) (pe_fn F_take hr (pa_c (pv 3) (pa_c (pv 4) pa_nil))))
      (pss_cons (ps_setcomp (i := 7) sc.nd rfl (by first | exact Or.inl rfl | exact Or.inr rfl) ["_law_k"] [3, 5] rfl (comp_ok (sc := defScope sRound) (N := ["_law_script", "_law_numbers_here", "_law_more", "_law_feed_here", "_law_many", "_law_left", "_law_at", "_law_places", "_law_ring_here", "_law_k", "_law_x", "_law_y", "_law_c"]) rfl rfl (by decide +kernel)) (pi_range1 (by rfl) B.range_ (pa_c (pv 4) pa_nil)) (fun s H ex => ⟨(pg_name (i := 0) (show List.Nodup (["_law_k", "_law_feed_here", "_law_left"] : List Str) by decide +kernel) rfl (by first | exact Or.inl rfl | exact Or.inr rfl)), pts_nil, (pe_bmK (K := K) PySem.F.plainAttrs_list PySem.F.slot_list_pop PySem.F.type_list_pop mt_popAt (pv 2) (pa_c (pe_fn F_take hr (pa_c (pv 1) (pa_c (pe_cB (call_len_seqK (K := K)) (by rfl) B.len_ bt_len (pa_c (pv 2) pa_nil)) pa_nil))) pa_nil))⟩))
      (pss_cons (ps_set (i := 8) sc.nd rfl (by first | exact Or.inl rfl | exact Or.inr rfl) (pe_lst pa_nil))
      (pss_cons (ps_for PassesOwn.never rfl (pi_range1 (by rfl) B.range_ (pa_c (pv 4) pa_nil)) (pg_name (i := 9) sc.nd rfl (by first | exact Or.inl rfl | exact Or.inr rfl)) (pss_cons (ps_par (i := 10) (j := 11) rfl sc.nd rfl rfl (by decide) rfl rfl (pa_c (pe_ix ix_list (pv 7) (pv 9) (fun _ _ => rfl)) (pa_c (pe_ix ix_list (pv 7) (pe_op op_mod (pe_op op_add (pv 9) pe_int) (pv 4)) (fun _ _ => rfl)) pa_nil)) (by rfl))
      (pss_one (ps_expr (pe_bm PySem.F.plainAttrs_list PySem.F.slot_list_append PySem.F.type_list_append mt_append (pv 8) (pa_c (pe_tup (pa_c (pv 10) (pa_c (pv 11) (pa_c (pe_op op_sub (pe_ix ix_list (pv 1) (pv 10) (fun _ _ => rfl)) (pe_ix ix_list (pv 1) (pv 11) (fun _ _ => rfl))) pa_nil)))) pa_nil))))))
      (pss_cons (ps_asg (pe_ix ix_list (pv 8) (pv 6) (fun _ _ => rfl)) (pg_tup rfl (pgs_cons (pg_name (i := 10) sc.nd rfl (by first | exact Or.inl rfl | exact Or.inr rfl)) (pgs_cons (pg_name (i := 11) sc.nd rfl (by first | exact Or.inl rfl | exact Or.inr rfl)) (pgs_cons (pg_name (i := 12) sc.nd rfl (by first | exact Or.inl rfl | exact Or.inr rfl)) pgs_nil)))))
      (pss_cons (ps_asg (pe_tup (pa_c (pv 10) (pa_c (pv 11) (pa_c (pe_op op_add (pv 12) (pv 2)) pa_nil)))) (pg_sub (pv 8) (pv 6) set_list))
      (pss_one (ps_ret (pe_tup (pa_c (pv 8) (pa_c (pv 6) pa_nil)))))))))))))), ?_⟩
  have hNl : ((N.map V.int).length : Int) = (N.length : Int) := by rw [List.length_map]
  refine ⟨_, rfl, a, ns, 2, rfl, hS, by decide, by decide, fun fl xs H1 s1 hfl0 hfl x1 x2 => ?_⟩
  refine ⟨_, rfl, _, rfl, nl, _, rfl, .inl (SqL.of (s1 _ _ hN)), fl, xs, _, rfl, hfl, x1, x2, by rw [hNl]; omega, by rw [hNl]; omega, fun d ys H2 d0 d1 k2 e2 y1 y2 => ?_⟩
  rw [hNl] at d1
  have s2 : Same H H2 := fun b o e => k2 _ _ (ne_of_none e hfl0) (s1 _ _ e)
  refine ⟨_, _, rfl, rfl, ?_⟩
  obtain ⟨d, rfl⟩ : ∃ d' : Nat, d = (d' : Int) := ⟨d.toNat, by omega⟩
  have hd : d < N.length := by omega
  have hN2' := s2 _ _ hN
  refine ⟨_, rfl, nl, _, rfl, .inl (SqL.of hN2'), _, rfl, fun r hr0 => ?_⟩
  have s3 := same_new hr0 (.rng 0 ((N.map V.int).length : Nat))
  have e3 : upd H2 r (.rng 0 ((N.map V.int).length : Nat)) r = some (.rng 0 ((N.map V.int).length : Nat)) := upd_same
  generalize upd H2 r (.rng 0 ((N.map V.int).length : Nat)) = H3 at *
  refine ⟨r, 0, _, rfl, e3, by decide, by decide, by omega, by rw [hNl]; omega, fun lf hlf => ?_⟩
  obtain ⟨zs, ez, hz1, hz2⟩ := rng_ints ((((N.map V.int).length : Nat) : Int) - 0).toNat
  rw [ez]
  have s4 := same_new hlf (.lst (zs.map V.int))
  have e4 : upd H3 lf (.lst (zs.map V.int)) lf = some (.lst (zs.map V.int)) := upd_same
  generalize upd H3 lf (.lst (zs.map V.int)) = H4 at *
  have s34 := s3.trans s4
  have sH4 := s2.trans s34
  have hlf0 : H lf = none := s2.free (s3.free hlf)
  have nfl : fl ≠ lf := fun e => by rw [← e, s3 _ _ e2] at hlf; cases hlf
  have efl4 := s34 _ _ e2
  have hz1' : zs.length = N.length := by rw [hz1, List.length_map]; omega
  have hz2' : ∀ x ∈ zs, 0 ≤ x ∧ x < N.length := fun x hx => by
    have := hz2 x hx
    rw [List.length_map] at this
    omega
  clear s3 s4 s34 e3 hlf hr0 e2 k2 hN2' ez hz1 hz2
  refine ⟨_, rfl, _, rfl, fl, ys, _, rfl, efl4, y1, y2, by omega, by omega, fun at0 ys2 H5 a0 a1 k5 e5 y1' y2' => ?_⟩
  obtain ⟨at', rfl⟩ : ∃ at' : Nat, at0 = (at' : Int) := ⟨at0.toNat, by omega⟩
  have sH5 : Same H H5 := fun b o e => k5 _ _ (ne_of_none e hfl0) (sH4 _ _ e)
  have elf5 := k5 _ _ nfl.symm e4
  refine ⟨_, rfl, _, rfl, by omega, by omega, fun p hp => ?_⟩
  have hp0 : H p = none := sH5.free hp
  have npl : p ≠ lf := fun e => by rw [e, elf5] at hp; cases hp
  have npf : p ≠ fl := fun e => by rw [e, e5] at hp; cases hp
  rw [show ((1 : Int) + (d : Int)).toNat = d + 1 by omega]
  refine comp_range (fun i σ' G => ∃ (u : Option V) (xs zs ps : List Int), σ' = [u, some (.ref fl), some (.ref lf)] ∧ Same H G ∧ G fl = some (.lst (xs.map V.int)) ∧ 1 ≤ xs.length ∧ xs.length ≤ 2 ∧ G lf = some (.lst (zs.map V.int)) ∧ zs.length + i = N.length ∧ (∀ x ∈ zs, 0 ≤ x ∧ x < N.length) ∧ G p = some (.lst (ps.map V.int)) ∧ ps.length = i ∧ (∀ x ∈ ps, 0 ≤ x ∧ x < N.length)) ⟨none, ys2, zs, [], rfl, sH5.trans (same_new hp _), by rw [upd_ne npf.symm]; exact e5, y1', y2', by rw [upd_ne npl.symm]; exact elf5, hz1', hz2', upd_same, rfl, fun x hx => by simp at hx⟩ ?_ ?_
  · rintro i σ' G hi ⟨u, xs, zs, ps, rfl, sG, efl, x1, x2, elf, hzl, hzb, ep, hpl, hpb⟩
    have hzs : 0 < zs.length := by omega
    have hzl' : ((zs.map V.int).length : Int) = (zs.length : Int) := by rw [List.length_map]
    unfold gName tYes
    refine iteT ?_
    refine ⟨_, rfl, .inl ⟨rfl, _, SqL.of elf⟩, _, rfl, _, rfl, lf, _, rfl, .inl (SqL.of elf), fl, xs, _, rfl, efl, x1, x2, by rw [hzl']; omega, by rw [hzl']; omega, fun k ws G2 k0 k1 kk ek w1 w2 => ?_⟩
    rw [hzl'] at k1
    obtain ⟨k, rfl⟩ : ∃ k' : Nat, k = (k' : Int) := ⟨k.toNat, by omega⟩
    have hk : k < zs.length := by omega
    have elf2 := kk _ _ nfl.symm elf
    have ep2 := kk _ _ npf ep
    obtain ⟨hsi, _⟩ := ixN_seq (ix_nat (n := (zs.map V.int).length) (j := k) (by rw [List.length_map]; exact hk))
    refine ⟨lf, _, _, k, V.int zs[k], rfl, rfl, elf2, by omega, by omega, hsi, by rw [List.getElem?_map, List.getElem?_eq_getElem hk]; rfl, ?_⟩
    refine ⟨_, by rw [upd_ne npl]; exact ep2, by rw [List.length_map]; exact small1000 (by omega), _, ws, zs.eraseIdx k, ps ++ [zs[k]], rfl, fun b o e => ?_, ?_, w1, w2, ?_, ?_, fun x hx => hzb x (List.mem_of_mem_eraseIdx hx), ?_, by rw [List.length_append, hpl]; rfl, fun x hx => ?_⟩
    · rw [upd_ne (ne_of_none e hp0), upd_ne (ne_of_none e hlf0)]; exact kk _ _ (ne_of_none e hfl0) (sG _ _ e)
    · rw [upd_ne npf.symm, upd_ne nfl]; exact ek
    · rw [upd_ne npl.symm, upd_same, erase_map]
    · rw [List.length_eraseIdx_of_lt hk]; omega
    · rw [upd_same, List.map_append]; rfl
    · rcases List.mem_append.mp hx with g | g
      · exact hpb x g
      · rw [List.mem_singleton.mp g]; exact hzb _ (List.getElem_mem hk)
  rintro σ' G ⟨u, xs, zs', ps, rfl, sG, efl, x1', x2', elf, hzl, hzb, ep, hpl, hpb⟩
  have hp0' : ∀ x ∈ ps, 0 ≤ x := fun x hx => (hpb x hx).1
  refine ⟨sm rfl, fun rl hrl => ?_⟩
  have s6 := same_new hrl (.lst [])
  have e6 : upd G rl (.lst []) rl = some (.lst []) := upd_same
  have hrl0 : H rl = none := sG.free hrl
  have nrp : rl ≠ p := fun e => by rw [e, ep] at hrl; cases hrl
  have ep6 := s6 _ _ ep
  have sG6 := sG.trans s6
  generalize upd G rl (.lst []) = G6 at *
  have plk : ∀ k, ((ps.getD k 0).toNat) < N.length := fun k => by
    rcases Nat.lt_or_ge k ps.length with g | g
    · have hm : ps.getD k 0 ∈ ps := by
        rw [List.getD_eq_getElem?_getD, List.getElem?_eq_getElem g]
        exact List.getElem_mem g
      have := hpb _ hm
      omega
    · rw [List.getD_eq_getElem?_getD, List.getElem?_eq_none g]
      show Int.toNat 0 < _
      omega
  refine ⟨_, rfl, _, rfl, by omega, by omega, ?_⟩
  rw [show ((1 : Int) + (d : Int)).toNat = d + 1 by omega]
  have hN6 := sG6 _ _ hN
  refine for_range (fun i σ G => ∃ (u9 u10 u11 : Option V) (qr : List V), σ = [some (.ref a), some (.ref nl), some (.int more), some (.ref fl), some (.int (1 + (d : Int))), some (.ref lf), some (.int at'), some (.ref p), some (.ref rl), u9, u10, u11, none] ∧ Same H G ∧ G p = some (.lst (ps.map V.int)) ∧ G rl = some (.lst qr) ∧ TR G qr ((List.range i).map (rt N (fun k => (ps.getD k 0).toNat) (d + 1)))) ⟨none, none, none, [], rfl, sG6, ep6, e6, .nil⟩ ?_ ?_
  · rintro i σ G7 hi ⟨u9, u10, u11, qr, rfl, sG7, ep7, er7, hTR⟩
    have hi' : i < ps.length := by omega
    have hi2 : (i + 1) % (d + 1) < ps.length := by rw [hpl]; exact Nat.mod_lt _ (by omega)
    have at1 : atI (ps.map V.int) (0 + (i : Int)) = some (.int (((ps.getD i 0).toNat : Nat) : Int)) := by rw [Int.zero_add]; exact getI hi' hp0'
    have at2 : atI (ps.map V.int) ((0 + (i : Int) + 1) % (1 + (d : Int))) = some (.int (((ps.getD ((i + 1) % (d + 1)) 0).toNat : Nat) : Int)) := by
      rw [show (0 + (i : Int) + 1) % (1 + (d : Int)) = (((i + 1) % (d + 1) : Nat) : Int) by rw [Int.zero_add, Int.add_comm 1]; rfl]
      exact getI hi2 hp0'
    refine ⟨_, rfl, _, rfl, p, _, _, _, rfl, rfl, SqL.of ep7, at1, _, rfl, _, rfl, _, _, rfl, rfl, _, rfl, _, _, rfl, rfl, (by show (0 : Int) < 1 + (d : Int); omega), p, _, _, _, rfl, rfl, SqL.of ep7, at2, _, _, rfl, ?_⟩
    have hN7 := sG7 _ _ hN
    refine ⟨_, rfl, .inl ⟨rfl, _, SqL.of er7⟩, _, rfl, _, rfl, _, rfl, _, rfl, nl, _, _, _, rfl, rfl, SqL.of hN7, gv_at (plk i), _, rfl, _, rfl, nl, _, _, _, rfl, rfl, SqL.of hN7, gv_at (plk _), _, _, rfl, rfl, sm rfl, fun cA hcA => ?_⟩
    have s8 := same_new hcA (.tup (tieV ((ps.getD i 0).toNat, (ps.getD ((i + 1) % (d + 1)) 0).toNat, BF.gv N (ps.getD i 0).toNat - BF.gv N (ps.getD ((i + 1) % (d + 1)) 0).toNat)))
    have e8 : upd G7 cA (.tup (tieV ((ps.getD i 0).toNat, (ps.getD ((i + 1) % (d + 1)) 0).toNat, BF.gv N (ps.getD i 0).toNat - BF.gv N (ps.getD ((i + 1) % (d + 1)) 0).toNat))) cA = some (.tup (tieV ((ps.getD i 0).toNat, (ps.getD ((i + 1) % (d + 1)) 0).toNat, BF.gv N (ps.getD i 0).toNat - BF.gv N (ps.getD ((i + 1) % (d + 1)) 0).toNat))) := upd_same
    have er8 := s8 _ _ er7
    have ep8 := s8 _ _ ep7
    have T8 := hTR.at.mono s8
    have sH8 := sG7.trans s8
    have hqr : qr.length = i := by have := hTR.at.1; rw [List.length_map, List.length_range] at this; exact this
    refine ⟨rl, _, _, rfl, rfl, er8, small1000 (by omega), ?_⟩
    generalize upd G7 cA (.tup [V.int ((ps.getD i 0).toNat : Nat), V.int ((ps.getD ((i + 1) % (d + 1)) 0).toNat : Nat), V.int (BF.gv N (ps.getD i 0).toNat - BF.gv N (ps.getD ((i + 1) % (d + 1)) 0).toNat)]) = G8 at *
    have kk : ∀ b zs, G8 b = some (.tup zs) → upd G8 rl (.lst (qr ++ [.ref cA])) b = some (.tup zs) := fun b zs e => by
      rw [upd_ne (ne_of e er8 (by intro z; cases z))]; exact e
    refine ⟨_, _, _, qr ++ [.ref cA], rfl, fun b o e => ?_, by rw [upd_ne nrp.symm]; exact ep8, upd_same, ?_⟩
    · rw [upd_ne (ne_of_none e hrl0)]; exact sH8 _ _ e
    · rw [List.range_succ, List.map_append]
      exact (T8.keep kk).tr.append (.cons (kk _ _ e8) .nil)
  rintro σ G7 ⟨u9, u10, u11, qr, rfl, sG7, ep7, er7, hTR⟩
  have hat : at' < d + 1 := by omega
  have hrat : ((List.range (d + 1)).map (rt N (fun k => (ps.getD k 0).toNat) (d + 1)))[at']? = some (rt N (fun k => (ps.getD k 0).toNat) (d + 1) at') := by rw [List.getElem?_map, List.getElem?_range hat]; rfl
  obtain ⟨cc, g1, g2⟩ := hTR.at.2 at' _ hrat
  have hqr : qr.length = d + 1 := by have := hTR.at.1; rw [List.length_map, List.length_range] at this; exact this
  unfold rt at g2
  dsimp only at g2
  refine ⟨_, rfl, _, rfl, rl, _, _, _, rfl, rfl, SqL.of er7, atI_nat g1, cc, _, rfl, SqT.of g2, rfl, _, _, rfl, _, _, rfl, _, _, rfl, rfl, ?_⟩
  refine ⟨_, rfl, _, rfl, _, rfl, _, rfl, _, _, rfl, rfl, sm rfl, fun cB hcB => ?_⟩
  have s8 := same_new hcB (.tup (tieV ((ps.getD at' 0).toNat, (ps.getD ((at' + 1) % (d + 1)) 0).toNat, BF.gv N (ps.getD at' 0).toNat - BF.gv N (ps.getD ((at' + 1) % (d + 1)) 0).toNat + more)))
  have e8 : upd G7 cB (.tup (tieV ((ps.getD at' 0).toNat, (ps.getD ((at' + 1) % (d + 1)) 0).toNat, BF.gv N (ps.getD at' 0).toNat - BF.gv N (ps.getD ((at' + 1) % (d + 1)) 0).toNat + more))) cB = some (.tup (tieV ((ps.getD at' 0).toNat, (ps.getD ((at' + 1) % (d + 1)) 0).toNat, BF.gv N (ps.getD at' 0).toNat - BF.gv N (ps.getD ((at' + 1) % (d + 1)) 0).toNat + more))) := upd_same
  have er8 := s8 _ _ er7
  have T8 := hTR.at.mono s8
  have sH8 := sG7.trans s8
  refine ⟨_, rfl, _, rfl, rl, _, _, at', rfl, rfl, er8, ix_nat (by rw [hqr]; exact hat), ?_⟩
  generalize upd G7 cB (.tup [V.int ((ps.getD at' 0).toNat : Nat), V.int ((ps.getD ((at' + 1) % (d + 1)) 0).toNat : Nat), V.int (BF.gv N (ps.getD at' 0).toNat - BF.gv N (ps.getD ((at' + 1) % (d + 1)) 0).toNat + more)]) = G8 at *
  have kk : ∀ b zs, G8 b = some (.tup zs) → upd G8 rl (.lst (qr.set at' (.ref cB))) b = some (.tup zs) := fun b zs e => by
    rw [upd_ne (ne_of e er8 (by intro z; cases z))]; exact e
  have T9 := (T8.keep kk).set at' (kk _ _ e8)
  have sH9 : Same H (upd G8 rl (.lst (qr.set at' (.ref cB)))) := fun b o e => by rw [upd_ne (ne_of_none e hrl0)]; exact sH8 _ _ e
  have er9 : upd G8 rl (.lst (qr.set at' (.ref cB))) rl = some (.lst (qr.set at' (.ref cB))) := upd_same
  generalize upd G8 rl (.lst (qr.set at' (.ref cB))) = G9 at *
  refine ⟨_, rfl, _, rfl, sm rfl, fun t ht => ?_⟩
  have s10 := same_new ht (.tup [V.ref rl, V.int at'])
  exact q t rl (qr.set at' (.ref cB)) _ (fun k => (ps.getD k 0).toNat) (d + 1) at' _ (sH9.trans s10) hrl0 upd_same (s10 _ _ er9) (T9.mono s10) (round_is hat (by omega) plk)
end
end LW
set_option Elab.async false
set_option linter.all false
set_option maxRecDepth 100000
set_option maxHeartbeats 4000000
namespace LW
open PySem L2
abbrev sLaw : Stmt := top 16
def spLaw (K : PySem.W.Frag) : Sp := fun vs H Q _ => ∃ (a : Addr) (ns : List Int), vs = [.ref a] ∧ SqL K H a (ns.map V.int) ∧ ns.length ≤ 63 ∧ ∀ H', Q (.bl true) H'
def dueOf (more : Int) : Str := if more < 0 then "ring" else "values"
theorem due_is {N : List Int} {n : Nat} {more : Int} {p : Nat → Nat} {m at' : Nat} {ts rs tm : List BF.Tie} {a : BF.Ans} (hn : 1 ≤ n) (ok : BF.Ok n tm) (hp : ∀ t ∈ ts, BF.gv N t.1 - BF.gv N t.2.1 ≤ t.2.2) (R : RoundIs N more p m at' rs) (h1 : ∀ t ∈ tm, t ∈ ts ∨ t ∈ rs) (h2 : ∀ t ∈ rs, t ∈ tm) (ha : BF.Tells n tm a) : dueOf more = nmA a := by
  unfold dueOf
  by_cases hm : more < 0
  · rw [if_pos hm]
    obtain ⟨es, rfl⟩ := ha.drawn (N := BF.gv N) ok R.lt hm (fun k hk => h2 _ (List.mem_iff_getElem?.mpr ⟨k, R.is k hk⟩))
    rfl
  · rw [if_neg hm]
    obtain ⟨v, rfl⟩ := ha.kept (N := BF.gv N) ok hn (fun t ht => by
      rcases h1 t ht with g | g
      · exact hp t g
      · obtain ⟨k, hk⟩ := List.mem_iff_getElem?.mp g
        have hlt : k < m := by rw [← R.len]; exact (List.getElem?_eq_some_iff.mp hk).1
        rw [R.is k hlt] at hk
        cases hk
        dsimp only
        split <;> omega)
    rfl
theorem ok_of {n : Nat} {ts : List BF.Tie} (h : ∀ t ∈ ts, t.1 < n ∧ t.2.1 < n) : BF.Ok n ts := fun j x y c e => h _ (List.mem_iff_getElem?.mpr ⟨j, e⟩)
theorem of_ok {n : Nat} {ts : List BF.Tie} (h : BF.Ok n ts) : ∀ t ∈ ts, t.1 < n ∧ t.2.1 < n := fun t ht => by
  obtain ⟨j, e⟩ := List.mem_iff_getElem?.mp ht
  exact h j _ _ _ e
theorem RoundIs.ok {N : List Int} {more : Int} {p : Nat → Nat} {m at' : Nat} {rs : List BF.Tie} (R : RoundIs N more p m at' rs) : ∀ t ∈ rs, t.1 < N.length ∧ t.2.1 < N.length := fun t ht => by
  obtain ⟨k, hk⟩ := List.mem_iff_getElem?.mp ht
  have hlt : k < m := by rw [← R.len]; exact (List.getElem?_eq_some_iff.mp hk).1
  rw [R.is k hlt] at hk
  cases hk
  exact ⟨R.pl _, R.pl _⟩
theorem RoundIs.rest {N : List Int} {more : Int} {p : Nat → Nat} {m at' : Nat} {rs : List BF.Tie} (R : RoundIs N more p m at' rs) : ∀ t ∈ rs.take at' ++ rs.drop (at' + 1), t ∈ rs ∧ BF.gv N t.1 - BF.gv N t.2.1 ≤ t.2.2 := fun t ht => by
  have key : ∃ k, k ≠ at' ∧ rs[k]? = some t := by
    rcases List.mem_append.mp ht with g | g
    · obtain ⟨k, hk⟩ := List.mem_iff_getElem?.mp g
      have hlt := (List.getElem?_eq_some_iff.mp hk).1
      rw [List.length_take] at hlt
      rw [List.getElem?_take, if_pos (by omega)] at hk
      exact ⟨k, by omega, hk⟩
    · obtain ⟨k, hk⟩ := List.mem_iff_getElem?.mp g
      rw [List.getElem?_drop] at hk
      exact ⟨_, by omega, hk⟩
  obtain ⟨k, hne, hk⟩ := key
  refine ⟨List.mem_iff_getElem?.mpr ⟨k, hk⟩, ?_⟩
  have hlt : k < m := by rw [← R.len]; exact (List.getElem?_eq_some_iff.mp hk).1
  rw [R.is k hlt, if_neg hne] at hk
  cases hk
  dsimp only
  omega
theorem cut_to {xs : List V} {k : Nat} (h : k ≤ xs.length) : cutV xs none (some (k : Int)) = xs.take k := by
  unfold cutV
  rw [HT.sIx_none, HT.sIx_nat, List.drop_zero, Nat.sub_zero, Nat.min_eq_left h]
theorem cut_from {xs : List V} {k : Nat} (h : k ≤ xs.length) : cutV xs (some (k : Int)) none = xs.drop k := by
  unfold cutV
  rw [HT.sIx_none, HT.sIx_nat, Nat.min_eq_left h, List.take_of_length_le (by rw [List.length_drop]; omega)]
theorem if_str {b : Bool} {x y : Str} {σ : St} {H : Hp} {Q : VK} (h : Q (.str (if b = true then x else y)) H) : if b = true then tC (.str x) σ H Q else tC (.str y) σ H Q := by
  cases b <;> exact h
theorem due_if (more : Int) : (if decide (more < 0) = true then ("ring" : Str) else "values") = dueOf more := by
  unfold dueOf
  by_cases h : more < 0
  · rw [if_pos h, if_pos (decide_eq_true h)]
  · rw [if_neg h, if_neg (fun z => h (of_decide_eq_true z))]
section
variable {P : Program} {w : World} {K : PySem.W.Frag} {mg : Str → Option Value} {base : Heap}
theorem ok_law {f : Addr} {fd : FuncData} (F : Fun K "law" "law" sLaw f fd) (B : Free0 mg) (F_cell : Fn P w K mg base 1 "_law_cell" ["_law_script", "_law_k"] (spCell K)) (F_feed : Fn P w K mg base 2 "_law_feed" ["_law_script", "_law_k"] (spFeed K)) (F_take : Fn P w K mg base 1 "_law_take" ["_law_feed_here", "_law_many"] spTake)
    (F_numbers : Fn P w K mg base 3 "_law_numbers" ["_law_script", "_law_count"] (spNumbers K)) (F_met : Fn P w K mg base 3 "_law_met" ["_law_script", "_law_numbers_here"] (spMet K)) (F_round : Fn P w K mg base 3 "_law_round" ["_law_script", "_law_numbers_here", "_law_more"] (spRound K)) (F_mixed : Fn P w K mg base 2 "_law_mixed" ["_law_feed_here", "_law_ties", "_law_ring_here"] spMixed)
    (F_settled : Fn P w K mg base 2 "settled" ["count", "ties"] spSettled) (F_good : Fn P w K mg base 3 "_law_good" ["_law_answer", "_law_count", "_law_ties", "_law_due"] spGood) : FnOk P w K mg base CX0 4 f fd ["_law_script"] (spLaw K) := by
  have sc : FnScope ["_law_script", "_law_count", "_law_numbers_here", "_law_feed_here", "_law_more", "_law_kept", "_law_ring_here", "_law_at", "_law_ties", "_law_due", "_law_backward", "_law_rest"] ["_law_script"] (defScope sLaw) := ⟨rfl, rfl, rfl, by decide +kernel, rfl, by decide +kernel, by decide +kernel⟩
  refine F.ok sc (fun vs H Q E h => ?_) (fun cdv A outer s H vs Q E hr h => ?_)
  · obtain ⟨a, ns, rfl, _⟩ := h
    rfl
  obtain ⟨sa, ns, rfl, hS, h63, q⟩ := h
  refine ⟨_, (pss_cons (ps_set (i := 1) sc.nd rfl (by first | exact Or.inl rfl | exact Or.inr rfl) (pe_op op_add pe_int (pe_op op_mod (pe_op op_fdivB (pe_fn F_cell hr (pa_c (pv 0) (pa_c pe_int pa_nil))) pe_int) pe_int)))
      (pss_cons (ps_join (ps_if (pt_cmpR op_eq (pe_op op_mod (pe_op op_fdivB (pe_fn F_cell hr (pa_c (pv 0) (pa_c pe_int pa_nil))) pe_int) pe_int) pe_int (nomark _)) (pss_one (ps_set (i := 1) sc.nd rfl (by first | exact Or.inl rfl | exact Or.inr rfl) (pe_op op_add pe_int (pe_op op_mod (pv 1) pe_int)))) pss_nil))
      (pss_cons (ps_set (i := 2) sc.nd rfl (by first | exact Or.inl rfl | exact Or.inr rfl) (pe_fn F_numbers hr (pa_c (pv 0) (pa_c (pv 1) pa_nil))))
      (pss_cons (ps_set (i := 3) sc.nd rfl (by first | exact Or.inl rfl | exact Or.inr rfl) (pe_fn F_feed hr (pa_c (pv 0) (pa_c pe_int pa_nil))))
      (pss_cons (ps_set (i := 4) sc.nd rfl (by first | exact Or.inl rfl | exact Or.inr rfl) (pe_ix ix_list (pe_lst (pa_c pe_int (pa_c (pe_un un_neg pe_int) (pa_c (pe_un un_neg pe_int) (pa_c (pe_op op_sub pe_int (pe_op op_pow pe_int pe_int)) (pa_c pe_int (pa_c (pe_fn F_take hr (pa_c (pv 3) (pa_c (pe_op op_pow pe_int pe_int) pa_nil))) pa_nil))))))) (pe_fn F_take hr (pa_c (pv 3) (pa_c pe_int pa_nil))) (fun _ _ => rfl)))
      (pss_cons (ps_set (i := 5) sc.nd rfl (by first | exact Or.inl rfl | exact Or.inr rfl) (pe_fn F_met hr (pa_c (pv 0) (pa_c (pv 2) pa_nil))))
      (pss_cons (ps_asg (pe_fn F_round hr (pa_c (pv 0) (pa_c (pv 2) (pa_c (pv 4) pa_nil)))) (pg_tup rfl (pgs_cons (pg_name (i := 6) sc.nd rfl (by first | exact Or.inl rfl | exact Or.inr rfl)) (pgs_cons (pg_name (i := 7) sc.nd rfl (by first | exact Or.inl rfl | exact Or.inr rfl)) pgs_nil))))
      (pss_cons (ps_set (i := 8) sc.nd rfl (by first | exact Or.inl rfl | exact Or.inr rfl) (pe_fn F_mixed hr (pa_c (pv 3) (pa_c (pv 5) (pa_c (pv 6) pa_nil)))))
      (pss_cons (ps_set (i := 9) sc.nd rfl (by first | exact Or.inl rfl | exact Or.inr rfl) (pe_ifExp (pt_cmpR op_lt (pv 4) pe_int (nomark _)) pe_str pe_str))
      (pss_cons (ps_if (pt_not (pt_val (pe_fn F_good hr (pa_c (pe_fn F_settled hr (pa_c (pv 1) (pa_c (pe_cT call_list_of (by rfl) B.list_ bt_list (pa_c (pv 8) pa_nil)) pa_nil))) (pa_c (pv 1) (pa_c (pv 8) (pa_c (pv 9) pa_nil))))))) (pss_one (ps_ret pe_bl)) pss_nil)
      (pss_cons (ps_set (i := 10) sc.nd rfl (by first | exact Or.inl rfl | exact Or.inr rfl) (pe_rev (pv 8) (po_some (pe_un un_neg pe_int))))
      (pss_cons (ps_if (pt_not (pt_val (pe_fn F_good hr (pa_c (pe_fn F_settled hr (pa_c (pv 1) (pa_c (pe_cT call_list_of (by rfl) B.list_ bt_list (pa_c (pv 10) pa_nil)) pa_nil))) (pa_c (pv 1) (pa_c (pv 10) (pa_c (pv 9) pa_nil))))))) (pss_one (ps_ret pe_bl)) pss_nil)
      (pss_cons (ps_set (i := 11) sc.nd rfl (by first | exact Or.inl rfl | exact Or.inr rfl) (pe_op op_add_list (pe_op op_add_list (pv 5) (pe_slice sl_list (pv 6) po_none (po_some (pv 7)))) (pe_slice sl_list (pv 6) (po_some (pe_op op_add (pv 7) pe_int)) po_none)))
      (pss_one (ps_ret (pe_fn F_good hr (pa_c (pe_fn F_settled hr (pa_c (pv 1) (pa_c (pe_cT call_list_of (by rfl) B.list_ bt_list (pa_c (pv 11) pa_nil)) pa_nil))) (pa_c (pv 1) (pa_c (pv 11) (pa_c pe_str pa_nil)))))))))))))))))))), ?_⟩
  refine ⟨_, rfl, sa, ns, 0, rfl, hS, by decide, by decide, fun c0 => ?_⟩
  refine ⟨_, _, rfl, rfl, ⟨by decide, by decide⟩, _, _, rfl, rfl, (by show (0 : Int) < _; decide), _, _, rfl, rfl, ?_⟩
  refine ⟨fun σ G => ∃ n : Nat, σ = [some (.ref sa), some (.int n), none, none, none, none, none, none, none, none, none, none] ∧ G = H ∧ 1 ≤ n ∧ n ≤ 60, ?_, ?_⟩
  · have b1 := Int.emod_nonneg (c0 / 2) (b := 60) (by decide)
    have b2 := Int.emod_lt_of_pos (c0 / 2) (b := 60) (by decide)
    refine ⟨_, rfl, sa, ns, 0, rfl, hS, by decide, by decide, fun c1 => ?_⟩
    refine ⟨_, _, rfl, rfl, ⟨by decide, by decide⟩, _, _, rfl, rfl, (by show (0 : Int) < _; decide), rfl, _, rfl, ite2 (fun _ => ?_) (fun _ => ?_)⟩
    · refine ⟨_, rfl, _, _, rfl, rfl, (by show (0 : Int) < _; decide), _, _, rfl, rfl, ?_⟩
      have d1 := Int.emod_nonneg (1 + c0 / 2 % 60) (b := 7) (by decide)
      have d2 := Int.emod_lt_of_pos (1 + c0 / 2 % 60) (b := 7) (by decide)
      refine ⟨(1 + (1 + c0 / 2 % 60) % 7).toNat, ?_, rfl, by omega, by omega⟩
      rw [show (((1 + (1 + c0 / 2 % 60) % 7).toNat : Nat) : Int) = 1 + (1 + c0 / 2 % 60) % 7 by omega]
      rfl
    · refine ⟨(1 + c0 / 2 % 60).toNat, ?_, rfl, by omega, by omega⟩
      rw [show (((1 + c0 / 2 % 60).toNat : Nat) : Int) = 1 + c0 / 2 % 60 by omega]
      rfl
  rintro σ G ⟨n, rfl, rfl, hn1, hn60⟩
  refine ⟨_, rfl, _, rfl, sa, ns, n, rfl, hS, by omega, fun nl N H1 s1 _ hN hNl => ?_⟩
  refine ⟨_, rfl, sa, ns, 3, rfl, s1.seq hS, by decide, by decide, fun fl xs H2 s2 hfl0 hfl x1 x2 => ?_⟩
  have s02 := s1.trans s2
  have hN2 := s2 _ _ hN
  refine ⟨_, rfl, _, rfl, _, _, rfl, rfl, ⟨by decide, by decide, by decide⟩, _, _, rfl, rfl, _, rfl, _, _, rfl, rfl, ⟨by decide, by decide, by decide⟩, fl, xs, _, rfl, hfl, x1, x2, by decide, by decide, fun d ys H3 d0 d1 k3 e3 y1 y2 => ?_⟩
  have hl3 : ∃ L6 : List V, L6 = [V.int 0, V.int (-1), V.int (-1), V.int (0 - 10 ^ Int.toNat 16), V.int 1, V.int d] := ⟨_, rfl⟩
  obtain ⟨L6, eL6⟩ := hl3
  refine ⟨sm rfl, fun m0 hm0 => ?_⟩
  rw [← eL6]
  have s4 := same_new hm0 (.lst L6)
  have e4 : upd H3 m0 (.lst L6) m0 = some (.lst L6) := upd_same
  have s3 : Same H1 H3 := fun b o e => k3 _ _ (ne_of_none e hfl0) (s2 _ _ e)
  have nmf : m0 ≠ fl := fun e => by rw [e, e3] at hm0; cases hm0
  have efl4 := s4 _ _ e3
  have s14 := s3.trans s4
  generalize upd H3 m0 (.lst L6) = H4 at *
  refine ⟨_, rfl, fl, ys, 6, rfl, efl4, y1, y2, by decide, by decide, fun k zs H5 k0 k1 kk5 e5 z1 z2 => ?_⟩
  have hmore : ∃ more : Int, atI L6 k = some (.int more) := by
    subst eL6
    have : k = 0 ∨ k = 1 ∨ k = 2 ∨ k = 3 ∨ k = 4 ∨ k = 5 := by omega
    rcases this with rfl | rfl | rfl | rfl | rfl | rfl
    · exact ⟨_, rfl⟩
    · exact ⟨_, rfl⟩
    · exact ⟨_, rfl⟩
    · exact ⟨_, rfl⟩
    · exact ⟨_, rfl⟩
    · exact ⟨_, rfl⟩
  obtain ⟨more, hmore⟩ := hmore
  refine ⟨m0, _, _, _, rfl, rfl, SqL.of (kk5 _ _ nmf e4), hmore, ?_⟩
  have s5 : Same H1 H5 := fun b o e => kk5 _ _ (ne_of_none e hfl0) (s14 _ _ e)
  have sH5 := s1.trans s5
  have hN5 := s5 _ _ hN
  clear s4 e4 s3 nmf efl4 s14 kk5 k3 e3 hN2 s02 s2 hmore hm0
  refine ⟨_, rfl, _, rfl, sa, nl, ns, N, rfl, sH5.seq hS, hN5, by omega, by omega, fun tl qs ts H6 s6 htl0 htl hT ok hp hlt => ?_⟩
  have nft : fl ≠ tl := fun e => by rw [← e, e5] at htl0; cases htl0
  have e6 := s6 _ _ e5
  refine ⟨_, rfl, _, rfl, _, rfl, sa, nl, ns, N, more, rfl, (sH5.trans s6).seq hS, s6 _ _ hN5, by omega, by omega, fun t rl qr rs p m at' H7 s7 hrl0 ht hrl hR R => ?_⟩
  have nfr : fl ≠ rl := fun e => by rw [← e, e6] at hrl0; cases hrl0
  have e7 := s7 _ _ e6
  refine ⟨t, _, rfl, SqT.of ht, rfl, _, _, rfl, _, _, rfl, rfl, ?_⟩
  have hrs : rs.length ≤ 100 := by have := R.len; have := R.le; omega
  refine ⟨_, rfl, _, rfl, _, rfl, fl, tl, rl, zs, qs, qr, ts, rs, rfl, e7, z1, z2, s7 _ _ htl, hT.mono s7, hrl, hR, nft, nfr, by omega, hrs, fun ml qm tm H8 k8 hml0 hml hTm m1 m2 m3 => ?_⟩
  have kt8 : ∀ b xs, H7 b = some (.tup xs) → H8 b = some (.tup xs) := fun b xs e => k8 _ _ (ne_of e e7 (by intro z; cases z)) e
  have htl8 := k8 _ _ nft.symm (s7 _ _ htl)
  have hrl8 := k8 _ _ nfr.symm hrl
  have hT8 := (hT.mono s7).keep kt8
  have hR8 := hR.keep kt8
  have okr : ∀ t ∈ rs, t.1 < n ∧ t.2.1 < n := fun t ht => by have := R.ok t ht; omega
  have okt : ∀ t ∈ ts, t.1 < n ∧ t.2.1 < n := fun t ht => by have := of_ok ok t ht; omega
  have okm : BF.Ok n tm := ok_of fun t ht => by
    rcases m1 t ht with g | g
    · exact okt t g
    · exact okr t g
  refine ⟨_, rfl, _, _, rfl, rfl, _, rfl, if_str ?_⟩
  rw [due_if]
  refine ⟨_, rfl, _, rfl, ml, _, rfl, .inl (SqL.of hml), fun l1 hl1 => ?_⟩
  have s9 := same_new hl1 (.lst qm)
  have e9 : upd H8 l1 (.lst qm) l1 = some (.lst qm) := upd_same
  generalize upd H8 l1 (.lst qm) = H9 at *
  refine ⟨n, l1, qm, tm, rfl, hn1, by omega, e9, hTm.mono s9, okm, fun a t1 l H10 hTe hLa s10 _ _ _ ht1 hl1' => ?_⟩
  have s810 := s9.trans s10
  refine ⟨_, rfl, _, rfl, _, rfl, t1, l, ml, n, a, tm, qm, dueOf more, rfl, hn1, by omega, s810 _ _ hml, hTm.mono s810, okm, ⟨hTe, hLa, ht1, hl1'⟩, .inr (due_is hn1 okm hp R m1 m2 hTe), fun H11 s11 => ⟨_, rfl, iteF ?_⟩⟩
  have s811 := s810.trans s11
  have hml11 := s811 _ _ hml
  have hTm11 := hTm.mono s811
  have htl11 := s811 _ _ htl8
  have hrl11 := s811 _ _ hrl8
  have hT11 := hT8.mono s811
  have hR11 := hR8.mono s811
  clear s811 s810 s9 s10 s11 e9 ht1 hl1' hTe hLa hml hTm htl8 hrl8 hT8 hR8
  refine ⟨_, rfl, _, rfl, _, rfl, rfl, ml, qm, rfl, SqL.of hml11, fun bl hbl => ?_⟩
  have s12 := same_new hbl (.lst qm.reverse)
  have e12 : upd H11 bl (.lst qm.reverse) bl = some (.lst qm.reverse) := upd_same
  generalize upd H11 bl (.lst qm.reverse) = H12 at *
  have hTb := (hTm11.mono s12).tr.reverse.at
  have okb : BF.Ok n tm.reverse := ok_of fun t ht => of_ok okm t (List.mem_reverse.mp ht)
  refine ⟨_, rfl, _, rfl, bl, _, rfl, .inl (SqL.of e12), fun l2 hl2 => ?_⟩
  have s13 := same_new hl2 (.lst qm.reverse)
  have e13 : upd H12 l2 (.lst qm.reverse) l2 = some (.lst qm.reverse) := upd_same
  generalize upd H12 l2 (.lst qm.reverse) = H13 at *
  refine ⟨n, l2, qm.reverse, tm.reverse, rfl, hn1, by omega, e13, hTb.mono s13, okb, fun a t1 l H14 hTe hLa s14 _ _ _ ht1 hl1' => ?_⟩
  have s1214 := s13.trans s14
  refine ⟨_, rfl, _, rfl, _, rfl, t1, l, bl, n, a, tm.reverse, qm.reverse, dueOf more, rfl, hn1, by omega, s1214 _ _ e12, hTb.mono s1214, okb, ⟨hTe, hLa, ht1, hl1'⟩, .inr (due_is hn1 okb hp R (fun t ht => m1 t (List.mem_reverse.mp ht)) (fun t ht => List.mem_reverse.mpr (m2 t ht)) hTe), fun H15 s15 => ⟨_, rfl, iteF ?_⟩⟩
  have s1115 := s12.trans (s1214.trans s15)
  have htl15 := s1115 _ _ htl11
  have hrl15 := s1115 _ _ hrl11
  have hT15 := hT11.mono s1115
  have hR15 := hR11.mono s1115
  clear s1115 s1214 s12 s13 s14 s15 e12 e13 ht1 hl1' hTe hLa hTb hTm11 hml11 htl11 hrl11 hT11 hR11
  have hqr : qr.length = m := by have := hR15.1; have := R.len; omega
  have hatm := R.lt
  have hm100 : qr.length ≤ 100 := by have := R.le; omega
  have hqs : qs.length = ts.length := hT15.1
  refine ⟨_, rfl, _, rfl, _, rfl, _, rfl, rl, qr, rfl, SqL.of hrl15, fun c1 hc1 => ?_⟩
  rw [cut_to (by omega)]
  have s16 := same_new hc1 (.lst (qr.take at'))
  have e16 : upd H15 c1 (.lst (qr.take at')) c1 = some (.lst (qr.take at')) := upd_same
  generalize upd H15 c1 (.lst (qr.take at')) = H16 at *
  refine ⟨tl, c1, qs, qr.take at', rfl, rfl, SqL.of (s16 _ _ htl15), SqL.of e16, small (by rw [List.length_take]; omega), fun c2 hc2 => ?_⟩
  have s17 := same_new hc2 (.lst (qs ++ qr.take at'))
  have e17 : upd H16 c2 (.lst (qs ++ qr.take at')) c2 = some (.lst (qs ++ qr.take at')) := upd_same
  generalize upd H16 c2 (.lst (qs ++ qr.take at')) = H17 at *
  have s1517 := s16.trans s17
  refine ⟨_, rfl, _, rfl, _, _, rfl, rfl, _, rfl, rl, qr, rfl, SqL.of (s1517 _ _ hrl15), fun c3 hc3 => ?_⟩
  rw [show ((at' : Int) + 1) = ((at' + 1 : Nat) : Int) from rfl, cut_from (by omega)]
  have s18 := same_new hc3 (.lst (qr.drop (at' + 1)))
  have e18 : upd H17 c3 (.lst (qr.drop (at' + 1))) c3 = some (.lst (qr.drop (at' + 1))) := upd_same
  generalize upd H17 c3 (.lst (qr.drop (at' + 1))) = H18 at *
  refine ⟨c2, c3, _, _, rfl, rfl, SqL.of (s18 _ _ e17), SqL.of e18, small (by rw [List.length_append, List.length_take, List.length_drop]; omega), fun c4 hc4 => ?_⟩
  have s19 := same_new hc4 (.lst (qs ++ qr.take at' ++ qr.drop (at' + 1)))
  have e19 : upd H18 c4 (.lst (qs ++ qr.take at' ++ qr.drop (at' + 1))) c4 = some (.lst (qs ++ qr.take at' ++ qr.drop (at' + 1))) := upd_same
  generalize upd H18 c4 (.lst (qs ++ qr.take at' ++ qr.drop (at' + 1))) = H19 at *
  have s1519 := s1517.trans (s18.trans s19)
  have hT19 := (hT15.mono s1519).tr
  have hR19 := (hR15.mono s1519).tr
  have hX := ((hT19.append (hR19.take at')).append (hR19.drop (at' + 1))).at
  have memr : ∀ t ∈ ts ++ rs.take at' ++ rs.drop (at' + 1), t ∈ ts ∨ t ∈ rs.take at' ++ rs.drop (at' + 1) := fun t ht => by
    rw [List.append_assoc] at ht
    exact List.mem_append.mp ht
  have okx : BF.Ok n (ts ++ rs.take at' ++ rs.drop (at' + 1)) := ok_of fun t ht => by
    rcases memr t ht with g | g
    · exact okt t g
    · exact okr t (R.rest t g).1
  refine ⟨_, rfl, _, rfl, c4, _, rfl, .inl (SqL.of e19), fun l3 hl3 => ?_⟩
  have s20 := same_new hl3 (.lst (qs ++ qr.take at' ++ qr.drop (at' + 1)))
  have e20 : upd H19 l3 (.lst (qs ++ qr.take at' ++ qr.drop (at' + 1))) l3 = some (.lst (qs ++ qr.take at' ++ qr.drop (at' + 1))) := upd_same
  generalize upd H19 l3 (.lst (qs ++ qr.take at' ++ qr.drop (at' + 1))) = H20 at *
  refine ⟨n, l3, _, _, rfl, hn1, by omega, e20, hX.mono s20, okx, fun a t1 l H21 hTe hLa s21 _ _ _ ht1 hl1' => ?_⟩
  have s1921 := s20.trans s21
  have hval : ("values" : Str) = nmA a := by
    obtain ⟨v, rfl⟩ := hTe.kept (N := BF.gv N) okx hn1 (fun t ht => by
      rcases memr t ht with g | g
      · exact hp t g
      · exact (R.rest t g).2)
    rfl
  exact ⟨_, rfl, _, rfl, t1, l, c4, n, a, _, _, "values", rfl, hn1, by omega, s1921 _ _ e19, hX.mono s1921, okx, ⟨hTe, hLa, ht1, hl1'⟩, .inr hval, fun H22 _ => q H22⟩
end
end LW
set_option Elab.async false
set_option linter.all false
set_option maxRecDepth 100000
set_option maxHeartbeats 4000000
namespace LW
open PySem L2
theorem ok_settled2 {P : Program} {w : World} {K : PySem.W.Frag} {mg : Str → Option Value} {base : Heap} {f : Addr} {fd : FuncData} (F : Fun K "settled" "settled" sSettled f fd) (B : Free0 mg) (F1 : Fn P w K mg base 1 "lower_once" ["values", "reasons", "ties"] spLower) (F2 : Fn P w K mg base 1 "ring_behind" ["lowered", "reasons"] spBehind) : FnOk P w K mg base CX0 2 f fd ["count", "ties"] spSettled := ok_settled B F F1 F2
theorem all_mk {l : PySem.W.OpenLaw} {w : World} {K : PySem.W.Frag} {h : Heap} {mg : Str → Option Value} {fa f0 f1 f2 f3 f4 f5 f6 f7 f8 f9 f10 f11 f12 f13 f14 : Addr} (X : K.In h) (G : h.Ns mainGlobals mg) (hfa : mg "law" = some (.ref fa))
    {od0 an0 od1 an1 od2 an2 od3 an3 od4 an4 od5 an5 od6 an6 od7 an7 od8 an8 od9 an9 od10 an10 od11 an11 od12 an12 od13 an13 od14 an14 : Option Addr} {sl0 sl1 sl2 sl3 sl4 sl5 sl6 sl7 sl8 sl9 sl10 sl11 sl12 sl13 sl14 : Array (Option Value)} {oc0 kV0 dc0 pm0 cd0 ct0 oc1 kV1 dc1 pm1 cd1 ct1 oc2 kV2 dc2 pm2 cd2 ct2 oc3 kV3 dc3 pm3 cd3 ct3 oc4 kV4 dc4 pm4 cd4 ct4 oc5 kV5 dc5 pm5 cd5 ct5 oc6 kV6 dc6 pm6 cd6 ct6 oc7 kV7 dc7 pm7 cd7 ct7 oc8 kV8 dc8 pm8 cd8 ct8 oc9 kV9 dc9 pm9 cd9 ct9 oc10 kV10 dc10 pm10 cd10 ct10 oc11 kV11 dc11 pm11 cd11 ct11 oc12 kV12 dc12 pm12 cd12 ct12 oc13 kV13 dc13 pm13 cd13 ct13 oc14 kV14 dc14 pm14 cd14 ct14 : Value}
    (a0 : PySem.W.nsIn K mainGlobals "lower_once" = some (some (.ref f0))) (l0 : K.lookup f0 = some ⟨oc0, od0, .func (PySem.W.fnOf "lower_once" "lower_once" (defArgs sLower_once) (defBody sLower_once) (defScope sLower_once) .none kV0 dc0 pm0 an0 cd0 ct0), sl0⟩) (c0 : PySem.W.codeIn K cd0 "lower_once" = true) (k0 : PySem.W.keepIn K (.ref f0) = true)
    (a1 : PySem.W.nsIn K mainGlobals "ring_behind" = some (some (.ref f1))) (l1 : K.lookup f1 = some ⟨oc1, od1, .func (PySem.W.fnOf "ring_behind" "ring_behind" (defArgs sRing_behind) (defBody sRing_behind) (defScope sRing_behind) .none kV1 dc1 pm1 an1 cd1 ct1), sl1⟩) (c1 : PySem.W.codeIn K cd1 "ring_behind" = true) (k1 : PySem.W.keepIn K (.ref f1) = true)
    (a2 : PySem.W.nsIn K mainGlobals "settled" = some (some (.ref f2))) (l2 : K.lookup f2 = some ⟨oc2, od2, .func (PySem.W.fnOf "settled" "settled" (defArgs sSettled) (defBody sSettled) (defScope sSettled) .none kV2 dc2 pm2 an2 cd2 ct2), sl2⟩) (c2 : PySem.W.codeIn K cd2 "settled" = true) (k2 : PySem.W.keepIn K (.ref f2) = true)
    (a3 : PySem.W.nsIn K mainGlobals "_law_cell" = some (some (.ref f3))) (l3 : K.lookup f3 = some ⟨oc3, od3, .func (PySem.W.fnOf "_law_cell" "_law_cell" (defArgs sCell) (defBody sCell) (defScope sCell) .none kV3 dc3 pm3 an3 cd3 ct3), sl3⟩) (c3 : PySem.W.codeIn K cd3 "_law_cell" = true) (k3 : PySem.W.keepIn K (.ref f3) = true)
    (a4 : PySem.W.nsIn K mainGlobals "_law_feed" = some (some (.ref f4))) (l4 : K.lookup f4 = some ⟨oc4, od4, .func (PySem.W.fnOf "_law_feed" "_law_feed" (defArgs sFeed) (defBody sFeed) (defScope sFeed) .none kV4 dc4 pm4 an4 cd4 ct4), sl4⟩) (c4 : PySem.W.codeIn K cd4 "_law_feed" = true) (k4 : PySem.W.keepIn K (.ref f4) = true)
    (a5 : PySem.W.nsIn K mainGlobals "_law_take" = some (some (.ref f5))) (l5 : K.lookup f5 = some ⟨oc5, od5, .func (PySem.W.fnOf "_law_take" "_law_take" (defArgs sTake) (defBody sTake) (defScope sTake) .none kV5 dc5 pm5 an5 cd5 ct5), sl5⟩) (c5 : PySem.W.codeIn K cd5 "_law_take" = true) (k5 : PySem.W.keepIn K (.ref f5) = true)
    (a6 : PySem.W.nsIn K mainGlobals "_law_tie" = some (some (.ref f6))) (l6 : K.lookup f6 = some ⟨oc6, od6, .func (PySem.W.fnOf "_law_tie" "_law_tie" (defArgs sTie) (defBody sTie) (defScope sTie) .none kV6 dc6 pm6 an6 cd6 ct6), sl6⟩) (c6 : PySem.W.codeIn K cd6 "_law_tie" = true) (k6 : PySem.W.keepIn K (.ref f6) = true)
    (a7 : PySem.W.nsIn K mainGlobals "_law_values" = some (some (.ref f7))) (l7 : K.lookup f7 = some ⟨oc7, od7, .func (PySem.W.fnOf "_law_values" "_law_values" (defArgs sValues) (defBody sValues) (defScope sValues) .none kV7 dc7 pm7 an7 cd7 ct7), sl7⟩) (c7 : PySem.W.codeIn K cd7 "_law_values" = true) (k7 : PySem.W.keepIn K (.ref f7) = true)
    (a8 : PySem.W.nsIn K mainGlobals "_law_ring" = some (some (.ref f8))) (l8 : K.lookup f8 = some ⟨oc8, od8, .func (PySem.W.fnOf "_law_ring" "_law_ring" (defArgs sRing) (defBody sRing) (defScope sRing) .none kV8 dc8 pm8 an8 cd8 ct8), sl8⟩) (c8 : PySem.W.codeIn K cd8 "_law_ring" = true) (k8 : PySem.W.keepIn K (.ref f8) = true)
    (a9 : PySem.W.nsIn K mainGlobals "_law_good" = some (some (.ref f9))) (l9 : K.lookup f9 = some ⟨oc9, od9, .func (PySem.W.fnOf "_law_good" "_law_good" (defArgs sGood) (defBody sGood) (defScope sGood) .none kV9 dc9 pm9 an9 cd9 ct9), sl9⟩) (c9 : PySem.W.codeIn K cd9 "_law_good" = true) (k9 : PySem.W.keepIn K (.ref f9) = true)
    (a10 : PySem.W.nsIn K mainGlobals "_law_numbers" = some (some (.ref f10))) (l10 : K.lookup f10 = some ⟨oc10, od10, .func (PySem.W.fnOf "_law_numbers" "_law_numbers" (defArgs sNumbers) (defBody sNumbers) (defScope sNumbers) .none kV10 dc10 pm10 an10 cd10 ct10), sl10⟩) (c10 : PySem.W.codeIn K cd10 "_law_numbers" = true) (k10 : PySem.W.keepIn K (.ref f10) = true)
    (a11 : PySem.W.nsIn K mainGlobals "_law_met" = some (some (.ref f11))) (l11 : K.lookup f11 = some ⟨oc11, od11, .func (PySem.W.fnOf "_law_met" "_law_met" (defArgs sMet) (defBody sMet) (defScope sMet) .none kV11 dc11 pm11 an11 cd11 ct11), sl11⟩) (c11 : PySem.W.codeIn K cd11 "_law_met" = true) (k11 : PySem.W.keepIn K (.ref f11) = true)
    (a12 : PySem.W.nsIn K mainGlobals "_law_round" = some (some (.ref f12))) (l12 : K.lookup f12 = some ⟨oc12, od12, .func (PySem.W.fnOf "_law_round" "_law_round" (defArgs sRound) (defBody sRound) (defScope sRound) .none kV12 dc12 pm12 an12 cd12 ct12), sl12⟩) (c12 : PySem.W.codeIn K cd12 "_law_round" = true) (k12 : PySem.W.keepIn K (.ref f12) = true)
    (a13 : PySem.W.nsIn K mainGlobals "_law_mixed" = some (some (.ref f13))) (l13 : K.lookup f13 = some ⟨oc13, od13, .func (PySem.W.fnOf "_law_mixed" "_law_mixed" (defArgs sMixed) (defBody sMixed) (defScope sMixed) .none kV13 dc13 pm13 an13 cd13 ct13), sl13⟩) (c13 : PySem.W.codeIn K cd13 "_law_mixed" = true) (k13 : PySem.W.keepIn K (.ref f13) = true)
    (a14 : PySem.W.nsIn K mainGlobals "law" = some (some (.ref f14))) (l14 : K.lookup f14 = some ⟨oc14, od14, .func (PySem.W.fnOf "law" "law" (defArgs sLaw) (defBody sLaw) (defScope sLaw) .none kV14 dc14 pm14 an14 cd14 ct14), sl14⟩) (c14 : PySem.W.codeIn K cd14 "law" = true) (k14 : PySem.W.keepIn K (.ref f14) = true)
    (z0 : PySem.W.nsIn K mainGlobals "len" = some none) (z1 : PySem.W.nsIn K mainGlobals "max" = some none) (z2 : PySem.W.nsIn K mainGlobals "min" = some none) (z3 : PySem.W.nsIn K mainGlobals "all" = some none) (z4 : PySem.W.nsIn K mainGlobals "isinstance" = some none) (z5 : PySem.W.nsIn K mainGlobals "abs" = some none) (z6 : PySem.W.nsIn K mainGlobals "sorted" = some none) (z7 : PySem.W.nsIn K mainGlobals "int" = some none) (z8 : PySem.W.nsIn K mainGlobals "str" = some none) (z9 : PySem.W.nsIn K mainGlobals "bool" = some none) (z10 : PySem.W.nsIn K mainGlobals "tuple" = some none) (z11 : PySem.W.nsIn K mainGlobals "list" = some none) (z12 : PySem.W.nsIn K mainGlobals "dict" = some none) (z13 : PySem.W.nsIn K mainGlobals "range" = some none) (z14 : PySem.W.nsIn K mainGlobals "set" = some none) :
    ∃ fd : FuncData, (∀ (s : Shared) (v : Value), BindsTo s fd ⟨[v], []⟩ [("_law_script", v)]) ∧ ∀ base : Heap, K.In base → base.Ns mainGlobals mg → FnOk l.prog w K mg base CX0 4 fa fd ["_law_script"] (spLaw K) := by
  have e := hfa.symm.trans (PySem.W.mg_of X G a14)
  cases e
  have B : Free0 mg := ⟨PySem.W.mg_none_of X G z0, PySem.W.mg_none_of X G z1, PySem.W.mg_none_of X G z2, PySem.W.mg_none_of X G z3, PySem.W.mg_none_of X G z4, PySem.W.mg_none_of X G z5, PySem.W.mg_none_of X G z6, PySem.W.mg_none_of X G z7, PySem.W.mg_none_of X G z8, PySem.W.mg_none_of X G z9, PySem.W.mg_none_of X G z10, PySem.W.mg_none_of X G z11, PySem.W.mg_none_of X G z12, PySem.W.mg_none_of X G z13, PySem.W.mg_none_of X G z14⟩
  have U0 := fun_mk (st := sLower_once) l0 c0 k0
  have b0 := U0.binds (ps := ["values", "reasons", "ties"]) fun _ _ _ _ _ _ us hl => match us, hl with | [_, _, _], _ => rfl
  have U1 := fun_mk (st := sRing_behind) l1 c1 k1
  have b1 := U1.binds (ps := ["lowered", "reasons"]) fun _ _ _ _ _ _ us hl => match us, hl with | [_, _], _ => rfl
  have U2 := fun_mk (st := sSettled) l2 c2 k2
  have b2 := U2.binds (ps := ["count", "ties"]) fun _ _ _ _ _ _ us hl => match us, hl with | [_, _], _ => rfl
  have U3 := fun_mk (st := sCell) l3 c3 k3
  have b3 := U3.binds (ps := ["_law_script", "_law_k"]) fun _ _ _ _ _ _ us hl => match us, hl with | [_, _], _ => rfl
  have U4 := fun_mk (st := sFeed) l4 c4 k4
  have b4 := U4.binds (ps := ["_law_script", "_law_k"]) fun _ _ _ _ _ _ us hl => match us, hl with | [_, _], _ => rfl
  have U5 := fun_mk (st := sTake) l5 c5 k5
  have b5 := U5.binds (ps := ["_law_feed_here", "_law_many"]) fun _ _ _ _ _ _ us hl => match us, hl with | [_, _], _ => rfl
  have U6 := fun_mk (st := sTie) l6 c6 k6
  have b6 := U6.binds (ps := ["_law_answer"]) fun _ _ _ _ _ _ us hl => match us, hl with | [_], _ => rfl
  have U7 := fun_mk (st := sValues) l7 c7 k7
  have b7 := U7.binds (ps := ["_law_answer", "_law_count", "_law_ties"]) fun _ _ _ _ _ _ us hl => match us, hl with | [_, _, _], _ => rfl
  have U8 := fun_mk (st := sRing) l8 c8 k8
  have b8 := U8.binds (ps := ["_law_answer", "_law_ties"]) fun _ _ _ _ _ _ us hl => match us, hl with | [_, _], _ => rfl
  have U9 := fun_mk (st := sGood) l9 c9 k9
  have b9 := U9.binds (ps := ["_law_answer", "_law_count", "_law_ties", "_law_due"]) fun _ _ _ _ _ _ us hl => match us, hl with | [_, _, _, _], _ => rfl
  have U10 := fun_mk (st := sNumbers) l10 c10 k10
  have b10 := U10.binds (ps := ["_law_script", "_law_count"]) fun _ _ _ _ _ _ us hl => match us, hl with | [_, _], _ => rfl
  have U11 := fun_mk (st := sMet) l11 c11 k11
  have b11 := U11.binds (ps := ["_law_script", "_law_numbers_here"]) fun _ _ _ _ _ _ us hl => match us, hl with | [_, _], _ => rfl
  have U12 := fun_mk (st := sRound) l12 c12 k12
  have b12 := U12.binds (ps := ["_law_script", "_law_numbers_here", "_law_more"]) fun _ _ _ _ _ _ us hl => match us, hl with | [_, _, _], _ => rfl
  have U13 := fun_mk (st := sMixed) l13 c13 k13
  have b13 := U13.binds (ps := ["_law_feed_here", "_law_ties", "_law_ring_here"]) fun _ _ _ _ _ _ us hl => match us, hl with | [_, _, _], _ => rfl
  have U14 := fun_mk (st := sLaw) l14 c14 k14
  refine ⟨PySem.W.fnOf "law" "law" (defArgs sLaw) (defBody sLaw) (defScope sLaw) .none kV14 dc14 pm14 an14 cd14 ct14, fun s v => .of_eq rfl, fun base _ _ => ?_⟩
  have F_lower_once := Fn.mk' U0 b0 (PySem.W.mg_of X G a0) (ok_lower (P := l.prog) (w := w) (base := base) U0 )
  have F_ring_behind := Fn.mk' U1 b1 (PySem.W.mg_of X G a1) (ok_behind (P := l.prog) (w := w) (base := base) U1 )
  have F_settled := Fn.mk' U2 b2 (PySem.W.mg_of X G a2) (ok_settled2 (P := l.prog) (w := w) (base := base) U2 B F_lower_once F_ring_behind)
  have F_cell := Fn.mk' U3 b3 (PySem.W.mg_of X G a3) (ok_cell (P := l.prog) (w := w) (base := base) U3 B)
  have F_feed := Fn.mk' U4 b4 (PySem.W.mg_of X G a4) (ok_feed (P := l.prog) (w := w) (base := base) U4 B F_cell)
  have F_take := Fn.mk' U5 b5 (PySem.W.mg_of X G a5) (ok_take (P := l.prog) (w := w) (base := base) U5 B)
  have F_tie := Fn.mk' U6 b6 (PySem.W.mg_of X G a6) (ok_tie (P := l.prog) (w := w) (base := base) U6 B)
  have F_values := Fn.mk' U7 b7 (PySem.W.mg_of X G a7) (ok_values (P := l.prog) (w := w) (base := base) U7 B)
  have F_ring := Fn.mk' U8 b8 (PySem.W.mg_of X G a8) (ok_ring (P := l.prog) (w := w) (base := base) U8 B F_tie)
  have F_good := Fn.mk' U9 b9 (PySem.W.mg_of X G a9) (ok_good (P := l.prog) (w := w) (base := base) U9 B F_values F_ring)
  have F_numbers := Fn.mk' U10 b10 (PySem.W.mg_of X G a10) (ok_numbers (P := l.prog) (w := w) (base := base) U10 B F_cell F_feed F_take)
  have F_met := Fn.mk' U11 b11 (PySem.W.mg_of X G a11) (ok_met (P := l.prog) (w := w) (base := base) U11 B F_feed F_take)
  have F_round := Fn.mk' U12 b12 (PySem.W.mg_of X G a12) (ok_round (P := l.prog) (w := w) (base := base) U12 B F_feed F_take)
  have F_mixed := Fn.mk' U13 b13 (PySem.W.mg_of X G a13) (ok_mixed (P := l.prog) (w := w) (base := base) U13 B F_take)
  exact ok_law U14 B F_cell F_feed F_take F_numbers F_met F_round F_mixed F_settled F_good
theorem walk {l : PySem.W.OpenLaw} {q : Program} {loose : List Str} {XP : (Str → Option Value) → Heap → Prop} {YP : World → Heap → Prop} {d : DefRec} {K : Params → PySem.W.Frag} (hn : l.most = some 63) (hdf : d.params.defaults = [])
    (hY : ∀ (w : World) (h : Heap), YP w h → (K w.params).In h)
    (F : ∀ (w : World) (mg : Str → Option Value) (fa : Addr) (h : Heap), (K w.params).In h → h.Ns mainGlobals mg → mg d.name = some (.ref fa) →
      ∃ fd : FuncData, (∀ (s : Shared) (u : Value), BindsTo s fd ⟨[u], []⟩ [("_law_script", u)]) ∧ ∀ base : Heap, (K w.params).In base → base.Ns mainGlobals mg → FnOk l.prog w (K w.params) mg base CX0 4 fa fd ["_law_script"] (spLaw (K w.params))) :
    PySem.W.WalkO q loose XP YP l.row.toRowW d [] (fun f vs => PySem.call f vs) :=
  L2.walk_of (n := 63) (k := 4) (x := "_law_script") (CX := fun _ => CX0) (sp := fun w => spLaw (K w.params)) hn (by decide) hdf ⟨rfl, by decide, by decide⟩ hY F (fun _ _ a ns hl _ hS => ⟨a, ns, rfl, hS, hl, fun _ => rfl⟩) fun _ _ _ _ _ z => z
end LW
def PySem.W.Fast.tw5553016339134100033 : Unit := ()
def PySem.W.Fast.tw16236621477882147513 : Unit := ()
def PySem.W.Fast.tw2335621248151722940 : Unit := ()
def PySem.W.Fast.tw2316305483397002072 : Unit := ()
def PySem.W.Fast.tw8469819907408595765 : Unit := ()
def PySem.W.Fast.tw10765183881283782251 : Unit := ()
def PySem.W.Fast.tw14702967434475700030 : Unit := ()
def PySem.W.Fast.tw1520266145152137148 : Unit := ()
def PySem.W.Fast.tw14977566938893224917 : Unit := ()
def PySem.W.Fast.tw17342155234230509961 : Unit := ()
def PySem.W.Fast.tw62179252719732183 : Unit := ()
def PySem.W.Fast.tw6784921386421062481 : Unit := ()
def PySem.W.Fast.tw12815178301089143793 : Unit := ()
def PySem.W.Fast.tw17788628228436755020 : Unit := ()
def PySem.W.Fast.tw14168431093378129241 : Unit := ()
def PySem.W.Fast.tw7470337675428264045 : Unit := ()
def PySem.W.Fast.tw75024602174945716 : Unit := ()
def PySem.W.Fast.tw3244048125645722846 : Unit := ()
def PySem.W.Fast.tw11097058109299881122 : Unit := ()
def PySem.W.Fast.tw7935451130150126117 : Unit := ()
def PySem.W.Fast.tw17643098068793519829 : Unit := ()
def PySem.W.Fast.tw9628418292229352460 : Unit := ()
def PySem.W.Fast.tw9310350490297178750 : Unit := ()
def PySem.W.Fast.tw15591526989817278200 : Unit := ()
def PySem.W.Fast.tw3139223096596234525 : Unit := ()
def PySem.W.Fast.tw6601927544850874877 : Unit := ()
def PySem.W.Fast.tw11556660589783567410 : Unit := ()
def PySem.W.Fast.tw976946982229556839 : Unit := ()
def PySem.W.Fast.tw8582291237263618573 : Unit := ()
def PySem.W.Fast.tw1826046396536283363 : Unit := ()
def PySem.W.Fast.tw17854928738895987232 : Unit := ()
def PySem.W.Fast.tw18068829147892206590 : Unit := ()
def PySem.W.Fast.tw9113308676734933000 : Unit := ()
def PySem.W.Fast.tw2522268386666827586 : Unit := ()
def PySem.W.Fast.tw2988495060319752345 : Unit := ()
def PySem.W.Fast.tw14513997157489511647 : Unit := ()
def PySem.W.Fast.tw17782158956215729861 : Unit := ()
def PySem.W.Fast.tw7949431608243906516 : Unit := ()
def PySem.W.Fast.tw5585900749772394125 : Unit := ()
def PySem.W.Fast.tw6072923245026721388 : Unit := ()
def PySem.W.Fast.tw11794758841366738217 : Unit := ()
def PySem.W.Fast.tw12391806511277386211 : Unit := ()
def PySem.W.Fast.tw2132727645469057217 : Unit := ()
def PySem.W.Fast.tw4373275969093739277 : Unit := ()
def PySem.W.Fast.tw14559206743462754916 : Unit := ()
def PySem.W.Fast.tw14982324870427325682 : Unit := ()
open PySem PySem.W PyProof.Rows
set_option maxRecDepth 100000 in
set_option maxHeartbeats 0 in
theorem PySem.Challenge.cw_outlineward_k32_whole_long_rings_holds : PySem.Challenge.rw_outlineward_k32_whole_long_rings.Holds := by
  w_on; o_law; k_head; (case hw => w_witness2)
  k_fill
  refine LW.walk (l := PySem.Challenge.rw_outlineward_k32_whole_long_rings) rfl rfl (fun w h Y => PySem.W.kIn_of Y) ?F
  case F =>
    intro w mg fa h KX G hmg
    refine' LW.all_mk KX G hmg ?a0 ?l0 ?c0 ?k0 ?a1 ?l1 ?c1 ?k1 ?a2 ?l2 ?c2 ?k2 ?a3 ?l3 ?c3 ?k3 ?a4 ?l4 ?c4 ?k4 ?a5 ?l5 ?c5 ?k5 ?a6 ?l6 ?c6 ?k6 ?a7 ?l7 ?c7 ?k7 ?a8 ?l8 ?c8 ?k8 ?a9 ?l9 ?c9 ?k9 ?a10 ?l10 ?c10 ?k10 ?a11 ?l11 ?c11 ?k11 ?a12 ?l12 ?c12 ?k12 ?a13 ?l13 ?c13 ?k13 ?a14 ?l14 ?c14 ?k14 ?z0 ?z1 ?z2 ?z3 ?z4 ?z5 ?z6 ?z7 ?z8 ?z9 ?z10 ?z11 ?z12 ?z13 ?z14
    (case a0 => k_is); (case l0 => k_is); (case c0 => k_is); (case k0 => k_is)
    (case a1 => k_is); (case l1 => k_is); (case c1 => k_is); (case k1 => k_is)
    (case a2 => k_is); (case l2 => k_is); (case c2 => k_is); (case k2 => k_is)
    (case a3 => k_is); (case l3 => k_is); (case c3 => k_is); (case k3 => k_is)
    (case a4 => k_is); (case l4 => k_is); (case c4 => k_is); (case k4 => k_is)
    (case a5 => k_is); (case l5 => k_is); (case c5 => k_is); (case k5 => k_is)
    (case a6 => k_is); (case l6 => k_is); (case c6 => k_is); (case k6 => k_is)
    (case a7 => k_is); (case l7 => k_is); (case c7 => k_is); (case k7 => k_is)
    (case a8 => k_is); (case l8 => k_is); (case c8 => k_is); (case k8 => k_is)
    (case a9 => k_is); (case l9 => k_is); (case c9 => k_is); (case k9 => k_is)
    (case a10 => k_is); (case l10 => k_is); (case c10 => k_is); (case k10 => k_is)
    (case a11 => k_is); (case l11 => k_is); (case c11 => k_is); (case k11 => k_is)
    (case a12 => k_is); (case l12 => k_is); (case c12 => k_is); (case k12 => k_is)
    (case a13 => k_is); (case l13 => k_is); (case c13 => k_is); (case k13 => k_is)
    (case a14 => k_is); (case l14 => k_is); (case c14 => k_is); (case k14 => k_is)
    (case z0 => k_is)
    (case z1 => k_is)
    (case z2 => k_is)
    (case z3 => k_is)
    (case z4 => k_is)
    (case z5 => k_is)
    (case z6 => k_is)
    (case z7 => k_is)
    (case z8 => k_is)
    (case z9 => k_is)
    (case z10 => k_is)
    (case z11 => k_is)
    (case z12 => k_is)
    (case z13 => k_is)
    (case z14 => k_is)
