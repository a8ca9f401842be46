import PyProof.Rows.All
import Wide.All
import OpenK.AllK
import Wide.FinOn
import Lean
import PyProof.EqAt
import PyProof.EqKinds
import PyProof.TupleCall
import PyProof.NeKinds
import KE.KEqDict
import KE.KDictSum
import PyProof.Rows.StrMul
import PyProof.Rows.SortStr
import PyProof.Rows.SortWalk
import KE.KSortTup
import PyProof.IsiH_list
import KE.KDictOf
import KE.KItemsList
import PyProof.SetKind
import PyProof.Rows.SetFrom
import PyProof.IsRules
import PyProof.Rows.SortShellK
import PySem.Challenge.RW_outlineward_k12_whole_rows_written
set_option Elab.async false
set_option linter.all false
set_option maxRecDepth 100000
namespace L2
open PySem PySem.Spec PyProof.Rows
abbrev Key := Sum Int Str
def keyIs : Key → Value → Bool
  | .inl k, v => Value.isInt k v
  | .inr x, v => Value.isStrOf x v
def keyH (w : World) : Key → Int
  | .inl k => hashInt k
  | .inr x => hashStr w x
theorem keyIs_shape : ∀ {k : Key} {v : Value}, keyIs k v = true → (∃ i t, k = Sum.inl i ∧ v = Value.int i t) ∨ (∃ x t, k = Sum.inr x ∧ v = Value.str x t)
  | .inl i, v, h => by
    obtain ⟨t, e⟩ := Value.isInt_shape (k := i) (v := v) h
    exact .inl ⟨i, t, rfl, e⟩
  | .inr x, v, h => by
    obtain ⟨t, e⟩ := Value.isStrOf_shape (x := x) (v := v) h
    exact .inr ⟨x, t, rfl, e⟩
theorem keyIs_int (i : Int) (t : Tok) : keyIs (.inl i) (.int i t) = true := by simp [keyIs, Value.isInt]
theorem keyIs_str (x : Str) (t : Tok) : keyIs (.inr x) (.str x t) = true := by simp [keyIs, Value.isStrOf]
theorem key_ll (a b : Int) : decide ((Sum.inl a : Key) = Sum.inl b) = (a == b) := by
  by_cases e : a = b
  · subst e; simp
  · have h : ¬ (Sum.inl a : Key) = Sum.inl b := fun q => e (Sum.inl.inj q)
    rw [decide_eq_false h]
    exact (beq_eq_false_iff_ne.mpr e).symm
theorem key_rr (a b : Str) : decide ((Sum.inr a : Key) = Sum.inr b) = decide (a = b) := by
  by_cases e : a = b
  · subst e; simp
  · have h : ¬ (Sum.inr a : Key) = Sum.inr b := fun q => e (Sum.inr.inj q)
    rw [decide_eq_false h, decide_eq_false e]
theorem key_lr (a : Int) (b : Str) : decide ((Sum.inl a : Key) = Sum.inr b) = false := decide_eq_false (fun q => nomatch q)
theorem key_rl (a : Str) (b : Int) : decide ((Sum.inr a : Key) = Sum.inl b) = false := decide_eq_false (fun q => nomatch q)
def mixKind (prog : Program) (w : World) : PySem.KeyKind prog w Key where
  is := keyIs
  hash := keyH w
  inj := fun v a b ha hb => by
    rcases keyIs_shape ha with ⟨i, t, rfl, rfl⟩ | ⟨x, t, rfl, rfl⟩
    · rcases keyIs_shape hb with ⟨j, u, rfl, e⟩ | ⟨y, u, rfl, e⟩
      · injection e with e1 _; rw [e1]
      · exact nomatch e
    · rcases keyIs_shape hb with ⟨j, u, rfl, e⟩ | ⟨y, u, rfl, e⟩
      · exact nomatch e
      · injection e with e1 _; rw [e1]
  byValue := fun k v h => by
    rcases keyIs_shape h with ⟨i, t, rfl, rfl⟩ | ⟨x, t, rfl, rfl⟩ <;> rfl
  pyHash := fun hv h => by
    rcases keyIs_shape hv with ⟨i, t, rfl, rfl⟩ | ⟨x, t, rfl, rfl⟩
    · exact wpAny_pyHash_int h
    · exact wpAny_pyHash_str h
  eqBool := fun hu hv h => by
    rcases keyIs_shape hu with ⟨i, t, rfl, rfl⟩ | ⟨x, t, rfl, rfl⟩
    · rcases keyIs_shape hv with ⟨j, u, rfl, rfl⟩ | ⟨y, u, rfl, rfl⟩
      · rw [key_ll] at h; exact wpAny_eqBool_int h
      · rw [key_lr] at h; exact SeqAt.EqAt.int_str i t y u _ _ _ _ h
    · rcases keyIs_shape hv with ⟨j, u, rfl, rfl⟩ | ⟨y, u, rfl, rfl⟩
      · rw [key_rl] at h; exact SeqAt.EqAt.str_int x t j u _ _ _ _ h
      · rw [key_rr] at h; exact wpAny_eqBool_str h
  «strs» := fun k x t v h => by
    rcases keyIs_shape h with ⟨i, u, rfl, e⟩ | ⟨y, u, rfl, e⟩
    · exact nomatch e
    · injection e with e1 _
      subst e1
      cases v <;> rfl
theorem mixKind_int (prog : Program) (w : World) (i : Int) (t : Tok) : (mixKind prog w).is (.inl i) (.int i t) = true := keyIs_int i t
theorem mixKind_str (prog : Program) (w : World) (x : Str) (t : Tok) : (mixKind prog w).is (.inr x) (.str x t) = true := keyIs_str x t
end L2
namespace L2
open PySem PySem.Spec PyProof.Rows
inductive V where
  | non | bl (b : Bool) | int (i : Int) | str (x : Str) | byt (b : Array UInt8) | flt (b : UInt64) | ref (a : Addr) | ty (n : String)
  deriving DecidableEq
def RelV : V → Value → Prop
  | .non, u => u = Value.none
  | .bl b, u => u = Value.bool b
  | .int i, u => ∃ t, u = Value.int i t
  | .str x, u => ∃ t, u = Value.str x t
  | .byt b, u => ∃ t, u = Value.bytes b t
  | .flt b, u => ∃ t, u = Value.float b t
  | .ref a, u => u = Value.ref a
  | .ty n, u => u = Value.type n
abbrev Vals : List V → List Value → Prop := Paired RelV
theorem Vals.length {xs : List V} {us : List Value} (r : Vals xs us) : xs.length = us.length := Paired.length r
theorem Vals.get : ∀ {xs : List V} {us : List Value} {i : Nat} {x : V}, Vals xs us → xs[i]? = some x → ∃ u, us[i]? = some u ∧ RelV x u
  | _, _, _, _, .nil, e => by simp at e
  | _, _, 0, _, .cons r _, e => by simp at e; subst e; exact ⟨_, rfl, r⟩
  | _, _, i + 1, x, .cons _ t, e => by
    obtain ⟨u, h1, h2⟩ := Vals.get (i := i) (x := x) t (by simpa using e)
    exact ⟨u, by simpa using h1, h2⟩
theorem Vals.set {x : V} {u : Value} (r : RelV x u) : ∀ {xs : List V} {us : List Value} (i : Nat), Vals xs us → Vals (xs.set i x) (us.set i u)
  | _, _, _, .nil => .nil
  | _, _, 0, .cons _ t => .cons r t
  | _, _, i + 1, .cons q t => .cons q (Vals.set r i t)
theorem Vals.append : ∀ {xs ys : List V} {us ws : List Value}, Vals xs us → Vals ys ws → Vals (xs ++ ys) (us ++ ws)
  | _, _, _, _, .nil, s => s
  | _, _, _, _, .cons r t, s => .cons r (Vals.append t s)
theorem Vals.take : ∀ {xs : List V} {us : List Value} (n : Nat), Vals xs us → Vals (xs.take n) (us.take n)
  | _, _, 0, _ => .nil
  | _, _, _ + 1, .nil => .nil
  | _, _, n + 1, .cons r t => .cons r (Vals.take n t)
theorem Vals.drop : ∀ {xs : List V} {us : List Value} (n : Nat), Vals xs us → Vals (xs.drop n) (us.drop n)
  | _, _, 0, r => r
  | _, _, _ + 1, .nil => .nil
  | _, _, n + 1, .cons _ t => Vals.drop n t
def RelO : Option V → Option Value → Prop
  | some v, some u => RelV v u
  | none, none => True
  | _, _ => False
def KV {κ : Type} : List (κ × V) → List (κ × Value) → Prop := Paired fun (p : κ × V) (q : κ × Value) => p.1 = q.1 ∧ RelV p.2 q.2
def kV : Key → V
  | .inl i => .int i
  | .inr x => .str x
inductive HO where
  | lst (xs : List V)
  | tup (xs : List V)
  | dK (kvs : List (Key × V)) | dT (kvs : List (List Key × V))
  | set (S : Int → Bool) (n : Nat)
  | ins (C dx : Addr) (fs : List (Str × V))
  | own (x : Addr)
  | xd (fs : List (Str × V))
  | met (f x : Addr)
  | rng (lo hi : Int)
  | frz (o : Obj) (u : HO)
  | tbl (ps : Array Value)
  | ext (φ : Heap → Prop)
abbrev Hp := Addr → Option HO
def upd (H : Hp) (a : Addr) (o : HO) : Hp := fun b => if b = a then some o else H b
theorem upd_same {H : Hp} {a : Addr} {o : HO} : upd H a o a = some o := by unfold upd; rw [if_pos rfl]
theorem upd_ne {H : Hp} {a b : Addr} {o : HO} (h : b ≠ a) : upd H a o b = H b := by unfold upd; rw [if_neg h]
theorem upd_upd {H : Hp} {a : Addr} {o u : HO} : upd (upd H a o) a u = upd H a u := by
  funext b; unfold upd; split <;> rfl
theorem ne_of {H : Hp} {a b : Addr} {o u : HO} (h : H a = some o) (h' : H b = some u) (d : o ≠ u) : a ≠ b := by
  intro e; subst e; rw [h] at h'; exact d (Option.some.inj h')
theorem ne_of_none {H : Hp} {a b : Addr} {o : HO} (h : H a = some o) (h' : H b = none) : a ≠ b := by
  intro e; subst e; rw [h] at h'; cases h'
section
variable (P : Program) (w : World)
def ObjOk (H : Hp) (h : Heap) (a : Addr) : HO → Prop
  | .lst xs => xs.length ≤ sizeLine ∧ ∃ (its : List Value) (n : Nat), Vals xs its ∧ h.get? a = some { cls := .type "list", data := .seq its.toArray n }
  | .tup xs => xs.length ≤ sizeLine ∧ ∃ its : List Value, Vals xs its ∧ IsTup h a its.toArray
  | .dK kvs => kvs.length ≤ sizeLine ∧ (a == sysModules) = false ∧ ∃ vs, KV kvs vs ∧ h.DictOf (mixKind P w) a vs
  | .dT kvs => kvs.length ≤ sizeLine ∧ (a == sysModules) = false ∧ ∃ xs : List (List Key × Addr × Value),
      Paired (fun (p : List Key × V) (q : List Key × Addr × Value) => p.1 = q.1 ∧ H q.2.1 = some (.tup (p.1.map kV)) ∧ RelV p.2 q.2.2) kvs xs ∧
      ∃ o es ep, h.get? a = some o ∧ o.ExactDict ∧ o.data = .dict es ep ∧ es.toList = xs.map (entryOfKey (tupleKind (mixKind P w))) ∧ (xs.map (·.1)).Nodup
  | .set S n => h.SetOf (intKind P w) a S n
  | .ins C dx fs => H dx = some (.own a) ∧ fs.length ≤ 1000 ∧ dx ≠ a ∧ h.get? a = some (PySem.W.instObj C dx) ∧
      ∃ mA, h.Ns1 dx mA ∧ (∀ f, RelO (fs.lookup f) (mA f)) ∧ PySem.Within mA (fs.map (·.1))
  | .own _ => ∃ o, h.get? a = some o
  | .xd fs => ∃ mA, h.Ns1 a mA ∧ ∀ f, RelO (fs.lookup f) (mA f)
  | .rng lo hi => ∃ t u v, h.get? a = some { cls := .type "range", data := .fields #[.int lo t, .int hi u, .int 1 v] }
  | .frz o u => h.get? a = some o ∧ ObjOk H h a u
  | .tbl ps => h.get? a = some { cls := .none, data := .fields ps }
  | .met f x => h.get? a = some (PySem.W.methodObj (.ref f) (.ref x))
  | .ext φ => φ h ∧ (∃ o, h.get? a = some o) ∧ ∀ h1 h2 : Heap, φ h1 → (∀ o, h1.get? a = some o → h2.get? a = some o) → φ h2
def HOk (H : Hp) (h : Heap) : Prop := ∀ a o, H a = some o → ObjOk P w H h a o
end
section
variable {P : Program} {w : World} {H H' : Hp} {h h' : Heap} {a : Addr} {o : HO}
theorem ObjOk.lt (x : ObjOk P w H h a o) : a < h.objs.size := by
  cases o with
  | lst xs => obtain ⟨_, _, _, _, e⟩ := x; exact Heap.lt_size e
  | tup xs => obtain ⟨_, _, _, p⟩ := x; exact p.lt
  | dK kvs => obtain ⟨_, _, _, _, o, _, _, e, _⟩ := x; exact Heap.lt_size e
  | dT kvs => obtain ⟨_, _, _, _, o, _, _, e, _⟩ := x; exact Heap.lt_size e
  | set S n => obtain ⟨o, _, _, _, e, _⟩ := x; exact Heap.lt_size e
  | ins C dx fs => obtain ⟨_, _, _, e, _⟩ := x; exact Heap.lt_size e
  | own y => obtain ⟨_, e⟩ := x; exact Heap.lt_size e
  | xd fs => obtain ⟨_, ⟨_, _, _, e, _⟩, _⟩ := x; exact Heap.lt_size e
  | rng lo hi => obtain ⟨_, _, _, e⟩ := x; exact Heap.lt_size e
  | frz ob u => obtain ⟨e, _⟩ := x; exact Heap.lt_size e
  | tbl ps => exact Heap.lt_size (show h.get? a = some _ from x)
  | met f y => exact Heap.lt_size (show h.get? a = some _ from x)
  | ext φ => obtain ⟨_, ⟨_, e⟩, _⟩ := x; exact Heap.lt_size e
theorem Paired.mapP {α β : Type} {F G : α → β → Prop} : ∀ {l₁ : List α} {l₂ : List β}, Paired F l₁ l₂ → (∀ a b, F a b → G a b) → Paired G l₁ l₂
  | _, _, .nil, _ => .nil
  | _, _, .cons r t, f => .cons (f _ _ r) (Paired.mapP t f)
theorem ObjOk.stay (x : ObjOk P w H h a o) (k : ∀ b u, (b = a ∨ H b = some (.own a)) → h.get? b = some u → h'.get? b = some u)
    (ho : ∀ b, H b = some (.own a) → H' b = some (.own a)) (ht : ∀ b xs, H b = some (.tup xs) → H' b = some (.tup xs)) : ObjOk P w H' h' a o := by
  induction o with
  | lst xs => obtain ⟨z, its, n, r, e⟩ := x; exact ⟨z, its, n, r, k _ _ (.inl rfl) e⟩
  | tup xs => obtain ⟨z, its, r, ob, e, c⟩ := x; exact ⟨z, its, r, ob, k _ _ (.inl rfl) e, c⟩
  | dK kvs => obtain ⟨z, y, vs, r, ob, es, ep, e, c⟩ := x; exact ⟨z, y, vs, r, ob, es, ep, k _ _ (.inl rfl) e, c⟩
  | dT kvs =>
    obtain ⟨z, y, xs, r, ob, es, ep, e, c⟩ := x
    exact ⟨z, y, xs, Paired.mapP r fun p q z => ⟨z.1, ht _ _ z.2.1, z.2.2⟩, ob, es, ep, k _ _ (.inl rfl) e, c⟩
  | set S n => obtain ⟨ob, es, ep, t, e, c⟩ := x; exact ⟨ob, es, ep, t, k _ _ (.inl rfl) e, c⟩
  | ins C dx fs =>
    obtain ⟨d, z, ne, e, mA, ⟨od, es, ep, e2, c⟩, r⟩ := x
    exact ⟨ho _ d, z, ne, k _ _ (.inl rfl) e, mA, ⟨od, es, ep, k _ _ (.inr d) e2, c⟩, r⟩
  | own y => obtain ⟨ob, e⟩ := x; exact ⟨ob, k _ _ (.inl rfl) e⟩
  | xd fs => obtain ⟨mA, ⟨od, es, ep, e, c⟩, r⟩ := x; exact ⟨mA, ⟨od, es, ep, k _ _ (.inl rfl) e, c⟩, r⟩
  | rng lo hi => obtain ⟨t, u, v, e⟩ := x; exact ⟨t, u, v, k _ _ (.inl rfl) e⟩
  | frz ob u ih => obtain ⟨e, q⟩ := x; exact ⟨k _ _ (.inl rfl) e, ih q⟩
  | tbl ps =>
    have e : h.get? a = some { cls := .none, data := .fields ps } := x
    show h'.get? a = some { cls := .none, data := .fields ps }
    exact k a _ (.inl rfl) e
  | met f y =>
    have e : h.get? a = some (PySem.W.methodObj (.ref f) (.ref y)) := x
    show h'.get? a = some (PySem.W.methodObj (.ref f) (.ref y))
    exact k a _ (.inl rfl) e
  | ext φ => obtain ⟨p, ⟨o, e⟩, st⟩ := x; exact ⟨st _ _ p fun o q => k _ _ (.inl rfl) q, ⟨o, k _ _ (.inl rfl) e⟩, st⟩
theorem HOk.lt (x : HOk P w H h) (e : H a = some o) : a < h.objs.size := (x a o e).lt
theorem HOk.fresh (x : HOk P w H h) (e : h.objs.size ≤ a) : H a = none := by
  cases q : H a with
  | none => rfl
  | some u => exact absurd (Nat.lt_of_lt_of_le (x.lt q) e) (Nat.lt_irrefl _)
theorem HOk.kept (x : HOk P w H h) (k : ∀ b u, h.get? b = some u → h'.get? b = some u) : HOk P w H h' := fun a o e =>
  (x a o e).stay (fun b u _ q => k b u q) (fun _ q => q) fun _ _ q => q
theorem HOk.laid (x : HOk P w H h) (k : ∀ b u, h.get? b = some u → h'.get? b = some u) (hp : h.objs.size ≤ a) (new : ObjOk P w (upd H a o) h' a o) : HOk P w (upd H a o) h' := fun b u e => by
  have hn := x.fresh hp
  by_cases hb : b = a
  · subst hb; rw [upd_same] at e; cases e; exact new
  · rw [upd_ne hb] at e
    exact (x b u e).stay (fun c v _ q => k c v q) (fun c q => by rw [upd_ne (ne_of_none q hn)]; exact q) fun c xs q => by rw [upd_ne (ne_of_none q hn)]; exact q
end
def Rd (H : Hp) (a : Addr) (u : HO) : Prop := H a = some u ∨ ∃ o, H a = some (.frz o u)
theorem Rd.of {H : Hp} {a : Addr} {u : HO} (h : H a = some u) : Rd H a u := .inl h
theorem Rd.ok {P : Program} {w : World} {H : Hp} {h : Heap} {a : Addr} {u : HO} (r : Rd H a u) (x : HOk P w H h) : ObjOk P w H h a u := by
  rcases r with r | ⟨o, r⟩
  · exact x a u r
  · obtain ⟨_, q⟩ := x a _ r
    exact q
def Mut : Option HO → Prop
  | some (.lst _) => True
  | some (.dK _) => True
  | some (.dT _) => True
  | some (.set _ _) => True
  | some (.ins _ _ _) => True
  | some (.ext _) => True
  | _ => False
section
variable {P : Program} {w : World} {H : Hp} {h h' : Heap} {x e : Addr} {o' : HO}
theorem HOk.write (ok : HOk P w H h) (mu : Mut (H x)) (he : e = x ∨ H e = some (.own x)) (k : ∀ b u, b ≠ e → h.get? b = some u → h'.get? b = some u) (heo : ∃ u, h'.get? e = some u)
    (new : ObjOk P w (upd H x o') h' x o') : HOk P w (upd H x o') h' := fun b u q => by
  have nown : ∀ c y, H c = some (.own y) → c ≠ x := fun c y r z => by subst z; rw [r] at mu; exact mu
  have ntup : ∀ c xs, H c = some (.tup xs) → c ≠ x := fun c xs r z => by subst z; rw [r] at mu; exact mu
  by_cases hb : b = x
  · subst hb; rw [upd_same] at q; cases q; exact new
  · rw [upd_ne hb] at q
    by_cases hbe : b = e
    · have q' : H b = some (.own x) := by
        rcases he with z | z
        · exact absurd (hbe.trans z) hb
        · rw [hbe]; exact z
      rw [q] at q'; cases q'
      obtain ⟨v, hv⟩ := heo
      exact ⟨v, by rw [hbe]; exact hv⟩
    · refine (ok b u q).stay (fun c v hc r => k c v ?_ r) (fun c r => by rw [upd_ne (nown c b r)]; exact r) fun c xs r => by rw [upd_ne (ntup c xs r)]; exact r
      rcases hc with rfl | hc
      · exact hbe
      · rintro rfl
        rcases he with z | z
        · exact nown c b hc z
        · rw [hc] at z; cases z; exact hb rfl
end
structure Un (fs ex : List Addr) (H H' : Hp) (h h' : Heap) : Prop where
  keep : ∀ b o, h.get? b = some o → H b = none → b ∉ fs → b ∉ ex → h'.get? b = some o
  slot : ∀ b o, h.get? b = some o → H b = none → b ∈ fs → b ∉ ex → ∃ sl, h'.get? b = some { o with slots := sl }
  free : ∀ b o, h.get? b = some o → H b = none → b ∉ ex → H' b = none
  there : ∀ b o, h.get? b = some o → b ∉ ex → ∃ o', h'.get? b = some o'
  tups : ∀ b xs, H b = some (.tup xs) → H' b = some (.tup xs)
  frzs : ∀ b o u, H b = some (.frz o u) → H' b = some (.frz o u)
  tbls : ∀ b ps, H b = some (.tbl ps) → ∃ more, H' b = some (.tbl (ps ++ more))
section
variable {fs fs' ex ex' : List Addr} {H H1 H2 : Hp} {h h1 h2 h' : Heap} {a x e : Addr} {o : HO}
theorem Un.any (u : Un fs ex H H1 h h1) {b : Addr} {ob : Obj} (q : h.get? b = some ob) (n : H b = none) (hx : b ∉ ex) : ∃ sl, h1.get? b = some { ob with slots := sl } := by
  by_cases hb : b ∈ fs
  · exact u.slot b ob q n hb hx
  · exact ⟨ob.slots, u.keep b ob q n hb hx⟩
theorem Un.trans (a : Un fs ex H H1 h h1) (b : Un fs ex H1 H2 h1 h2) : Un fs ex H H2 h h2 where
  keep := fun c ob q n hc hx => b.keep c ob (a.keep c ob q n hc hx) (a.free c ob q n hx) hc hx
  slot := fun c ob q n hc hx => by
    obtain ⟨sl, e1⟩ := a.slot c ob q n hc hx
    obtain ⟨sl', e2⟩ := b.slot c _ e1 (a.free c ob q n hx) hc hx
    exact ⟨sl', e2⟩
  free := fun c ob q n hx => by
    obtain ⟨o', e1⟩ := a.there c ob q hx
    exact b.free c o' e1 (a.free c ob q n hx) hx
  there := fun c ob q hx => by
    obtain ⟨o', e1⟩ := a.there c ob q hx
    exact b.there c o' e1 hx
  tups := fun c xs q => b.tups c xs (a.tups c xs q)
  frzs := fun c ob xs q => b.frzs c ob xs (a.frzs c ob xs q)
  tbls := fun c ps q => by
    obtain ⟨m1, e1⟩ := a.tbls c ps q
    obtain ⟨m2, e2⟩ := b.tbls c _ e1
    exact ⟨m1 ++ m2, by rw [e2, Array.append_assoc]⟩
theorem Un.kept (k : ∀ b u, h.get? b = some u → h'.get? b = some u) : Un fs ex H H h h' :=
  ⟨fun b ob q _ _ _ => k b ob q, fun b ob q _ _ _ => ⟨ob.slots, k b ob q⟩, fun _ _ _ n _ => n, fun b ob q _ => ⟨ob, k b ob q⟩, fun _ _ q => q, fun _ _ _ q => q, fun _ ps q => ⟨#[], by rw [q]; simp⟩⟩
theorem Un.refl : Un fs ex H H h h := Un.kept fun _ _ q => q
theorem Un.laid (k : ∀ b u, h.get? b = some u → h'.get? b = some u) (hp : h.objs.size ≤ a) (hn : H a = none) : Un fs ex H (upd H a o) h h' where
  keep := fun b u q _ _ _ => k b u q
  slot := fun b u q _ _ _ => ⟨u.slots, k b u q⟩
  free := fun b u q n _ => by rw [upd_ne (Nat.ne_of_lt (Nat.lt_of_lt_of_le (Heap.lt_size q) hp))]; exact n
  there := fun b u q _ => ⟨u, k b u q⟩
  tups := fun b xs q => by rw [upd_ne (ne_of_none q hn)]; exact q
  frzs := fun b u xs q => by rw [upd_ne (ne_of_none q hn)]; exact q
  tbls := fun b ps q => ⟨#[], by rw [upd_ne (ne_of_none q hn), q]; simp⟩
theorem Un.write (mu : Mut (H x)) (he : e = x ∨ H e = some (.own x)) (k : ∀ b u, b ≠ e → h.get? b = some u → h'.get? b = some u) (heo : ∃ u, h'.get? e = some u) : Un fs ex H (upd H x o) h h' := by
  have hx : ∀ b, H b = none → b ≠ x := fun b n z => by subst z; rw [n] at mu; exact mu
  have hb : ∀ b, H b = none → b ≠ e := fun b n z => by
    subst z
    rcases he with r | r
    · exact hx b n r
    · rw [n] at r; cases r
  have hm : ∀ b u, H b = some u → ¬ Mut (some u) → b ≠ x := fun b u q nm z => by subst z; rw [q] at mu; exact nm mu
  refine ⟨fun b u q n _ _ => k b u (hb b n) q, fun b u q n _ _ => ⟨u.slots, k b u (hb b n) q⟩, fun b u q n _ => by rw [upd_ne (hx b n)]; exact n, fun b u q _ => ?_,
    fun b xs q => by rw [upd_ne (hm b _ q fun z => z)]; exact q, fun b u xs q => by rw [upd_ne (hm b _ q fun z => z)]; exact q, fun b ps q => ⟨#[], by rw [upd_ne (hm b _ q fun z => z), q]; simp⟩⟩
  by_cases hbe : b = e
  · subst hbe; exact heo
  · exact ⟨u, k b u hbe q⟩
theorem Un.mono (u : Un fs ex H H1 h h1) (hs : ∀ b ∈ fs, b ∈ fs') (hx : ∀ b ∈ ex, b ∈ ex') : Un fs' ex' H H1 h h1 :=
  ⟨fun b ob q n hb he => u.keep b ob q n (fun z => hb (hs b z)) fun z => he (hx b z), fun _ _ q n _ he => u.any q n fun z => he (hx _ z), fun b ob q n he => u.free b ob q n fun z => he (hx b z), fun b ob q he => u.there b ob q fun z => he (hx b z), u.tups, u.frzs, u.tbls⟩
end
def trk (h : Heap) (H : Hp) : List Addr := (List.range h.objs.size).filter fun a => (H a).isSome
def hidT (h : Heap) (H : Hp) : Heap := PySem.W.hideAll h (trk h H)
theorem hidT_size (h : Heap) (H : Hp) : (hidT h H).objs.size = h.objs.size := PySem.W.hideAll_size _ _
theorem hidT_get {h : Heap} {H : Hp} {b : Addr} {o : Obj} (e : h.get? b = some o) (n : H b = none) : (hidT h H).get? b = some o :=
  PySem.W.hideAll_get _ e fun hm => by
    have q : (H b).isSome = true := (List.mem_filter.mp hm).2
    rw [n] at q; simp at q
theorem of_hidT {h : Heap} {H : Hp} {b : Addr} {o : Obj} (e : (hidT h H).get? b = some o) : h.get? b = some o ∧ H b = none := by
  have e' : h.get? b = some o := PySem.W.of_hideAll (trk h H) e
  refine ⟨e', ?_⟩
  cases q : H b with
  | none => rfl
  | some x =>
    have hm : b ∈ trk h H := List.mem_filter.mpr ⟨List.mem_range.mpr (Heap.lt_size e'), by simp [q]⟩
    have z : (hidT h H).get? b = none := PySem.W.hideAll_none (trk h H) hm
    rw [z] at e; cases e
def allNews (g h : Heap) (L : Addr) : List (Addr × Obj) := (List.range h.objs.size).filterMap fun a => if a = L ∨ (g.get? a).isSome = true then none else (h.get? a).map fun o => (a, o)
def rest (g h : Heap) (L d : Addr) : List (Addr × Obj) := (allNews g h L).filter fun p => decide (p.1 ≠ d)
end L2
namespace L2
open PySem PySem.Spec PyProof.Rows
structure Mod (K : PySem.W.Frag) (mg : Str → Option Value) (base : Heap) : Prop where
  kin : K.In base
  glob : base.Ns mainGlobals mg
  blt : ∃ mb, base.Ns builtinsNs mb ∧ ∀ x : Str, x ≠ "__name__" → mb x = bootBuiltins x
  nolimit : base.NoLimit
structure Cx where
  prog : Program
  w : World
  K : PySem.W.Frag
  mg : Str → Option Value
  base : Heap
  A : Around
  N : List Str
  s₀ : Shared
  H₀ : Hp
  env : Env
  outer : List Env
  stack : List Env
  ex : List Addr
  fn : Str → Bool
  calm : Bool
  pn : List (Addr × Obj)
  xe : Value → Shared → Prop
def frs (l : List Env) : List Addr := l.filterMap (·.frame)
abbrev Cx.fs (X : Cx) : List Addr := frs X.outer
def Vis (sc : Scope) (x : Str) : Prop := sc.names.lookup x = some .local ∨ sc.names.lookup x = some .cell ∨ sc.names.lookup x = some .free
def Loc (sc : Scope) (x : Str) : Prop := sc.names.lookup x = some .local ∨ sc.names.lookup x = some .cell
def Look (env : Env) (h : Heap) (m : Str → Option Value) (x : Str) (u : Value) : Prop :=
  (env.kindOf x = some .local ∧ m x = some u) ∨ ((env.kindOf x = some .cell ∨ env.kindOf x = some .free) ∧ ∃ c, env.cells.lookup x = some c ∧ h.IsCell c (some u))
structure Cx.Ok (X : Cx) : Prop where
  mod : Mod X.K X.mg X.base
  kind : X.env.scope.kind = .function
  glob : X.env.globals = mainGlobals
  blt : X.env.builtins = builtinsNs
  above : X.s₀.heap.objs.size ≤ X.env.locals
  inj : ∀ x y c, X.env.cells.lookup x = some c → X.env.cells.lookup y = some c → x = y
  has : ∀ x, (X.env.kindOf x = some .cell ∨ X.env.kindOf x = some .free) → ∃ c, X.env.cells.lookup x = some c
  cab : ∀ x c, X.fn x = true → X.env.cells.lookup x = some c → X.s₀.heap.objs.size ≤ c
  hd : X.calm = true → X.A.handled = none
  frames : X.A.frames = some X.stack
  stk : X.stack = X.outer ∨ (X.stack = X.env :: X.outer ∧ X.env.frame = some X.env.locals)
  exf : ∀ b ∈ X.ex, b ≠ X.env.locals ∧ ∀ x c, X.env.cells.lookup x = some c → c ≠ b
  bs : ∀ b o, X.base.get? b = some o → X.s₀.heap.get? b = some o ∧ X.H₀ b = none
  bsz : X.base.objs.size ≤ X.s₀.heap.objs.size
  noex : ∀ b o, X.base.get? b = some o → b ∉ X.ex
  exfs : ∀ b ∈ X.ex, b ∉ X.fs
  funs : X.s₀.heap.FunFrames X.base X.outer
  frf : ∀ b ∈ X.fs, X.H₀ b = none
structure Inv (X : Cx) (pins : List (Addr × Obj)) (σ : List (Option V)) (H : Hp) (s : Shared) : Prop where
  ok : X.Ok
  os : s.os = X.s₀.os
  bare : AllBare s.gens
  base : Un X.fs X.ex X.H₀ H X.s₀.heap s.heap
  loc : ∃ m, s.heap.Ns X.env.locals m ∧ ∀ (i : Nat) (x : Str) (v : V), X.N[i]? = some x → σ[i]? = some (some v) → Vis X.env.scope x → ∃ u, RelV v u ∧ Look X.env s.heap m x u
  cell : ∀ x c, X.env.cells.lookup x = some c → ∃ v, s.heap.IsCell c v
  free : H X.env.locals = none
  freeC : ∀ x c, X.env.cells.lookup x = some c → H c = none
  pin : ∀ p ∈ X.pn ++ pins, s.heap.get? p.1 = some p.2 ∧ H p.1 = none ∧ p.1 ≠ X.env.locals ∧ p.1 ∉ X.fs ∧ ∀ v, p.2.data ≠ .cell v
  hok : HOk X.prog X.w H s.heap
  len : σ.length = X.N.length
section
variable {X : Cx} {pins : List (Addr × Obj)} {σ : List (Option V)} {H H' : Hp} {s : Shared} {h' : Heap}
theorem Cx.Ok.nofr (ok : X.Ok) {b : Addr} {o : Obj} (e : X.base.get? b = some o) : b ∉ X.fs := fun hb => by
  have := (ok.funs.mem hb).1
  rw [e] at this; cases this
theorem Inv.bs (I : Inv X pins σ H s) : ∀ b o, X.base.get? b = some o → s.heap.get? b = some o ∧ H b = none := fun b o e =>
  ⟨I.base.keep b o (I.ok.bs b o e).1 (I.ok.bs b o e).2 (I.ok.nofr e) (I.ok.noex b o e), I.base.free b o (I.ok.bs b o e).1 (I.ok.bs b o e).2 (I.ok.noex b o e)⟩
theorem Inv.bk (I : Inv X pins σ H s) : ∀ b o, X.base.get? b = some o → s.heap.get? b = some o := fun b o e => (I.bs b o e).1
theorem Inv.mod (I : Inv X pins σ H s) : Mod X.K X.mg X.base := I.ok.mod
theorem Inv.kIn (I : Inv X pins σ H s) : X.K.In s.heap := I.ok.mod.kin.keeps I.bk
theorem Inv.nolimit (I : Inv X pins σ H s) : s.heap.NoLimit := I.ok.mod.nolimit.keeps I.bk
theorem Inv.fr (I : Inv X pins σ H s) : ∃ m, Fr X.base X.env.locals s.heap m :=
  let ⟨m, hn, _⟩ := I.loc
  ⟨m, hn, I.bk, Nat.le_trans I.ok.bsz I.ok.above⟩
theorem Inv.lt (I : Inv X pins σ H s) : X.env.locals < s.heap.objs.size := let ⟨_, hn, _⟩ := I.loc; hn.lt
theorem Inv.sz (I : Inv X pins σ H s) : X.s₀.heap.objs.size ≤ s.heap.objs.size := Nat.le_trans I.ok.above (Nat.le_of_lt I.lt)
theorem Inv.nofs (I : Inv X pins σ H s) {a : Addr} (h : s.heap.objs.size ≤ a) : a ∉ X.fs := fun hb => by
  obtain ⟨_, o, ho, _⟩ := I.ok.funs.mem hb
  exact absurd (Nat.lt_of_lt_of_le (Heap.lt_size ho) (Nat.le_trans I.sz h)) (Nat.lt_irrefl _)
theorem Inv.cne (I : Inv X pins σ H s) : ∀ x c, X.env.cells.lookup x = some c → c ≠ X.env.locals := fun x c e z => by
  obtain ⟨v, o, ho, hd⟩ := I.cell x c e
  obtain ⟨m, ⟨o', es, ep, ho', hd', _⟩, _⟩ := I.loc
  rw [z, ho'] at ho; cases ho; rw [hd'] at hd; cases hd
theorem Inv.funs (I : Inv X pins σ H s) : s.heap.FunFrames X.base X.outer := by
  have all : ∀ (l : List Env), (∀ b ∈ frs l, b ∈ X.fs) → X.s₀.heap.FunFrames X.base l → s.heap.FunFrames X.base l := by
    intro l
    induction l with
    | nil => intro _ _; trivial
    | cons env r ih =>
      intro hs hl
      obtain ⟨hk, ⟨L, o, hf, hn, ho, hd⟩, hr⟩ := hl
      have hL : L ∈ X.fs := hs L (by unfold frs; rw [List.filterMap_cons, hf]; exact List.mem_cons_self)
      obtain ⟨sl, e⟩ := I.base.slot L o ho (I.ok.frf L hL) hL fun z => I.ok.exfs L z hL
      exact ⟨hk, ⟨L, _, hf, hn, e, hd⟩, ih (fun b hb => hs b (by unfold frs; rw [List.filterMap_cons, hf]; exact List.mem_cons_of_mem _ hb)) hr⟩
  exact all X.outer (fun _ hb => hb) I.ok.funs
theorem Inv.stack (I : Inv X pins σ H s) : s.heap.FunFrames X.base X.stack := by
  rcases I.ok.stk with e | ⟨e, hf⟩
  · rw [e]; exact I.funs
  · rw [e]
    obtain ⟨m, hn, _⟩ := I.loc
    refine .cons (by rw [I.ok.kind]; decide) hf hn ?_ I.funs
    exact Heap.get?_none_of_le (Nat.le_trans I.ok.bsz I.ok.above)
theorem Inv.stkSub (I : Inv X pins σ H s) : ∀ b ∈ frs X.stack, b ∈ X.env.locals :: X.fs := fun b hb => by
  rcases I.ok.stk with e | ⟨e, hf⟩
  · rw [e] at hb; exact List.mem_cons_of_mem _ hb
  · rw [e] at hb
    unfold frs at hb
    rw [List.filterMap_cons, hf] at hb
    exact hb
theorem Inv.stkFree (I : Inv X pins σ H s) : ∀ b ∈ frs X.stack, H b = none := fun b hb => by
  rcases List.mem_cons.mp (I.stkSub b hb) with e | hb
  · rw [e]; exact I.free
  · obtain ⟨_, o, ho, _⟩ := I.ok.funs.mem hb
    exact I.base.free b o ho (I.ok.frf b hb) fun z => I.ok.exfs b z hb
theorem Inv.step {g' : Array GenState} {t' : Nat} {d' : Drawn} {ch : List Addr} (I : Inv X pins σ H s)
    (hch : ∀ b ∈ ch, (b ∈ X.ex ∨ X.s₀.heap.objs.size ≤ b) ∧ b ≠ X.env.locals ∧ (∀ x c, X.env.cells.lookup x = some c → c ≠ b) ∧ ∀ p ∈ X.pn ++ pins, p.1 ≠ b)
    (keep : ∀ b o, b ≠ X.env.locals → b ∉ X.fs → b ∉ ch → s.heap.get? b = some o → H b = none → h'.get? b = some o)
    (slot : ∀ b o, b ≠ X.env.locals → b ∈ X.fs → b ∉ ch → s.heap.get? b = some o → H b = none → ∃ sl, h'.get? b = some { o with slots := sl }) (free : ∀ b o, b ∉ ch → s.heap.get? b = some o → H b = none → H' b = none)
    (there : ∀ b o, b ∉ ch → s.heap.get? b = some o → ∃ o', h'.get? b = some o')
    (tups : ∀ b xs, H b = some (.tup xs) → H' b = some (.tup xs)) (frzs : ∀ b o u, H b = some (.frz o u) → H' b = some (.frz o u)) (tbls : ∀ b ps, H b = some (.tbl ps) → ∃ more, H' b = some (.tbl (ps ++ more)))
    (ns : ∀ m, s.heap.Ns X.env.locals m → h'.Ns X.env.locals m) (hok : HOk X.prog X.w H' h') (hg : AllBare g') :
    Inv X pins σ H' { s with heap := h', gens := g', drawn := d', toks := t' } := by
  have neL : ∀ b o, X.s₀.heap.get? b = some o → b ≠ X.env.locals := fun b o e => Nat.ne_of_lt (Nat.lt_of_lt_of_le (Heap.lt_size e) I.ok.above)
  have neC : ∀ b o, X.s₀.heap.get? b = some o → b ∉ X.ex → b ∉ ch := fun b o e hx hb => by
    rcases (hch b hb).1 with z | z
    · exact hx z
    · exact absurd (Nat.lt_of_lt_of_le (Heap.lt_size e) z) (Nat.lt_irrefl _)
  have cellK : ∀ x c, X.env.cells.lookup x = some c → ∀ v, s.heap.IsCell c v → h'.IsCell c v := fun x c e v ⟨o, ho, hd⟩ => by
    have nch : c ∉ ch := fun z => (hch c z).2.2.1 x c e rfl
    by_cases hc : c ∈ X.fs
    · obtain ⟨sl, q⟩ := slot c o (I.cne x c e) hc nch ho (I.freeC x c e)
      exact ⟨_, q, hd⟩
    · exact ⟨o, keep c o (I.cne x c e) hc nch ho (I.freeC x c e), hd⟩
  refine ⟨I.ok, I.os, hg, ⟨fun b o e n hb hx => ?_, fun b o e n hb hx => ?_, fun b o e n hx => ?_, fun b o e hx => ?_, fun b xs e => tups b xs (I.base.tups b xs e), fun b o xs e => frzs b o xs (I.base.frzs b o xs e), fun b ps e => ?_⟩, ?_, fun x c e => ?_, ?_, fun x c e => ?_, fun p hp => ?_, hok, I.len⟩
  · exact keep b o (neL b o e) hb (neC b o e hx) (I.base.keep b o e n hb hx) (I.base.free b o e n hx)
  · obtain ⟨sl, e1⟩ := I.base.slot b o e n hb hx
    obtain ⟨sl', e2⟩ := slot b _ (neL b o e) hb (neC b o e hx) e1 (I.base.free b o e n hx)
    exact ⟨sl', e2⟩
  · obtain ⟨o', e1⟩ := I.base.there b o e hx
    exact free b o' (neC b o e hx) e1 (I.base.free b o e n hx)
  · obtain ⟨o', e1⟩ := I.base.there b o e hx
    exact there b o' (neC b o e hx) e1
  · obtain ⟨m1, e1⟩ := I.base.tbls b ps e
    obtain ⟨m2, e2⟩ := tbls b _ e1
    exact ⟨m1 ++ m2, by rw [e2, Array.append_assoc]⟩
  · obtain ⟨m, hn, hl⟩ := I.loc
    refine ⟨m, ns m hn, fun i x v e1 e2 e3 => ?_⟩
    obtain ⟨u, r, l⟩ := hl i x v e1 e2 e3
    refine ⟨u, r, ?_⟩
    rcases l with l | ⟨k, c, e, z⟩
    · exact .inl l
    · exact .inr ⟨k, c, e, cellK x c e _ z⟩
  · obtain ⟨v, z⟩ := I.cell x c e
    exact ⟨v, cellK x c e v z⟩
  · obtain ⟨m, ⟨o, _, _, ho, _⟩, _⟩ := I.loc
    exact free _ o (fun z => (hch _ z).2.1 rfl) ho I.free
  · obtain ⟨v, o, ho, hd⟩ := I.cell x c e
    exact free c o (fun z => (hch c z).2.2.1 x c e rfl) ho (I.freeC x c e)
  · obtain ⟨e, n, ne, nf, d⟩ := I.pin p hp
    have nch : p.1 ∉ ch := fun z => (hch p.1 z).2.2.2 p hp rfl
    exact ⟨keep p.1 p.2 ne nf nch e n, free p.1 p.2 nch e n, ne, nf, d⟩
theorem Inv.un {t' : Nat} (I : Inv X pins σ H s) (u : Un X.fs [] H H' s.heap h') (hok : HOk X.prog X.w H' h') : Inv X pins σ H' { s with heap := h', toks := t' } := by
  obtain ⟨m, ⟨o, es, ep, ho, r⟩, _⟩ := id I.loc
  obtain ⟨sl, hL⟩ := u.any ho I.free (by simp)
  exact I.step (g' := s.gens) (d' := s.drawn) (ch := []) (fun _ z => nomatch z) (fun b o _ hb _ e n => u.keep b o e n hb (by simp)) (fun b o _ hb _ e n => u.slot b o e n hb (by simp)) (fun b o _ e n => u.free b o e n (by simp)) (fun b o _ e => u.there b o e (by simp)) u.tups u.frzs u.tbls (fun m' hm => by
    obtain ⟨o', es', ep', ho', r'⟩ := hm
    rw [ho] at ho'; cases ho'
    exact ⟨_, es', ep', hL, r'⟩) hok I.bare
theorem Inv.call {g' : Array GenState} {t' : Nat} {d' : Drawn} {ch : List Addr} (I : Inv X pins σ H s) (u : Un (frs X.stack) ch H H' s.heap h') (hok : HOk X.prog X.w H' h') (hg : AllBare g')
    (hch : ∀ b ∈ ch, (b ∈ X.ex ∨ X.s₀.heap.objs.size ≤ b) ∧ b ≠ X.env.locals ∧ (∀ x c, X.env.cells.lookup x = some c → c ≠ b) ∧ ∀ p ∈ X.pn ++ pins, p.1 ≠ b) :
    Inv X pins σ H' { s with heap := h', gens := g', drawn := d', toks := t' } := by
  obtain ⟨m, ⟨o, es, ep, ho, r⟩, _⟩ := id I.loc
  obtain ⟨sl, hL⟩ := u.any ho I.free fun z => (hch _ z).2.1 rfl
  exact I.step (ch := ch) hch (fun b o hL hb hc e n => u.keep b o e n (fun z => (List.mem_cons.mp (I.stkSub b z)).elim hL hb) hc) (fun b o _ _ hc e n => u.any e n hc) (fun b o hc e n => u.free b o e n hc) (fun b o hc e => u.there b o e hc) u.tups u.frzs u.tbls (fun m' hm => by
    obtain ⟨o', es', ep', ho', r'⟩ := hm
    rw [ho] at ho'; cases ho'
    exact ⟨_, es', ep', hL, r'⟩) hok hg
theorem Inv.turned {t' : Nat} {it : Addr} (I : Inv X pins σ H s) (k : ∀ b o, b ≠ it → s.heap.get? b = some o → h'.get? b = some o) (hn : H it = none) (hL : it ≠ X.env.locals)
    (h1 : it ∈ X.ex ∨ X.s₀.heap.objs.size ≤ it) (h2 : ∀ x c, X.env.cells.lookup x = some c → c ≠ it) (h3 : ∀ p ∈ X.pn ++ pins, p.1 ≠ it) : Inv X pins σ H { s with heap := h', toks := t' } := by
  have nit : ∀ b u, H b = some u → b ≠ it := fun b u e z => by rw [z, hn] at e; cases e
  refine I.step (g' := s.gens) (d' := s.drawn) (ch := [it]) (fun b hb => ?_) (fun b o _ _ hc e _ => k b o (fun z => hc (by simp [z])) e) (fun b o _ _ hc e _ => ⟨o.slots, k b o (fun z => hc (by simp [z])) e⟩) (fun _ _ _ _ n => n)
    (fun b o hc e => ⟨o, k b o (fun z => hc (by simp [z])) e⟩) (fun _ _ e => e) (fun _ _ _ e => e) (fun b ps e => ⟨#[], by rw [e]; simp⟩) (fun m hm => ?_) (fun b u e => ?_) I.bare
  · have e : b = it := by simpa using hb
    subst e
    exact ⟨h1, hL, h2, h3⟩
  · obtain ⟨o, es, ep, ho, r⟩ := hm
    exact ⟨o, es, ep, k _ o (Ne.symm hL) ho, r⟩
  · refine (I.hok b u e).stay (fun c v hc q => k c v ?_ q) (fun _ q => q) fun _ _ q => q
    rcases hc with z | z
    · rw [z]; exact nit b u e
    · exact nit c _ z
theorem Inv.tok (I : Inv X pins σ H s) (t : Nat) : Inv X pins σ H { s with toks := t } := I.un (h' := s.heap) (t' := t) Un.refl I.hok
theorem Inv.kept {t' : Nat} (I : Inv X pins σ H s) (k : ∀ b u, s.heap.get? b = some u → h'.get? b = some u) : Inv X pins σ H { s with heap := h', toks := t' } := I.un (Un.kept k) (I.hok.kept k)
theorem Inv.laid {a : Addr} {o : HO} {t' : Nat} (I : Inv X pins σ H s) (k : ∀ b u, s.heap.get? b = some u → h'.get? b = some u) (hp : s.heap.objs.size ≤ a) (new : ObjOk X.prog X.w (upd H a o) h' a o) :
    Inv X pins σ (upd H a o) { s with heap := h', toks := t' } := I.un (Un.laid k hp (I.hok.fresh hp)) (I.hok.laid k hp new)
theorem Inv.write {x e : Addr} {o : HO} {t' : Nat} (I : Inv X pins σ H s) (mu : Mut (H x)) (he : e = x ∨ H e = some (.own x)) (k : ∀ b u, b ≠ e → s.heap.get? b = some u → h'.get? b = some u) (heo : ∃ u, h'.get? e = some u)
    (new : ObjOk X.prog X.w (upd H x o) h' x o) : Inv X pins σ (upd H x o) { s with heap := h', toks := t' } := I.un (Un.write mu he k heo) (I.hok.write mu he k heo new)
theorem Inv.pins_of {pins' : List (Addr × Obj)} (I : Inv X pins σ H s) (h : ∀ p ∈ pins', s.heap.get? p.1 = some p.2 ∧ H p.1 = none ∧ p.1 ≠ X.env.locals ∧ p.1 ∉ X.fs ∧ ∀ v, p.2.data ≠ .cell v) : Inv X pins' σ H s :=
  ⟨I.ok, I.os, I.bare, I.base, I.loc, I.cell, I.free, I.freeC, fun p hp => (List.mem_append.mp hp).elim (fun z => I.pin p (List.mem_append_left _ z)) (h p), I.hok, I.len⟩
theorem nodup_ix {N : List Str} (hN : N.Nodup) {i j : Nat} {x : Str} (a : N[i]? = some x) (b : N[j]? = some x) : i = j := by
  obtain ⟨h1, e1⟩ := List.getElem?_eq_some_iff.mp a
  obtain ⟨h2, e2⟩ := List.getElem?_eq_some_iff.mp b
  exact (List.getElem_inj hN).mp (e1.trans e2.symm)
theorem store_ok2 {M : Model} {A : Around} {E : Value → Shared → Prop} {i : Nat} {x : Str} {v : V} {u : Value} {Q : Unit → Shared → Prop} (I : Inv X pins σ H s) (hN : X.N.Nodup) (hi : X.N[i]? = some x) (hx : Loc X.env.scope x) (r : RelV v u)
    (h : ∀ s', Inv X pins (σ.set i (some v)) H s' → (∃ a, Heap.SameBut a s.heap s'.heap ∧ (a = X.env.locals ∨ X.env.cells.lookup x = some a)) → Q () s') (hf : X.fn x = true ∨ X.env.scope.names.lookup x = some .local := by first | exact .inl rfl | exact .inr rfl | assumption) : wpAny M A (storeName X.env x u) Q E s := by
  obtain ⟨m, hn, hl⟩ := id I.loc
  have hcls : (X.env.scope.kind == .class || (X.env.scope.kind == .module && X.env.locals != X.env.globals)) = false := by rw [I.ok.kind]; rfl
  have hiσ : i < σ.length := by rw [I.len]; exact (List.getElem?_eq_some_iff.mp hi).1
  have cne := I.cne
  have tracked : ∀ {a : Addr} {h' : Heap}, (∃ o, s.heap.get? a = some o ∧ H a = none) → Heap.SameBut a s.heap h' → HOk X.prog X.w H h' := fun {a h'} ha hs b ob e => by
    obtain ⟨_, _, hfree⟩ := ha
    refine (I.hok b ob e).stay (fun c w' hc q => (hs.2 c ?_).trans q) (fun _ q => q) fun _ _ q => q
    rintro rfl
    rcases hc with rfl | hc
    · rw [hfree] at e; cases e
    · rw [hfree] at hc; cases hc
  rcases hx with hk | hk
  · refine wpAny_storeName_local hk hn (fun h' hn' hs => ?_) hcls
    obtain ⟨oL, _, _, hoL, _⟩ := id hn
    refine h _ ⟨I.ok, I.os, I.bare, ⟨fun b o e n hb hx => ?_, fun b o e n hb hx => ?_, I.base.free, fun b o e hx => ?_, I.base.tups, I.base.frzs, I.base.tbls⟩, ⟨_, hn', fun j y v' e1 e2 e3 => ?_⟩, fun y c e => ?_, I.free, I.freeC, fun p hp => ?_, tracked ⟨oL, hoL, I.free⟩ hs, by simpa using I.len⟩ ⟨_, hs, .inl rfl⟩
    · exact (hs.2 b (Nat.ne_of_lt (Nat.lt_of_lt_of_le (Heap.lt_size e) I.ok.above))).trans (I.base.keep b o e n hb hx)
    · obtain ⟨sl, e1⟩ := I.base.slot b o e n hb hx
      exact ⟨sl, (hs.2 b (Nat.ne_of_lt (Nat.lt_of_lt_of_le (Heap.lt_size e) I.ok.above))).trans e1⟩
    · obtain ⟨o', e1⟩ := I.base.there b o e hx
      exact ⟨o', (hs.2 b (Nat.ne_of_lt (Nat.lt_of_lt_of_le (Heap.lt_size e) I.ok.above))).trans e1⟩
    · by_cases hj : j = i
      · subst hj
        rw [hi] at e1; cases e1
        rw [List.getElem?_set_self hiσ] at e2
        cases e2
        exact ⟨u, r, .inl ⟨hk, by simp⟩⟩
      · rw [List.getElem?_set_ne (Ne.symm hj)] at e2
        obtain ⟨u', r', q⟩ := hl j y v' e1 e2 e3
        refine ⟨u', r', ?_⟩
        rcases q with ⟨k, e⟩ | ⟨k, c, e, z⟩
        · refine .inl ⟨k, ?_⟩
          have : y ≠ x := fun e => hj (nodup_ix hN e1 (e ▸ hi))
          simp [this, e]
        · exact .inr ⟨k, c, e, z.sameBut hs (cne y c e)⟩
    · obtain ⟨w', z⟩ := I.cell y c e
      exact ⟨w', z.sameBut hs (cne y c e)⟩
    · obtain ⟨e, n, ne, nf, d⟩ := I.pin p hp
      exact ⟨(hs.2 p.1 ne).trans e, n, ne, nf, d⟩
  · have hfn : X.fn x = true := by
      rcases hf with z | z
      · exact z
      · rw [z] at hk; cases hk
    obtain ⟨c, hc⟩ := I.ok.has x (.inl hk)
    obtain ⟨w', z⟩ := I.cell x c hc
    refine wpAny_storeName_cell I.ok.kind hk hc z (fun h' hc' hs => ?_)
    obtain ⟨oc, hoc, hocd⟩ := id z
    refine h { s with heap := h' } ⟨I.ok, I.os, I.bare, ⟨fun b o e n hb hx => ?_, fun b o e n hb hx => ?_, I.base.free, fun b o e hx => ?_, I.base.tups, I.base.frzs, I.base.tbls⟩, ⟨m, hn.sameBut hs (Ne.symm (cne x c hc)), fun j y v' e1 e2 e3 => ?_⟩, fun y c' e => ?_, I.free, I.freeC, fun p hp => ?_, tracked ⟨oc, hoc, I.freeC x c hc⟩ hs, by simpa using I.len⟩ ⟨c, hs, .inr hc⟩
    · exact (hs.2 b (Nat.ne_of_lt (Nat.lt_of_lt_of_le (Heap.lt_size e) (I.ok.cab x c hfn hc)))).trans (I.base.keep b o e n hb hx)
    · obtain ⟨sl, e1⟩ := I.base.slot b o e n hb hx
      exact ⟨sl, (hs.2 b (Nat.ne_of_lt (Nat.lt_of_lt_of_le (Heap.lt_size e) (I.ok.cab x c hfn hc)))).trans e1⟩
    · obtain ⟨o', e1⟩ := I.base.there b o e hx
      exact ⟨o', (hs.2 b (Nat.ne_of_lt (Nat.lt_of_lt_of_le (Heap.lt_size e) (I.ok.cab x c hfn hc)))).trans e1⟩
    · by_cases hj : j = i
      · subst hj
        rw [hi] at e1; cases e1
        rw [List.getElem?_set_self hiσ] at e2
        cases e2
        exact ⟨u, r, .inr ⟨.inl hk, c, hc, hc'⟩⟩
      · rw [List.getElem?_set_ne (Ne.symm hj)] at e2
        obtain ⟨u', r', q⟩ := hl j y v' e1 e2 e3
        refine ⟨u', r', ?_⟩
        rcases q with q | ⟨k, c', e, z'⟩
        · exact .inl q
        · refine .inr ⟨k, c', e, z'.sameBut hs ?_⟩
          rintro rfl
          exact hj (nodup_ix hN e1 (I.ok.inj _ _ _ e hc ▸ hi))
    · by_cases hcc : c' = c
      · subst hcc; exact ⟨_, hc'⟩
      · obtain ⟨w2, z2⟩ := I.cell y c' e
        exact ⟨w2, z2.sameBut hs hcc⟩
    · obtain ⟨e, n, ne, nf, d⟩ := I.pin p hp
      refine ⟨(hs.2 p.1 ?_).trans e, n, ne, nf, d⟩
      intro q
      rw [q, hoc] at e
      have q' : oc = p.2 := Option.some.inj e
      exact d w' (by rw [← q']; exact hocd)
theorem store_ok {M : Model} {A : Around} {E : Value → Shared → Prop} {i : Nat} {x : Str} {v : V} {u : Value} {Q : Unit → Shared → Prop} (I : Inv X pins σ H s) (hN : X.N.Nodup) (hi : X.N[i]? = some x) (hx : Loc X.env.scope x) (r : RelV v u)
    (h : ∀ s', Inv X pins (σ.set i (some v)) H s' → Q () s') (hf : X.fn x = true ∨ X.env.scope.names.lookup x = some .local := by first | exact .inl rfl | exact .inr rfl | assumption) : wpAny M A (storeName X.env x u) Q E s :=
  store_ok2 I hN hi hx r (fun s' I' _ => h s' I') hf
theorem Inv.call' {s' : Shared} {ch : List Addr} (I : Inv X pins σ H s) (ho : s'.os = s.os) (u : Un (frs X.stack) ch H H' s.heap s'.heap) (hok : HOk X.prog X.w H' s'.heap) (hg : AllBare s'.gens)
    (hch : ∀ b ∈ ch, (b ∈ X.ex ∨ X.s₀.heap.objs.size ≤ b) ∧ b ≠ X.env.locals ∧ (∀ x c, X.env.cells.lookup x = some c → c ≠ b) ∧ ∀ p ∈ X.pn ++ pins, p.1 ≠ b) : Inv X pins σ H' s' := by
  obtain ⟨h', g', d', t', o'⟩ := s'
  have e : o' = s.os := ho
  subst e
  exact I.call (g' := g') (t' := t') (d' := d') u hok hg hch
end
abbrev XK := Value → Option Addr → Hp → Prop
abbrev St := List (Option V)
abbrev VK := V → Hp → Prop
abbrev TE := St → Hp → VK → Prop
abbrev TT := St → Hp → (Bool → Hp → Prop) → Prop
abbrev TA := St → Hp → (List V → Hp → Prop) → Prop
structure Ends where
  nx : St → Hp → Prop
  rt : VK
  bk : St → Hp → Prop := fun _ _ => False
  ct : St → Hp → Prop := fun _ _ => False
abbrev TS := Ends → St → Hp → Prop
def EP (X : Cx) (pins : List (Addr × Obj)) (σ : St) (Q : VK) (u : Value) (s' : Shared) : Prop := ∃ v H', Inv X pins σ H' s' ∧ RelV v u ∧ Q v H'
def TP (X : Cx) (pins : List (Addr × Obj)) (σ : St) (Q : Bool → Hp → Prop) (b : Bool) (s' : Shared) : Prop := ∃ H', Inv X pins σ H' s' ∧ Q b H'
def AP (X : Cx) (pins : List (Addr × Obj)) (σ : St) (Q : List V → Hp → Prop) (us : List Value) (s' : Shared) : Prop := ∃ vs H', Inv X pins σ H' s' ∧ Vals vs us ∧ Q vs H'
def SP (X : Cx) (pins : List (Addr × Obj)) (D : Ends) (f : Flow) (s' : Shared) : Prop :=
  match f with
  | .next => ∃ σ' H', Inv X pins σ' H' s' ∧ D.nx σ' H'
  | .brk => ∃ σ' H', Inv X pins σ' H' s' ∧ D.bk σ' H'
  | .cont => ∃ σ' H', Inv X pins σ' H' s' ∧ D.ct σ' H'
  | .ret u => ∃ v σ' H', Inv X pins σ' H' s' ∧ RelV v u ∧ D.rt v H'
def PE (X : Cx) (e : Expr) (t : TE) : Prop :=
  ∀ (pins : List (Addr × Obj)) (s : Shared) (σ : St) (H : Hp) (Q : VK), Inv X pins σ H s → t σ H Q → wpAny (model X.prog X.w) X.A (eval e X.env) (EP X pins σ Q) X.xe s
def PT (X : Cx) (e : Expr) (t : TT) : Prop :=
  ∀ (pins : List (Addr × Obj)) (s : Shared) (σ : St) (H : Hp) (Q : Bool → Hp → Prop), Inv X pins σ H s → t σ H Q → wpAny (model X.prog X.w) X.A (isTrue e X.env (eval e X.env)) (TP X pins σ Q) X.xe s
def PW (X : Cx) (e : Expr) (t : TT) : Prop :=
  ∀ (whole : Sem Value) (pins : List (Addr × Obj)) (s : Shared) (σ : St) (H : Hp) (Q : Bool → Hp → Prop), Inv X pins σ H s → t σ H Q → wpAny (model X.prog X.w) X.A (isTrue e X.env whole) (TP X pins σ Q) X.xe s
theorem PW.pt {X : Cx} {e : Expr} {t : TT} (h : PW X e t) : PT X e t := h _
def PA (X : Cx) (es : List Expr) (t : TA) : Prop :=
  ∀ (pos : Pos) (pins : List (Addr × Obj)) (s : Shared) (σ : St) (H : Hp) (Q : List V → Hp → Prop), Inv X pins σ H s → t σ H Q → wpAny (model X.prog X.w) X.A (spliced (backTo pos (starEach es X.env))) (AP X pins σ Q) X.xe s
def PS (X : Cx) (st : Stmt) (t : TS) : Prop :=
  ∀ (pins : List (Addr × Obj)) (s : Shared) (σ : St) (H : Hp) (D : Ends), Inv X pins σ H s → t D σ H → wpAny (model X.prog X.w) X.A (exec st X.env) (SP X pins D) X.xe s
def PSs (X : Cx) (st : List Stmt) (t : TS) : Prop :=
  ∀ (pins : List (Addr × Obj)) (s : Shared) (σ : St) (H : Hp) (D : Ends), Inv X pins σ H s → t D σ H → wpAny (model X.prog X.w) X.A (execs st X.env) (SP X pins D) X.xe s
theorem thn {α : Type} {t : Sem α} {Q Q' : α → Shared → Prop} {M : Model} {A : Around} {E : Value → Shared → Prop} {s : Shared} (h : wpAny M A t Q E s) (hQ : ∀ a s, Q a s → Q' a s) : wpAny M A t Q' E s := wpAny_mono h hQ fun _ _ x => x
end L2
namespace L2
open PySem PySem.Spec PyProof.Rows
section
variable {X : Cx}
def tVar (i : Nat) : TE := fun σ H Q => ∃ v, σ[i]? = some (some v) ∧ Q v H
def tC (v : V) : TE := fun _ H Q => Q v H
theorem pe_var {i : Nat} {x : Str} {pos : Pos} (hN : X.N[i]? = some x) (hv : Vis X.env.scope x) (hd : (x == ("__debug__" : Str)) = false := by decide) (hcd : (x == ("__classdict__" : Str)) = false := by decide) : PE X (.Name x pos) (tVar i) := by
  intro pins s σ H Q I h
  obtain ⟨v, e, h⟩ := h
  obtain ⟨m, hn, hl⟩ := I.loc
  obtain ⟨u, r, l⟩ := hl i x v hN e hv
  have fin : EP X pins σ Q u s := ⟨v, H, I, r, h⟩
  rcases l with ⟨hk, hm⟩ | ⟨hk, c, hc, hcell⟩
  · exact wpAny_Name (wpAny_loadName_local I.ok.kind hk hn hm fin) hd
  · rcases hk with hk | hk
    · exact wpAny_Name (wpAny_loadName_cell I.ok.kind hk hc hcell fin) hd
    · exact wpAny_Name (wpAny_loadName_free I.ok.kind hk hc hcell fin hcd) hd
theorem pe_int {i j pos} : PE X (.Constant (.int i) j pos) (tC (.int i)) := fun _ _ _ H _ I h => wpAny_Constant_int ⟨.int i, H, I.tok _, ⟨_, rfl⟩, h⟩
theorem pe_bl {b j pos} : PE X (.Constant (.bool b) j pos) (tC (.bl b)) := fun _ _ _ H _ I h => Constant_bool ⟨.bl b, H, I, rfl, h⟩
def Gl (X : Cx) (x : Str) : Prop := X.env.kindOf x = some .globalImplicit
theorem ld_glob {E : Value → Shared → Prop} {pins : List (Addr × Obj)} {s : Shared} {σ : St} {H : Hp} {x : Str} {u : Value} {pos : Pos} {Q : Value → Shared → Prop} (I : Inv X pins σ H s) (hg : Gl X x) (hm : X.mg x = some u) (h : Q u s)
    (hd : (x == ("__debug__" : Str)) = false := by decide) : wpAny (model X.prog X.w) X.A (eval (.Name x pos) X.env) Q E s :=
  Calls.Name_function_global I.ok.kind hg (Calls.loadGlobal_global (by rw [I.ok.glob]; exact I.mod.glob.keeps I.bk) hm h) hd
theorem ld_blt {E : Value → Shared → Prop} {pins : List (Addr × Obj)} {s : Shared} {σ : St} {H : Hp} {x : Str} {u : Value} {pos : Pos} {Q : Value → Shared → Prop} (I : Inv X pins σ H s) (hg : Gl X x) (hm : X.mg x = none) (hv : bootBuiltins x = some u) (h : Q u s)
    (hn : x ≠ "__name__" := by decide) (hd : (x == ("__debug__" : Str)) = false := by decide) : wpAny (model X.prog X.w) X.A (eval (.Name x pos) X.env) Q E s := by
  obtain ⟨mb, h1, h2⟩ := I.mod.blt
  exact Calls.Name_function_global I.ok.kind hg (Calls.loadGlobal_builtin (by rw [I.ok.glob]; exact I.mod.glob.keeps I.bk) hm (by rw [I.ok.blt]; exact h1.keeps I.bk) ((h2 x hn).trans hv) h) hd
theorem pe_bltn {x : Str} {v : V} {u : Value} {pos : Pos} (hg : Gl X x) (hm : X.mg x = none) (hv : bootBuiltins x = some u) (r : RelV v u) (hn : x ≠ "__name__" := by decide) (hd : (x == ("__debug__" : Str)) = false := by decide) : PE X (.Name x pos) (tC v) :=
  fun _ _ _ H _ I h => ld_blt I hg hm hv ⟨v, H, I, r, h⟩ hn hd
def t2I (ta tb : TE) (k : Int → Int → Hp → Prop) : St → Hp → Prop := fun σ H => ta σ H fun x H1 => tb σ H1 fun y H2 => ∃ i j, x = .int i ∧ y = .int j ∧ k i j H2
def tAdd (ta tb : TE) : TE := fun σ H Q => t2I ta tb (fun i j H2 => Q (.int (i + j)) H2) σ H
def tSub (ta tb : TE) : TE := fun σ H Q => t2I ta tb (fun i j H2 => Q (.int (i - j)) H2) σ H
def tMul (ta tb : TE) : TE := fun σ H Q => t2I ta tb (fun i j H2 => (-(2 ^ 64) < i ∧ i < 2 ^ 64) ∧ Q (.int (i * j)) H2) σ H
variable {a b : Expr} {ta tb : TE} {pos : Pos}
def PC (X : Cx) (op : CmpOp) (a b : Expr) (t : TE) : Prop :=
  ∀ (pins : List (Addr × Obj)) (s : Shared) (σ : St) (H : Hp) (Q : VK), Inv X pins σ H s → t σ H Q →
    wpAny (model X.prog X.w) X.A (eval a X.env) (fun v s₁ => wpAny (model X.prog X.w) X.A (eval b X.env) (fun u s₂ => wpAny (model X.prog X.w) X.A (compareOp op v u) (EP X pins σ Q) X.xe s₂) X.xe s₁) X.xe s
theorem nobehind (b : Expr) {op : CmpOp} (h : op ≠ .In) (h2 : op ≠ .NotIn) : behindInMarks op b = false := by
  have e1 : (op == CmpOp.In) = false := by cases op <;> first | rfl | exact absurd rfl h
  have e2 : (op == CmpOp.NotIn) = false := by cases op <;> first | rfl | exact absurd rfl h2
  cases b <;> simp [behindInMarks, e1, e2]
def tCmp (p : Int → Int → Bool) (ta tb : TE) : TE := fun σ H Q => t2I ta tb (fun i j H2 => Q (.bl (p i j)) H2) σ H
abbrev tLt : TE → TE → TE := tCmp fun i j => decide (i < j)
abbrev tLe : TE → TE → TE := tCmp fun i j => decide (i ≤ j)
abbrev tGt : TE → TE → TE := tCmp fun i j => decide (j < i)
abbrev tGe : TE → TE → TE := tCmp fun i j => decide (j ≤ i)
abbrev tEqI : TE → TE → TE := tCmp fun i j => decide (i = j)
abbrev tNeI : TE → TE → TE := tCmp fun i j => !decide (i = j)
def tIsN (ta : TE) : TE := fun σ H Q => ta σ H fun x H1 => Q (.bl (decide (x = .non))) H1
def tNotN (ta : TE) : TE := fun σ H Q => ta σ H fun x H1 => Q (.bl (!decide (x = .non))) H1
def tB (t : TE) : TT := fun σ H Q => t σ H fun x H1 => ∃ c, x = .bl c ∧ Q c H1
theorem pt_cmp {op : CmpOp} {t : TE} (h : PC X op a b t) (h1 : behindInMarks op b = false := by first | exact nobehind _ (by decide) (by decide) | rfl) : PT X (.Compare a [op] [b] pos) (tB t) := by
  intro pins s σ H Q I hw
  refine wpAny_isTrue_Compare1 (thn (h pins s σ H _ I hw) fun v s1 h1 => thn h1 fun u s2 h2 => thn h2 fun c s3 ⟨x, H1, I1, r1, q1⟩ => ?_) h1
  obtain ⟨d, rfl, q⟩ := q1
  cases r1
  exact wpAny_truthy_bool ⟨H1, I1, q⟩
theorem pt_val {e : Expr} {t : TE} (h : PE X e t) (he : ∀ whole, isTrue e X.env whole = (do let v ← whole; standAt e.pos; holding [v] (truthy v)) := by intro _; rfl) : PT X e (tB t) := by
  intro pins s σ H Q I hw
  refine isTrue_plain (thn (h pins s σ H _ I hw) fun v s1 ⟨x, H1, I1, r1, q1⟩ => ?_) (he _)
  obtain ⟨d, rfl, q⟩ := q1
  cases r1
  exact wpAny_truthy_bool ⟨H1, I1, q⟩
variable {tA tB' : TT} {rest : List Expr}
def tAnd (t u : TT) : TT := fun σ H Q => t σ H fun c H1 => if c = true then u σ H1 Q else Q false H1
def tOr (t u : TT) : TT := fun σ H Q => t σ H fun c H1 => if c = true then Q true H1 else u σ H1 Q
def tNot (t : TT) : TT := fun σ H Q => t σ H fun c H1 => Q (!c) H1
theorem pw_and1 (ha : PT X a tA) : PW X (.BoolOp .And [a] pos) tA := by
  intro wh pins s σ H Q I h
  refine isTrue_and (thn (ha pins s σ H Q I h) fun c s1 e => ?_)
  cases c with
  | true => exact isTrue_and_nil e
  | false => exact e
theorem pw_or1 (ha : PT X a tA) : PW X (.BoolOp .Or [a] pos) tA := by
  intro wh pins s σ H Q I h
  refine isTrue_or (thn (ha pins s σ H Q I h) fun c s1 e => ?_)
  cases c with
  | false => exact isTrue_or_nil e
  | true => exact e
theorem pw_and (ha : PT X a tA) (hb : PW X (.BoolOp .And (b :: rest) pos) tB') : PW X (.BoolOp .And (a :: b :: rest) pos) (tAnd tA tB') := by
  intro wh pins s σ H Q I h
  refine isTrue_and (thn (ha pins s σ H _ I h) fun c s1 ⟨H1, I1, q1⟩ => ?_)
  cases c with
  | true => exact hb wh pins s1 σ H1 Q I1 q1
  | false => exact ⟨H1, I1, q1⟩
theorem pw_or (ha : PT X a tA) (hb : PW X (.BoolOp .Or (b :: rest) pos) tB') : PW X (.BoolOp .Or (a :: b :: rest) pos) (tOr tA tB') := by
  intro wh pins s σ H Q I h
  refine isTrue_or (thn (ha pins s σ H _ I h) fun c s1 ⟨H1, I1, q1⟩ => ?_)
  cases c with
  | true => exact ⟨H1, I1, q1⟩
  | false => exact hb wh pins s1 σ H1 Q I1 q1
theorem pt_not (ha : PT X a tA) : PT X (.UnaryOp .Not a pos) (tNot tA) := by
  intro pins s σ H Q I h
  exact isTrue_not (ha pins s σ H (fun c H1 => Q (!c) H1) I h)
def tAndV (ta tb : TE) : TE := fun σ H Q => ta σ H fun x H1 => ∃ c, x = .bl c ∧ if c = true then tb σ H1 Q else Q (.bl false) H1
def tOrV (ta tb : TE) : TE := fun σ H Q => ta σ H fun x H1 => ∃ c, x = .bl c ∧ if c = true then Q (.bl true) H1 else tb σ H1 Q
def tNotV (ta : TE) : TE := fun σ H Q => ta σ H fun x H1 => ∃ c, x = .bl c ∧ Q (.bl (!c)) H1
theorem pe_one {op} {t : TE} (h : PE X a t) : PE X (.BoolOp op [a] pos) t := fun pins s σ H Q I hw => BoolOp_one (h pins s σ H Q I hw)
theorem pe_and (ha : PE X a ta) (hb : PE X (.BoolOp .And (b :: rest) pos) tb) : PE X (.BoolOp .And (a :: b :: rest) pos) (tAndV ta tb) := by
  intro pins s σ H Q I h
  refine BoolOp_and (thn (ha pins s σ H _ I h) fun v s1 ⟨x, H1, I1, r1, q1⟩ => ?_)
  obtain ⟨c, rfl, q1⟩ := q1
  cases r1
  refine wpAny_truthy_bool ?_
  cases c with
  | true => exact hb pins s1 σ H1 Q I1 q1
  | false => exact ⟨.bl false, H1, I1, rfl, q1⟩
theorem pe_not (ha : PE X a ta) : PE X (.UnaryOp .Not a pos) (tNotV ta) := by
  intro pins s σ H Q I h
  refine UnaryOp_ (thn (ha pins s σ H _ I h) fun v s1 ⟨x, H1, I1, r1, q1⟩ => ?_)
  obtain ⟨c, rfl, q1⟩ := q1
  cases r1
  exact not_of (wpAny_truthy_bool ⟨.bl (!c), H1, I1, rfl, q1⟩)
def tIf (t : TT) (ta tb : TE) : TE := fun σ H Q => t σ H fun c H1 => if c = true then ta σ H1 Q else tb σ H1 Q
end
end L2
namespace L2
open PySem PySem.Spec PyProof.Rows
def SqL (K : PySem.W.Frag) (H : Hp) (a : Addr) (xs : List V) : Prop :=
  Rd H a (.lst xs) ∨
    ∃ (o : Obj) (its : Array Value) (n : Nat), K.lookup a = some o ∧ o.cls = .type "list" ∧ o.dict = none ∧ o.data = .seq its n ∧ its.size ≤ sizeLine ∧ Vals xs its.toList
def SqT (K : PySem.W.Frag) (H : Hp) (a : Addr) (xs : List V) : Prop :=
  Rd H a (.tup xs) ∨
    ∃ (o : Obj) (its : Array Value) (n : Nat), K.lookup a = some o ∧ o.cls = .type "tuple" ∧ o.data = .seq its n ∧ its.size ≤ sizeLine ∧ Vals xs its.toList
def absV : Value → Option V
  | .none => some .non
  | .bool b => some (.bl b)
  | .int i _ => some (.int i)
  | .str x _ => some (.str x)
  | .bytes b _ => some (.byt b)
  | .float b _ => some (.flt b)
  | .ref a => some (.ref a)
  | .type n => some (.ty n)
  | _ => none
theorem RelV.abs {x : V} {u : Value} (r : RelV x u) : absV u = some x := by
  cases x with
  | non => cases r; rfl
  | bl _ => cases r; rfl
  | int _ => obtain ⟨t, rfl⟩ := r; rfl
  | str _ => obtain ⟨t, rfl⟩ := r; rfl
  | byt _ => obtain ⟨t, rfl⟩ := r; rfl
  | flt _ => obtain ⟨t, rfl⟩ := r; rfl
  | ref _ => cases r; rfl
  | ty _ => cases r; rfl
theorem RelV.inj {x y : V} {u : Value} (r : RelV x u) (q : RelV y u) : x = y := Option.some.inj (r.abs.symm.trans q.abs)
theorem Vals.inj : ∀ {xs ys : List V} {us : List Value}, Vals xs us → Vals ys us → xs = ys
  | _, _, _, .nil, .nil => rfl
  | _, _, _, .cons r t, .cons r' t' => by rw [r.inj r', Vals.inj t t']
section
variable {X : Cx} {pins : List (Addr × Obj)} {σ : St} {H : Hp} {s : Shared} {a : Addr} {xs ys : List V}
theorem SqL.of {K : PySem.W.Frag} (h : H a = some (.lst xs)) : SqL K H a xs := .inl (.inl h)
theorem SqT.of {K : PySem.W.Frag} (h : H a = some (.tup xs)) : SqT K H a xs := .inl (.inl h)
theorem Inv.list (I : Inv X pins σ H s) (h : SqL X.K H a xs) : ∃ its : List Value, Vals xs its ∧ PlainL s.heap a its.toArray ∧ xs.length ≤ sizeLine := by
  rcases h with h | ⟨o, its, n, hk, hc, hd, hs, hz, r⟩
  · obtain ⟨z, its, n, r, e⟩ := h.ok I.hok
    exact ⟨its, r, ⟨_, n, e, rfl, rfl, rfl⟩, z⟩
  · refine ⟨its.toList, r, ⟨o, n, I.kIn a o hk, hc, hd, by simpa using hs⟩, ?_⟩
    have e := r.length
    simp only [Array.length_toList] at e
    omega
theorem Inv.tuple (I : Inv X pins σ H s) (h : SqT X.K H a xs) : ∃ its : List Value, Vals xs its ∧ IsTup s.heap a its.toArray ∧ xs.length ≤ sizeLine := by
  rcases h with h | ⟨o, its, n, hk, hc, hs, hz, r⟩
  · obtain ⟨z, its, r, p⟩ := h.ok I.hok
    exact ⟨its, r, p, z⟩
  · refine ⟨its.toList, r, ⟨o, I.kIn a o hk, hc, n, by simpa using hs⟩, ?_⟩
    have e := r.length
    simp only [Array.length_toList] at e
    omega
theorem Inv.list_inj (I : Inv X pins σ H s) (h : SqL X.K H a xs) (h' : SqL X.K H a ys) : xs = ys := by
  obtain ⟨its, r, ⟨o, n, e, _, _, d⟩, _⟩ := I.list h
  obtain ⟨its', r', ⟨o', n', e', _, _, d'⟩, _⟩ := I.list h'
  rw [e] at e'; cases e'
  rw [d] at d'
  injection d' with d1 _
  have : its = its' := by simpa using congrArg Array.toList d1
  subst this
  exact r.inj r'
theorem Inv.tuple_inj (I : Inv X pins σ H s) (h : SqT X.K H a xs) (h' : SqT X.K H a ys) : xs = ys := by
  obtain ⟨its, r, ⟨o, e, _, n, d⟩, _⟩ := I.tuple h
  obtain ⟨its', r', ⟨o', e', _, n', d'⟩, _⟩ := I.tuple h'
  rw [e] at e'; cases e'
  rw [d] at d'
  injection d' with d1 _
  have : its = its' := by simpa using congrArg Array.toList d1
  subst this
  exact r.inj r'
end
abbrev Cx.wish (X : Cx) (E : Value → Shared → Prop) : Cx := { X with xe := E }
abbrev Cx.nox (X : Cx) : Cx := X.wish fun _ _ => False
theorem Cx.Ok.wish {X : Cx} (ok : X.Ok) (E : Value → Shared → Prop) : (X.wish E).Ok :=
  ⟨ok.mod, ok.kind, ok.glob, ok.blt, ok.above, ok.inj, ok.has, ok.cab, ok.hd, ok.frames, ok.stk, ok.exf, ok.bs, ok.bsz, ok.noex, ok.exfs, ok.funs, ok.frf⟩
theorem Cx.Ok.unwish {X : Cx} {E : Value → Shared → Prop} (ok : (X.wish E).Ok) : X.Ok :=
  ⟨ok.mod, ok.kind, ok.glob, ok.blt, ok.above, ok.inj, ok.has, ok.cab, ok.hd, ok.frames, ok.stk, ok.exf, ok.bs, ok.bsz, ok.noex, ok.exfs, ok.funs, ok.frf⟩
section
variable {X : Cx} {pins : List (Addr × Obj)} {σ : St} {H : Hp} {s : Shared} {E : Value → Shared → Prop}
theorem Inv.wish (I : Inv X pins σ H s) (E : Value → Shared → Prop) : Inv (X.wish E) pins σ H s := ⟨I.ok.wish E, I.os, I.bare, I.base, I.loc, I.cell, I.free, I.freeC, I.pin, I.hok, I.len⟩
theorem Inv.unwish (I : Inv (X.wish E) pins σ H s) : Inv X pins σ H s := ⟨I.ok.unwish, I.os, I.bare, I.base, I.loc, I.cell, I.free, I.freeC, I.pin, I.hok, I.len⟩
theorem SP.unwish {D : Ends} {f : Flow} {s' : Shared} (h : SP (X.wish E) pins D f s') : SP X pins D f s' := by
  cases f with
  | next => obtain ⟨σ', H', I, q⟩ := h; exact ⟨σ', H', I.unwish, q⟩
  | brk => obtain ⟨σ', H', I, q⟩ := h; exact ⟨σ', H', I.unwish, q⟩
  | cont => obtain ⟨σ', H', I, q⟩ := h; exact ⟨σ', H', I.unwish, q⟩
  | ret u => obtain ⟨v, σ', H', I, r, q⟩ := h; exact ⟨v, σ', H', I.unwish, r, q⟩
theorem PE.nox {e : Expr} {t : TE} (h : PE X.nox e t) : PE X e t := fun pins s σ H Q I hw =>
  wpAny_mono (h pins s σ H Q (I.wish _) hw) (fun _ _ ⟨v, H', I', r, q⟩ => ⟨v, H', I'.unwish, r, q⟩) fun _ _ z => False.elim z
theorem PT.nox {e : Expr} {t : TT} (h : PT X.nox e t) : PT X e t := fun pins s σ H Q I hw =>
  wpAny_mono (h pins s σ H Q (I.wish _) hw) (fun _ _ ⟨H', I', q⟩ => ⟨H', I'.unwish, q⟩) fun _ _ z => False.elim z
theorem PSs.nox {st : List Stmt} {t : TS} (h : PSs X.nox st t) : PSs X st t := fun pins s σ H D I hw =>
  wpAny_mono (h pins s σ H D (I.wish _) hw) (fun _ _ q => q.unwish) fun _ _ z => False.elim z
end
section
variable {X : Cx} {st : Stmt} {rest : List Stmt} {t u : TS} {e : Expr} {te : TE} {pos : Pos}
def tNext : TS := fun D σ H => D.nx σ H
def tSeq (t u : TS) : TS := fun D σ H => t { D with nx := u D } σ H
theorem pss_nil : PSs X [] tNext := fun _ _ σ H _ I h => wpAny_execs_nil ⟨σ, H, I, h⟩
theorem pss_cons (h1 : PS X st t) (h2 : PSs X rest u) : PSs X (st :: rest) (tSeq t u) := by
  intro pins s σ H D I h
  refine wpAny_execs_cons (thn (h1 pins s σ H { D with nx := u D } I h) fun f s1 q => ?_)
  cases f with
  | next =>
    obtain ⟨σ', H', I', q⟩ := q
    exact h2 pins s1 σ' H' D I' q
  | ret v => exact q
  | brk => exact q
  | cont => exact q
theorem pss_one (h1 : PS X st t) : PSs X [st] t := by
  intro pins s σ H D I h
  refine wpAny_execs_cons (thn (h1 pins s σ H D I h) fun f s1 q => ?_)
  cases f with
  | next => exact wpAny_execs_nil q
  | ret v => exact q
  | brk => exact q
  | cont => exact q
def tBreak : TS := fun D σ H => D.bk σ H
def tCont : TS := fun D σ H => D.ct σ H
theorem Inv.quiet {pins : List (Addr × Obj)} {σ : St} {H : Hp} {s : Shared} (I : Inv X pins σ H s) : interactive X.env = false := by simp [interactive, I.ok.kind]
def tDrop (te : TE) : TS := fun D σ H => te σ H fun _ H1 => D.nx σ H1
theorem ps_expr (he : PE X e te) (hs : swapsWith e none pos.line X.env = pure false := by rfl) : PS X (.Expr e pos) (tDrop te) := by
  intro pins s σ H D I h
  exact wpAny_Expr_any (thn (he pins s σ H _ I h) fun v s1 ⟨x, H1, I1, r1, q1⟩ => ⟨σ, H1, I1, q1⟩) I.quiet hs
def tRet (te : TE) : TS := fun D σ H => te σ H D.rt
theorem ps_ret (he : PE X e te) : PS X (.Return (some e) pos) (tRet te) := by
  intro pins s σ H D I h
  exact wpAny_Return_some (thn (he pins s σ H _ I h) fun v s1 ⟨x, H1, I1, r1, q1⟩ => ⟨x, σ, H1, I1, r1, q1⟩)
def tRetN : TS := fun D _ H => D.rt .non H
def tIfS (c : TT) (t u : TS) : TS := fun D σ H => c σ H fun b H1 => if b = true then t D σ H1 else u D σ H1
theorem ps_if {c : Expr} {a b : List Stmt} {tc : TT} (hc : PT X c tc) (ha : PSs X a t) (hb : PSs X b u) : PS X (.If c a b pos) (tIfS tc t u) := by
  intro pins s σ H D I h
  refine wpAny_If (thn (hc pins s σ H _ I h) fun d s1 ⟨H1, I1, q1⟩ => ?_)
  cases d with
  | true => exact ha pins s1 σ H1 D I1 q1
  | false => exact hb pins s1 σ H1 D I1 q1
def tNever : TS := fun _ _ _ => False
end
abbrev TG := V → St → Hp → (St → Hp → Prop) → Prop
abbrev TGs := List V → St → Hp → (St → Hp → Prop) → Prop
def PG (X : Cx) (target : Expr) (t : TG) : Prop :=
  ∀ (pins : List (Addr × Obj)) (s : Shared) (σ : St) (H : Hp) (v : V) (u : Value) (Q : St → Hp → Prop), Inv X pins σ H s → RelV v u → t v σ H Q →
    wpAny (model X.prog X.w) X.A (assign target X.env u) (fun _ s' => ∃ σ' H', Inv X pins σ' H' s' ∧ Q σ' H') X.xe s
def PGs (X : Cx) (ts : List Expr) (t : TGs) : Prop :=
  ∀ (pins : List (Addr × Obj)) (s : Shared) (σ : St) (H : Hp) (vs : List V) (us : List Value) (Q : St → Hp → Prop), Inv X pins σ H s → Vals vs us → t vs σ H Q →
    wpAny (model X.prog X.w) X.A (assignInOrder ((assignEach ts X.env).map (·.2)) us) (fun _ s' => ∃ σ' H', Inv X pins σ' H' s' ∧ Q σ' H') X.xe s
abbrev TSet := V → V → V → Hp → (Hp → Prop) → Prop
def PSet (X : Cx) (t : TSet) : Prop :=
  ∀ (pins : List (Addr × Obj)) (s : Shared) (σ : St) (H : Hp) (o i v : V) (ov iv u : Value) (Q : Hp → Prop), Inv X pins σ H s → RelV o ov → RelV i iv → RelV v u → t o i v H Q →
    wpAny (model X.prog X.w) X.A (setItem ov iv u) (fun _ s' => ∃ H', Inv X pins σ H' s' ∧ Q H') X.xe s
abbrev TIp := V → V → Hp → VK → Prop
def PIp (X : Cx) (op : Operator) (t : TIp) : Prop :=
  ∀ (pins : List (Addr × Obj)) (s : Shared) (σ : St) (H : Hp) (x y : V) (v u : Value) (Q : VK), Inv X pins σ H s → RelV x v → RelV y u → t x y H Q →
    wpAny (model X.prog X.w) X.A (inplaceOp op v u) (EP X pins σ Q) X.xe s
section
variable {X : Cx} {pos : Pos}
def gName (i : Nat) : TG := fun v σ H Q => Q (σ.set i (some v)) H
theorem pg_name {i : Nat} {x : Str} (hN : X.N.Nodup) (hi : X.N[i]? = some x) (hx : Loc X.env.scope x) (hf : X.fn x = true ∨ X.env.scope.names.lookup x = some .local := by first | exact .inl rfl | exact .inr rfl | assumption) : PG X (.Name x pos) (gName i) := by
  intro pins s σ H v u Q I r h
  exact wpAny_assign_Name (store_ok I hN hi hx r (fun s' I' => ⟨_, H, I', h⟩) hf)
def gNil : TGs := fun vs σ H Q => vs = [] ∧ Q σ H
def gCons (t : TG) (u : TGs) : TGs := fun vs σ H Q => ∃ v r, vs = v :: r ∧ t v σ H fun σ' H' => u r σ' H' Q
theorem pgs_nil : PGs X [] gNil := by
  intro pins s σ H vs us Q I r h
  obtain ⟨e, h⟩ := h
  subst e
  cases r
  exact assignInOrder_nil ⟨σ, H, I, h⟩
theorem pgs_cons {e : Expr} {es : List Expr} {t : TG} {u : TGs} (h1 : PG X e t) (h2 : PGs X es u)
    (hs : (assignEach (e :: es) X.env).map (·.2) = assign e X.env :: (assignEach es X.env).map (·.2) := by rfl) : PGs X (e :: es) (gCons t u) := by
  intro pins s σ H vs us Q I r h
  obtain ⟨v, vr, e1, h⟩ := h
  subst e1
  cases r with
  | cons r rr =>
    rw [hs]
    refine assignInOrder_cons (thn (h1 pins s σ H _ _ _ I r h) fun _ s1 ⟨σ1, H1, I1, q1⟩ => ?_)
    exact h2 pins s1 σ1 H1 _ _ Q I1 rr q1
def gTup (K : PySem.W.Frag) (n : Nat) (t : TGs) : TG := fun v σ H Q => ∃ a xs, v = .ref a ∧ SqT K H a xs ∧ xs.length = n ∧ t xs σ H Q
theorem pg_tup {es : List Expr} {k : Nat} {t : TGs} {n : Nat} (hc : X.calm = true) (h : PGs X es t)
    (hn : (assignEach es X.env).length = n := by rfl) (hst : (assignEach es X.env).findIdx? (·.1) = none := by rfl) : PG X (.Tuple es k pos) (gTup X.K n t) := by
  intro pins s σ H v u Q I r hw
  obtain ⟨a, xs, e1, hq, hl, hw⟩ := hw
  subst e1
  cases r
  obtain ⟨its, rv, ht, hz⟩ := I.tuple hq
  refine assign_Tuple_tuple (I.ok.hd hc) ht (by simp [hn, ← hl, rv.length]) hst fun h' hx => ?_
  have I1 : Inv X pins σ H { s with heap := h' } := I.kept (t' := s.toks) fun b o e => hx b o (Nat.ne_of_lt (Heap.lt_size e)) e
  exact h pins _ σ H xs _ Q I1 (by simpa using rv) hw
def gSub (to ti : TE) (t : TSet) : TG := fun v σ H Q => to σ H fun o H1 => ti σ H1 fun i H2 => t o i v H2 fun H3 => Q σ H3
theorem pg_sub {o i : Expr} {to ti : TE} {t : TSet} (ho : PE X o to) (hi : PE X i ti) (hs : PSet X t)
    (ha : ∀ v, assign (.Subscript o i pos) X.env v = (do
      let ov ← holding [v] (eval o X.env)
      let iv ← holding [v, ov] (eval i X.env)
      standAt pos
      holding [v, ov, iv] (setItem ov iv v)
      release [v, ov, iv] []) := by intro _; rfl) : PG X (.Subscript o i pos) (gSub to ti t) := by
  intro pins s σ H v u Q I r h
  rw [ha]
  refine wpAny_bind (wpAny_holding (thn (ho pins s σ H _ I h) fun ov s1 ⟨x, H1, I1, r1, q1⟩ => ?_))
  refine wpAny_bind (wpAny_holding (thn (hi pins s1 σ H1 _ I1 q1) fun iv s2 ⟨y, H2, I2, r2, q2⟩ => ?_))
  refine wpAny_bind (wpAny_standAt (wpAny_bind (wpAny_holding (thn (hs pins s2 σ H2 x y v ov iv u _ I2 r1 r2 r q2) fun _ s3 ⟨H3, I3, q3⟩ => ?_))))
  exact wpAny_release ⟨σ, H3, I3, q3⟩
def tAsg (te : TE) (g : TG) : TS := fun D σ H => te σ H fun x H1 => g x σ H1 D.nx
theorem ps_asg {tg e : Expr} {te : TE} {g : TG} (he : PE X e te) (hg : PG X tg g) (hs : swapsWithSole [tg] e pos.line X.env = pure false := by rfl) (hw : swappedStores [tg] e X.env = pure none := by rfl)
    (h1 : (assignEach [tg] X.env).map (·.2) = [assign tg X.env] := by rfl) : PS X (.Assign [tg] e pos) (tAsg te g) := by
  intro pins s σ H D I h
  refine wpAny_Assign_stores (thn (he pins s σ H _ I h) fun v s1 ⟨x, H1, I1, r1, q1⟩ => ?_) hs hw
  rw [h1]
  exact thn (hg pins s1 σ H1 x v _ I1 r1 q1) fun _ s2 q => q
theorem ps_set {i : Nat} {x : Str} {e : Expr} {te : TE} {pos' : Pos} (hN : X.N.Nodup) (hi : X.N[i]? = some x) (hx : Loc X.env.scope x) (he : PE X e te) (hs : swapsWith e (some (.Name x pos')) pos.line X.env = pure false := by rfl) (hf : X.fn x = true ∨ X.env.scope.names.lookup x = some .local := by first | exact .inl rfl | exact .inr rfl | assumption) :
    PS X (.Assign [.Name x pos'] e pos) (tAsg te (gName i)) := by
  intro pins s σ H D I h
  refine wpAny_Assign_Name (thn (he pins s σ H _ I h) fun v s1 ⟨y, H1, I1, r1, q1⟩ => ?_) hs
  exact store_ok I1 hN hi hx r1 (fun s2 I2 => ⟨_, H1, I2, q1⟩) hf
def tPar (i j : Nat) (ta : TA) : TS := fun D σ H => ta σ H fun vs H1 => ∃ v w, vs = [v, w] ∧ D.nx ((σ.set i (some v)).set j (some w)) H1
def tAug (i : Nat) (te : TE) (ti : TIp) : TS := fun D σ H => ∃ x, σ[i]? = some (some x) ∧ te σ H fun y H1 => ti x y H1 fun z H2 => D.nx (σ.set i (some z)) H2
def tAugS (to ti te : TE) (tget : V → V → Hp → VK → Prop) (tip : TIp) (tset : TSet) : TS := fun D σ H => to σ H fun o H1 => ti σ H1 fun i H2 => tget o i H2 fun x H3 => te σ H3 fun y H4 => tip x y H4 fun z H5 => tset o i z H5 fun H6 => D.nx σ H6
def PGet (X : Cx) (t : V → V → Hp → VK → Prop) : Prop :=
  ∀ (pins : List (Addr × Obj)) (s : Shared) (σ : St) (H : Hp) (o i : V) (ov iv : Value) (Q : VK), Inv X pins σ H s → RelV o ov → RelV i iv → t o i H Q →
    wpAny (model X.prog X.w) X.A (getItem ov iv) (EP X pins σ Q) X.xe s
def ipI (f : Int → Int → Int) : TIp := fun x y H Q => ∃ i j, x = .int i ∧ y = .int j ∧ Q (.int (f i j)) H
end
section
variable {X : Cx} {pos : Pos}
def tWhile (c : TT) (tb : TS) : TS := fun D σ H => ∃ W : Nat → St → Hp → Prop, (∃ m, W m σ H) ∧ ∀ m σ H, W m σ H →
  c σ H fun b H1 => if b = true then ∃ N : St → Hp → Prop, (∀ σ' H', N σ' H' → ∃ m', m' < m ∧ W m' σ' H') ∧ tb { D with nx := N, ct := N, bk := D.nx } σ H1 else D.nx σ H1
theorem ps_while {c : Expr} {body : List Stmt} {tc : TT} {tb : TS} (hp : PassesOwn (model X.prog X.w) X.A X.env X.xe) (hc : PT X c tc) (hb : PSs X body tb) : PS X (.While c body [] pos) (tWhile tc tb) := by
  intro pins s σ H D I h
  obtain ⟨W, ⟨m0, w0⟩, turn⟩ := h
  refine wpAny_While (codeAny_whileLoop (fun n s' => ∃ σ' H', Inv X pins σ' H' s' ∧ W n σ' H') ?_ m0 ⟨σ, H, I, w0⟩)
  rintro n s1 ⟨σ1, H1, I1, w1⟩
  refine wpAny_passesOwn hp (thn (hc pins s1 σ1 H1 _ I1 (turn n σ1 H1 w1)) fun b s2 ⟨H2, I2, q2⟩ => ?_)
  cases b with
  | true =>
    obtain ⟨N, hN, q2⟩ := q2
    rw [if_pos rfl]
    refine wpAny_passesOwn hp (thn (hb pins s2 σ1 H2 _ I2 q2) fun f s3 q3 => ?_)
    cases f with
    | next =>
      obtain ⟨σ3, H3, I3, n3⟩ := q3
      obtain ⟨m', hm, w3⟩ := hN σ3 H3 n3
      exact ⟨m', hm, σ3, H3, I3, w3⟩
    | cont =>
      obtain ⟨σ3, H3, I3, n3⟩ := q3
      obtain ⟨m', hm, w3⟩ := hN σ3 H3 n3
      exact ⟨m', hm, σ3, H3, I3, w3⟩
    | brk => exact q3
    | ret v => exact q3
  | false =>
    rw [if_neg Bool.false_ne_true]
    exact wpAny_execs_nil ⟨σ1, H2, I2, q2⟩
end
structure It where
  go : Nat → Hp → Prop
  yld : Nat → Hp → V → Hp → Prop
  stop : Nat → Hp → Prop
def FpOk (X : Cx) (pins : List (Addr × Obj)) (H : Hp) (b : Addr) : Prop :=
  H b = none ∧ b ≠ X.env.locals ∧ b ∉ X.fs ∧ (b ∈ X.ex ∨ X.s₀.heap.objs.size ≤ b) ∧ (∀ x c, X.env.cells.lookup x = some c → c ≠ b) ∧ ∀ p ∈ X.pn ++ pins, p.1 ≠ b
theorem Inv.fpOk {X : Cx} {pins : List (Addr × Obj)} {σ : St} {H H' : Hp} {s : Shared} {b : Addr} (I : Inv X pins σ H s) (hb : s.heap.objs.size ≤ b) (hn : H' b = none) : FpOk X pins H' b := by
  refine ⟨hn, Nat.ne_of_gt (Nat.lt_of_lt_of_le I.lt hb), I.nofs hb, .inr (Nat.le_trans I.sz hb), fun x c e z => ?_, fun p hp z => ?_⟩
  · obtain ⟨v, q⟩ := I.cell x c e
    exact absurd (Nat.lt_of_lt_of_le q.lt (by rw [z]; exact hb)) (Nat.lt_irrefl _)
  · exact absurd (Nat.lt_of_lt_of_le (Heap.lt_size (I.pin p hp).1) (by rw [z]; exact hb)) (Nat.lt_irrefl _)
structure Turn (P : Program) (w : World) (K : PySem.W.Frag) (tg : Expr) (J : It) (fp : List Addr) (it : Addr) (tn : Nat → Heap → Prop) : Prop where
  mem : it ∈ fp
  obj : ∀ i h, tn i h → ∀ b ∈ fp, ∃ o, h.get? b = some o ∧ ∀ v, o.data ≠ .cell v
  keep : ∀ i h h', tn i h → (∀ b ∈ fp, ∀ o, h.get? b = some o → h'.get? b = some o) → tn i h'
  item : ∀ (X : Cx), X.prog = P → X.w = w → X.K = K → X.calm = true → ∀ (i : Nat) (pins : List (Addr × Obj)) (s : Shared) (σ : St) (H : Hp) (E : Value → Shared → Prop), Inv X pins σ H s → (∀ b ∈ fp, FpOk X pins H b) → tn i s.heap → J.go i H →
    wpAny (model P w) X.A (pyNext (.ref it)) (fun r s1 => ∃ u, r = some u ∧
      wpAny (model P w) X.A (letOwnedTupleGo tg (.ref it) u) (fun _ s2 => ∃ x H', Inv X pins σ H' s2 ∧ RelV x u ∧ J.yld i H x H' ∧ tn (i + 1) s2.heap ∧ ∀ b ∈ fp, H' b = none) E s1) E s
  done : ∀ (X : Cx), X.prog = P → X.w = w → X.K = K → X.calm = true → ∀ (i : Nat) (pins : List (Addr × Obj)) (s : Shared) (σ : St) (H : Hp) (E : Value → Shared → Prop), Inv X pins σ H s → (∀ b ∈ fp, FpOk X pins H b) → tn i s.heap → J.stop i H →
    wpAny (model P w) X.A (pyNext (.ref it)) (fun r s1 => r = none ∧ Inv X pins σ H s1) E s
  self : ∀ (A : Around) (i : Nat) (s : Shared) (Q : Value → Shared → Prop) (E : Value → Shared → Prop), tn i s.heap → Q (.ref it) s → wpAny (model P w) A (pyIter (.ref it)) Q E s
abbrev TI := St → Hp → (It → Hp → Prop) → Prop
def PIE (X : Cx) (pins : List (Addr × Obj)) (σ : St) (tg : Expr) (R : It → Hp → Prop) (itv : Value) (s2 : Shared) : Prop :=
  ∃ (it : Addr) (fp : List Addr) (tn : Nat → Heap → Prop) (J : It) (H' : Hp), itv = .ref it ∧ Inv X pins σ H' s2 ∧ Turn X.prog X.w X.K tg J fp it tn ∧ tn 0 s2.heap ∧ (∀ b ∈ fp, FpOk X pins H' b) ∧ R J H'
def PI (X : Cx) (tg iter : Expr) (wi : TI) : Prop :=
  ∀ (pins : List (Addr × Obj)) (s : Shared) (σ : St) (H : Hp) (R : It → Hp → Prop), Inv X pins σ H s → wi σ H R →
    wpAny (model X.prog X.w) X.A (eval iter X.env) (fun v s1 => wpAny (model X.prog X.w) X.A (pyIter v) (PIE X pins σ tg R) X.xe s1) X.xe s
theorem go_of {M : Model} {A : Around} {E : Value → Shared → Prop} {s : Shared} {tg : Expr} {it : Addr} {u : Value} {o : Obj} {n : String} {vs : Array Value} {Q : Unit → Shared → Prop} (ho : s.heap.get? it = some o) (hc : o.cls = .type n) (hd : o.data = .fields vs)
    (hn : ["enumerate", "zip", "dict_itemiterator", "dict_reverseitemiterator", "odict_iterator", "itertools.zip_longest", "itertools.pairwise"].contains n = false) (hQ : Q () s) : wpAny M A (letOwnedTupleGo tg (.ref it) u) Q E s := by
  unfold letOwnedTupleGo
  cases tg <;> first
    | exact wpAny_pure hQ
    | (cases u <;> first
        | exact wpAny_pure hQ
        | (refine wpAny_bind (wpAny_load ho ?_)
           rw [hc, hd]
           show wpAny M A (if (["enumerate", "zip", "dict_itemiterator", "dict_reverseitemiterator", "odict_iterator", "itertools.zip_longest", "itertools.pairwise"].contains n && vs[0]? == some (rawInt _)) = true then _ else _) Q E s
           rw [if_neg (by intro h; rw [hn, Bool.false_and] at h; cases h)]
           exact wpAny_pure hQ))
def Itl (K : PySem.W.Frag) (a : Addr) : It :=
  ⟨fun i H => ∃ xs x, SqL K H a xs ∧ xs[i]? = some x, fun i H x H' => H' = H ∧ ∀ xs, SqL K H a xs → xs[i]? = some x, fun i H => ∃ xs, SqL K H a xs ∧ xs.length ≤ i⟩
def Itt (K : PySem.W.Frag) (a : Addr) : It :=
  ⟨fun i H => ∃ xs x, SqT K H a xs ∧ xs[i]? = some x, fun i H x H' => H' = H ∧ ∀ xs, SqT K H a xs → xs[i]? = some x, fun i H => ∃ xs, SqT K H a xs ∧ xs.length ≤ i⟩
def Itr (lo : Int) (n : Nat) : It := ⟨fun i _ => i < n, fun i H x H' => H' = H ∧ x = .int (lo + i), fun i _ => n ≤ i⟩
theorem turn_list {P : Program} {w : World} {K : PySem.W.Frag} {tg : Expr} (a it : Addr) : Turn P w K tg (Itl K a) [it] it (fun i h => h.IsListIter it a i) where
  mem := by simp
  obj := fun i h st b hb => by
    have e : b = it := by simpa using hb
    subst e
    obtain ⟨o, e, c, d⟩ := st
    exact ⟨o, e, fun v z => by rw [d] at z; cases z⟩
  keep := fun i h h' st k => st.at fun o e => k it (by simp) o e
  item := by
    intro X hP hw hK hc i pins s σ H E I hf st hg
    subst hP hw hK
    obtain ⟨xs, x, hq, hx⟩ := hg
    obtain ⟨its, rv, p, hz⟩ := I.list hq
    obtain ⟨u, hu, ru⟩ := rv.get hx
    obtain ⟨f0, f1, f2, f3, f4, f5⟩ := hf it (by simp)
    refine wpAny_pyNext_list_item st p.isList (x := u) (by simpa using hu) fun h' st' sb => ?_
    have I1 : Inv X pins σ H { s with heap := h' } := I.turned (t' := s.toks) (fun b o hb e => (sb.2 b hb).trans e) f0 f1 f3 f4 f5
    obtain ⟨o, e, c, d⟩ := id st'
    exact ⟨u, rfl, go_of (s := { s with heap := h' }) e c d (by decide) ⟨x, H, I1, ru, ⟨rfl, fun ys hy => by rw [I.list_inj hy hq]; exact hx⟩, st', fun b hb => (hf b hb).1⟩⟩
  done := by
    intro X hP hw hK hc i pins s σ H E I hf st hg
    subst hP hw hK
    obtain ⟨xs, hq, hx⟩ := hg
    obtain ⟨its, rv, p, hz⟩ := I.list hq
    obtain ⟨f0, f1, f2, f3, f4, f5⟩ := hf it (by simp)
    have hl := rv.length
    exact wpAny_pyNext_list_end (I.ok.hd hc) st p.isList (by simp; omega) fun h' eb => ⟨rfl, I.turned (t' := s.toks) (fun b o hb e => eb b o hb e) f0 f1 f3 f4 f5⟩
  self := fun _ _ _ _ _ st h => wpAny_pyIter_listiter st h
theorem turn_tuple {P : Program} {w : World} {K : PySem.W.Frag} {tg : Expr} (a it : Addr) : Turn P w K tg (Itt K a) [it] it (fun i h => h.IsTupleIter it a i) where
  mem := by simp
  obj := fun i h st b hb => by
    have e : b = it := by simpa using hb
    subst e
    obtain ⟨o, e, c, d⟩ := st
    exact ⟨o, e, fun v z => by rw [d] at z; cases z⟩
  keep := fun i h h' st k => st.at fun o e => k it (by simp) o e
  item := by
    intro X hP hw hK hc i pins s σ H E I hf st hg
    subst hP hw hK
    obtain ⟨xs, x, hq, hx⟩ := hg
    obtain ⟨its, rv, p, hz⟩ := I.tuple hq
    obtain ⟨u, hu, ru⟩ := rv.get hx
    obtain ⟨f0, f1, f2, f3, f4, f5⟩ := hf it (by simp)
    refine wpAny_pyNext_tuple_item st (show s.heap.IsTuple a its.toArray from p) (x := u) (by simpa using hu) fun h' st' sb => ?_
    have I1 : Inv X pins σ H { s with heap := h' } := I.turned (t' := s.toks) (fun b o hb e => (sb.2 b hb).trans e) f0 f1 f3 f4 f5
    obtain ⟨o, e, c, d⟩ := id st'
    exact ⟨u, rfl, go_of (s := { s with heap := h' }) e c d (by decide) ⟨x, H, I1, ru, ⟨rfl, fun ys hy => by rw [I.tuple_inj hy hq]; exact hx⟩, st', fun b hb => (hf b hb).1⟩⟩
  done := by
    intro X hP hw hK hc i pins s σ H E I hf st hg
    subst hP hw hK
    obtain ⟨xs, hq, hx⟩ := hg
    obtain ⟨its, rv, p, hz⟩ := I.tuple hq
    obtain ⟨f0, f1, f2, f3, f4, f5⟩ := hf it (by simp)
    have hl := rv.length
    exact wpAny_pyNext_tuple_end (I.ok.hd hc) st (show s.heap.IsTuple a its.toArray from p) (by simp; omega) fun h' eb => ⟨rfl, I.turned (t' := s.toks) (fun b o hb e => eb b o hb e) f0 f1 f3 f4 f5⟩
  self := fun _ _ _ _ _ st h => wpAny_pyIter_tupleiter st h
theorem turn_range {P : Program} {w : World} {K : PySem.W.Frag} {tg : Expr} (it : Addr) (lo : Int) (n : Nat) : Turn P w K tg (Itr lo n) [it] it (fun i h => IsRangeIter h it (lo + (i : Nat) * 1) ((n : Int) - (i : Nat)) 1) where
  mem := by simp
  obj := fun i h st b hb => by
    have e : b = it := by simpa using hb
    subst e
    exact ⟨_, st, fun v z => by
      have z' : Data.fields _ = Data.cell v := z
      cases z'⟩
  keep := fun i h h' st k => k it (by simp) _ st
  item := by
    intro X hP hw hK hc i pins s σ H E I hf st hg
    subst hP hw hK
    obtain ⟨f0, f1, f2, f3, f4, f5⟩ := hf it (by simp)
    have W := Walks.range (prog := X.prog) (w := X.w) (I.ok.hd hc) it lo 1 n
    refine W.item i s _ _ hg st fun v h' tk hv st' kk => ?_
    obtain ⟨t, rfl⟩ := hv
    have I1 : Inv X pins σ H { s with heap := h', toks := tk } := I.turned (fun b o hb e => kk b o (by simpa using hb) e) f0 f1 f3 f4 f5
    refine ⟨_, rfl, go_of (s := { s with heap := h', toks := tk }) (n := "range_iterator") st' rfl rfl (by decide) ⟨.int (lo + i), H, I1, ⟨t, ?_⟩, ⟨rfl, rfl⟩, st', fun b hb => (hf b hb).1⟩⟩
    rw [Int.mul_one]
  done := by
    intro X hP hw hK hc i pins s σ H E I hf st hg
    subst hP hw hK
    obtain ⟨f0, f1, f2, f3, f4, f5⟩ := hf it (by simp)
    exact wpAny_pyNext_range_end (I.ok.hd hc) st (by have : n ≤ i := hg; omega) fun h' eb => ⟨rfl, I.turned (t' := s.toks) (fun b o hb e => eb b o hb e) f0 f1 f3 f4 f5⟩
  self := fun _ _ _ _ _ st h => wpAny_pyIter_rangeiter st h
end L2
namespace L2
open PySem PySem.Spec PyProof.Rows
section
variable {X : Cx} {tg : Expr}
def iList (K : PySem.W.Frag) (tl : TE) : TI := fun σ H R => tl σ H fun x H1 => ∃ a, x = .ref a ∧ (∃ xs, SqL K H1 a xs) ∧ R (Itl K a) H1
def iTup (K : PySem.W.Frag) (tl : TE) : TI := fun σ H R => tl σ H fun x H1 => ∃ a, x = .ref a ∧ (∃ xs, SqT K H1 a xs) ∧ R (Itt K a) H1
theorem pi_list {l : Expr} {tl : TE} (hl : PE X l tl) : PI X tg l (iList X.K tl) := by
  intro pins s σ H R I h
  refine thn (hl pins s σ H _ I h) fun v s1 ⟨x, H1, I1, r1, q1⟩ => ?_
  obtain ⟨a, e, ⟨xs, hq⟩, q⟩ := q1
  subst e
  cases r1
  obtain ⟨its, rv, p, hz⟩ := I1.list hq
  refine wpAny_pyIter_list p.isList ?_
  refine ⟨s1.heap.objs.size, [s1.heap.objs.size], _, _, H1, rfl, I1.kept (t' := s1.toks) fun b o e => Heap.get?_push_of_some _ e, turn_list a _, ⟨_, Heap.get?_push_size _ rfl, rfl, rfl⟩, fun b hb => ?_, q⟩
  have e : b = s1.heap.objs.size := by simpa using hb
  subst e
  exact I1.fpOk (Nat.le_refl _) (I1.hok.fresh (Nat.le_refl _))
theorem pi_tup {l : Expr} {tl : TE} (hl : PE X l tl) : PI X tg l (iTup X.K tl) := by
  intro pins s σ H R I h
  refine thn (hl pins s σ H _ I h) fun v s1 ⟨x, H1, I1, r1, q1⟩ => ?_
  obtain ⟨a, e, ⟨xs, hq⟩, q⟩ := q1
  subst e
  cases r1
  obtain ⟨its, rv, p, hz⟩ := I1.tuple hq
  refine wpAny_pyIter_tuple (show s1.heap.IsTuple a its.toArray from p) ?_
  refine ⟨s1.heap.objs.size, [s1.heap.objs.size], _, _, H1, rfl, I1.kept (t' := s1.toks) fun b o e => Heap.get?_push_of_some _ e, turn_tuple a _, ⟨_, Heap.get?_push_size _ rfl, rfl, rfl⟩, fun b hb => ?_, q⟩
  have e : b = s1.heap.objs.size := by simpa using hb
  subst e
  exact I1.fpOk (Nat.le_refl _) (I1.hok.fresh (Nat.le_refl _))
theorem range_it {pins : List (Addr × Obj)} {σ : St} {H : Hp} {s : Shared} {R : It → Hp → Prop} {E : Value → Shared → Prop} {lo hi : Int} {t u v : Tok} {tk : Nat} (I : Inv X pins σ H s) (h1 : -(2 ^ 62) ≤ lo) (h2 : lo < 2 ^ 62) (h3 : -(2 ^ 62) ≤ hi) (h4 : hi < 2 ^ 62)
    (q : R (Itr lo (hi - lo).toNat) H) : wpAny (model X.prog X.w) X.A (pyIter (.ref s.heap.objs.size)) (PIE X pins σ tg R) E { s with heap := s.heap.push { cls := .type "range", data := .fields #[.int lo t, .int hi u, .int 1 v] }, toks := tk } := by
  refine wpAny_pyIter_range (IsRange.new ..) (small_one h1 h2 h3 h4) ?_
  have I1 : Inv X pins σ H { s with heap := s.heap.push { cls := .type "range", data := .fields #[.int lo t, .int hi u, .int 1 v] }, toks := tk } := I.kept fun b o e => Heap.get?_push_of_some _ e
  refine ⟨(s.heap.push { cls := .type "range", data := .fields #[.int lo t, .int hi u, .int 1 v] }).objs.size, [(s.heap.push { cls := .type "range", data := .fields #[.int lo t, .int hi u, .int 1 v] }).objs.size], _, _, H, rfl,
    I1.kept (t' := tk) fun b o e => Heap.get?_push_of_some _ e, turn_range _ lo (hi - lo).toNat, ?_, fun b hb => ?_, q⟩
  · have e1 : lo + ((0 : Nat) : Int) * 1 = lo := by simp
    have e2 : (((hi - lo).toNat : Nat) : Int) - ((0 : Nat) : Int) = Builtin.Range.rangeSize lo hi 1 := by rw [rangeSize_one]; split <;> omega
    show IsRangeIter _ _ (lo + ((0 : Nat) : Int) * 1) ((((hi - lo).toNat : Nat) : Int) - ((0 : Nat) : Int)) 1
    rw [e1, e2]
    exact Heap.get?_push_size _ rfl
  · have e : b = (s.heap.push { cls := .type "range", data := .fields #[.int lo t, .int hi u, .int 1 v] }).objs.size := by simpa using hb
    subst e
    exact I1.fpOk (Nat.le_refl _) (I1.hok.fresh (Nat.le_refl _))
def iRng1 (ta : TA) : TI := fun σ H R => ta σ H fun vs H1 => ∃ j : Int, vs = [.int j] ∧ -(2 ^ 62) ≤ j ∧ j < 2 ^ 62 ∧ R (Itr 0 j.toNat) H1
def iRng2 (ta : TA) : TI := fun σ H R => ta σ H fun vs H1 => ∃ i j : Int, vs = [.int i, .int j] ∧ (-(2 ^ 62) ≤ i ∧ i < 2 ^ 62 ∧ -(2 ^ 62) ≤ j ∧ j < 2 ^ 62) ∧ R (Itr i (j - i).toNat) H1
theorem pi_range1 {a : Expr} {ta : TA} {p pos : Pos} (hg : Gl X "range") (hm : X.mg "range" = none) (ha : PA X [a] ta) (hs : starEach [a] X.env = [(false, eval a X.env)] := by rfl) : PI X tg (.Call (.Name "range" p) [a] [] pos) (iRng1 ta) := by
  intro pins s σ H R I h
  refine Call_ (ld_blt I hg hm boot_range (PyProof.Rows.callWith_type1 (thn (ha pos pins s σ H _ I h) fun us s1 ⟨vs, H1, I1, r1, q1⟩ => ?_) hs rfl))
  obtain ⟨j, e, q1, q2, q⟩ := q1
  subst e
  cases r1 with
  | cons r rr =>
    cases rr
    obtain ⟨t, rfl⟩ := r
    exact call_range_1 (range_it I1 (by omega) (by omega) q1 q2 (by simpa using q))
theorem pi_range2 {a b : Expr} {ta : TA} {p pos : Pos} (hg : Gl X "range") (hm : X.mg "range" = none) (ha : PA X [a, b] ta) (hs : starEach [a, b] X.env = [(false, eval a X.env), (false, eval b X.env)] := by rfl) (hs2 : starEach [b] X.env = [(false, eval b X.env)] := by rfl) :
    PI X tg (.Call (.Name "range" p) [a, b] [] pos) (iRng2 ta) := by
  intro pins s σ H R I h
  refine Call_ (ld_blt I hg hm boot_range (PyProof.Rows.callWith_type1 (thn (ha pos pins s σ H _ I h) fun us s1 ⟨vs, H1, I1, r1, q1⟩ => ?_) (by rw [hs, hs2]) (by rw [hs2]; rfl)))
  obtain ⟨i, j, e, ⟨q1, q2, q3, q4⟩, q⟩ := q1
  subst e
  cases r1 with
  | cons r rr =>
    cases rr with
    | cons r' rr =>
      cases rr
      obtain ⟨t, rfl⟩ := r
      obtain ⟨t', rfl⟩ := r'
      exact call_range_2 (range_it I1 q1 q2 q3 q4 q)
def tFor (wi : TI) (g : TG) (tb : TS) : TS := fun D σ H => wi σ H fun J H1 => ∃ W : Nat → Nat → St → Hp → Prop, (∃ m, W 0 m σ H1) ∧ ∀ i m σ H, W i m σ H →
  (J.stop i H ∧ D.nx σ H) ∨ (J.go i H ∧ ∃ N : St → Hp → Prop, (∀ σ' H', N σ' H' → ∃ m', m' < m ∧ W (i + 1) m' σ' H') ∧ ∀ x H', J.yld i H x H' → g x σ H' fun σ2 H2 => tb { D with nx := N, ct := N, bk := D.nx } σ2 H2)
def pinsAt (fp : List Addr) (h : Heap) : List (Addr × Obj) := fp.filterMap fun b => (h.get? b).map fun o => (b, o)
theorem mem_pinsAt {fp : List Addr} {h : Heap} {b : Addr} {o : Obj} (hb : b ∈ fp) (e : h.get? b = some o) : (b, o) ∈ pinsAt fp h := List.mem_filterMap.mpr ⟨b, hb, by rw [e]; rfl⟩
theorem of_pinsAt {fp : List Addr} {h : Heap} {p : Addr × Obj} (hp : p ∈ pinsAt fp h) : p.1 ∈ fp ∧ h.get? p.1 = some p.2 := by
  obtain ⟨b, hb, e⟩ := List.mem_filterMap.mp hp
  cases q : h.get? b with
  | none => rw [q] at e; cases e
  | some o =>
    rw [q] at e
    have e' : (b, o) = p := Option.some.inj e
    subst e'
    exact ⟨hb, q⟩
theorem Inv.pinned {pins : List (Addr × Obj)} {σ : St} {H : Hp} {s : Shared} {fp : List Addr} (I : Inv X pins σ H s) (hf : ∀ b ∈ fp, FpOk X pins H b) (ho : ∀ b ∈ fp, ∃ o, s.heap.get? b = some o ∧ ∀ v, o.data ≠ .cell v) : Inv X (pins ++ pinsAt fp s.heap) σ H s :=
  I.pins_of fun p hp => (List.mem_append.mp hp).elim (fun z => I.pin p (List.mem_append_right _ z)) fun z => by
    obtain ⟨hb, e⟩ := of_pinsAt z
    obtain ⟨f0, f1, f2, _⟩ := hf p.1 hb
    obtain ⟨o, e', d⟩ := ho p.1 hb
    rw [e] at e'; cases e'
    exact ⟨e, f0, f1, f2, d⟩
theorem Inv.unpinned {pins pl : List (Addr × Obj)} {σ : St} {H : Hp} {s : Shared} (I : Inv X (pins ++ pl) σ H s) : Inv X pins σ H s := I.pins_of fun p hp => I.pin p (List.mem_append_right _ (List.mem_append_left _ hp))
theorem ps_for {iter : Expr} {body : List Stmt} {wi : TI} {g : TG} {tb : TS} {pos : Pos} (hp : PassesOwn (model X.prog X.w) X.A X.env X.xe) (hc : X.calm = true) (hi : PI X tg iter wi) (hg : PG X tg g) (hb : PSs X body tb)
    (hs : ∀ x, foldedSetIterable iter X.env x = pure x := by intro _; rfl) : PS X (.For tg iter body [] pos) (tFor wi g tb) := by
  intro pins s σ H D I h
  refine wpAny_For (thn (hi pins s σ H _ I h) fun v s1 h1 => thn h1 fun itv s2 h2 => ?_) hs
  obtain ⟨it, fp, tn, J, H2, e, I2, T, st2, f2, W, ⟨m0, w0⟩, turn⟩ := h2
  subst e
  have stat : ∀ {H' : Hp}, (∀ b ∈ fp, H' b = none) → ∀ b ∈ fp, FpOk X pins H' b := fun hn b hb => ⟨hn b hb, (f2 b hb).2⟩
  refine codeAny_forLoop_any (fun n s' => ∃ i σ' H', Inv X pins σ' H' s' ∧ tn i s'.heap ∧ (∀ b ∈ fp, H' b = none) ∧ W i n σ' H') ?_ m0 ⟨0, σ, H2, I2, st2, fun b hb => (f2 b hb).1, w0⟩
  rintro n s3 ⟨i, σ3, H3, I3, st3, fr3, w3⟩
  rcases turn i n σ3 H3 w3 with ⟨stop, qn⟩ | ⟨go, N, hN, step⟩
  · refine wpAny_passesOwn hp (thn (T.done X rfl rfl rfl hc i pins s3 σ3 H3 X.xe I3 (stat fr3) st3 stop) fun r s4 ⟨hr, I4⟩ => ?_)
    subst hr
    exact wpAny_execs_nil ⟨σ3, H3, I4, qn⟩
  · refine wpAny_passesOwn hp (thn (T.item X rfl rfl rfl hc i pins s3 σ3 H3 X.xe I3 (stat fr3) st3 go) fun r s4 ⟨u, hr, h4⟩ => ?_)
    subst hr
    refine wpAny_passesOwn hp (thn h4 fun _ s5 ⟨x, H5, I5, r5, y5, st5, fr5⟩ => ?_)
    have I5' := I5.pinned (stat fr5) (T.obj _ _ st5)
    refine wpAny_passesOwn hp (thn (hg _ s5 σ3 H5 x u _ I5' r5 (step x H5 y5)) fun _ s6 ⟨σ6, H6, I6, q6⟩ => ?_)
    refine wpAny_passesOwn hp (thn (hb _ s6 σ6 H6 _ I6 q6) fun f s7 q7 => ?_)
    have again : ∀ {σ7 : St} {H7 : Hp}, Inv X (pins ++ pinsAt fp s5.heap) σ7 H7 s7 → N σ7 H7 → ∃ m, m < n ∧ ∃ i σ' H', Inv X pins σ' H' s7 ∧ tn i s7.heap ∧ (∀ b ∈ fp, H' b = none) ∧ W i m σ' H' := fun {σ7 H7} I7 n7 => by
      obtain ⟨m', hm, w7⟩ := hN σ7 H7 n7
      refine ⟨m', hm, i + 1, σ7, H7, I7.unpinned, T.keep _ _ _ st5 fun b hb o e => (I7.pin (b, o) (List.mem_append_right _ (List.mem_append_right _ (mem_pinsAt hb e)))).1, fun b hb => ?_, w7⟩
      obtain ⟨o, e, d⟩ := T.obj _ _ st5 b hb
      exact (I7.pin (b, o) (List.mem_append_right _ (List.mem_append_right _ (mem_pinsAt hb e)))).2.1
    cases f with
    | next => obtain ⟨σ7, H7, I7, n7⟩ := q7; exact again I7 n7
    | cont => obtain ⟨σ7, H7, I7, n7⟩ := q7; exact again I7 n7
    | brk => obtain ⟨σ7, H7, I7, q7⟩ := q7; exact ⟨σ7, H7, I7.unpinned, q7⟩
    | ret v => obtain ⟨x7, σ7, H7, I7, r7, q7⟩ := q7; exact ⟨x7, σ7, H7, I7.unpinned, r7, q7⟩
end
theorem for_list {K : PySem.W.Frag} {a : Addr} {xs : List V} {g : TG} {tb : TS} {D : Ends} {σ : St} {H : Hp} (Pv : Nat → St → Hp → Prop) (h0 : Pv 0 σ H) (hl : ∀ i σ H, i ≤ xs.length → Pv i σ H → SqL K H a xs)
    (hs : ∀ i x σ H, xs[i]? = some x → Pv i σ H → g x σ H fun σ2 H2 => tb { D with nx := Pv (i + 1), ct := Pv (i + 1), bk := D.nx } σ2 H2) (hd : ∀ σ H, Pv xs.length σ H → D.nx σ H) :
    ∃ W : Nat → Nat → St → Hp → Prop, (∃ m, W 0 m σ H) ∧ ∀ i m σ H, W i m σ H →
      ((Itl K a).stop i H ∧ D.nx σ H) ∨ ((Itl K a).go i H ∧ ∃ N : St → Hp → Prop, (∀ σ' H', N σ' H' → ∃ m', m' < m ∧ W (i + 1) m' σ' H') ∧ ∀ x H', (Itl K a).yld i H x H' → g x σ H' fun σ2 H2 => tb { D with nx := N, ct := N, bk := D.nx } σ2 H2) := by
  refine ⟨fun i m σ H => m = xs.length - i ∧ i ≤ xs.length ∧ Pv i σ H, ⟨xs.length, by simp, Nat.zero_le _, h0⟩, ?_⟩
  rintro i m σ H ⟨rfl, hi, p⟩
  have q := hl i σ H hi p
  by_cases hlt : i < xs.length
  · refine .inr ⟨⟨xs, xs[i], q, by simp [hlt]⟩, Pv (i + 1), fun σ' H' p' => ⟨xs.length - (i + 1), by omega, rfl, hlt, p'⟩, fun x H' y => ?_⟩
    obtain ⟨e, y⟩ := y
    subst e
    exact hs i x σ _ (y xs q) p
  · have e : i = xs.length := by omega
    subst e
    exact .inl ⟨⟨xs, q, Nat.le_refl _⟩, hd σ H p⟩
theorem for_tup {K : PySem.W.Frag} {a : Addr} {xs : List V} {g : TG} {tb : TS} {D : Ends} {σ : St} {H : Hp} (Pv : Nat → St → Hp → Prop) (h0 : Pv 0 σ H) (hl : ∀ i σ H, i ≤ xs.length → Pv i σ H → SqT K H a xs)
    (hs : ∀ i x σ H, xs[i]? = some x → Pv i σ H → g x σ H fun σ2 H2 => tb { D with nx := Pv (i + 1), ct := Pv (i + 1), bk := D.nx } σ2 H2) (hd : ∀ σ H, Pv xs.length σ H → D.nx σ H) :
    ∃ W : Nat → Nat → St → Hp → Prop, (∃ m, W 0 m σ H) ∧ ∀ i m σ H, W i m σ H →
      ((Itt K a).stop i H ∧ D.nx σ H) ∨ ((Itt K a).go i H ∧ ∃ N : St → Hp → Prop, (∀ σ' H', N σ' H' → ∃ m', m' < m ∧ W (i + 1) m' σ' H') ∧ ∀ x H', (Itt K a).yld i H x H' → g x σ H' fun σ2 H2 => tb { D with nx := N, ct := N, bk := D.nx } σ2 H2) := by
  refine ⟨fun i m σ H => m = xs.length - i ∧ i ≤ xs.length ∧ Pv i σ H, ⟨xs.length, by simp, Nat.zero_le _, h0⟩, ?_⟩
  rintro i m σ H ⟨rfl, hi, p⟩
  have q := hl i σ H hi p
  by_cases hlt : i < xs.length
  · refine .inr ⟨⟨xs, xs[i], q, by simp [hlt]⟩, Pv (i + 1), fun σ' H' p' => ⟨xs.length - (i + 1), by omega, rfl, hlt, p'⟩, fun x H' y => ?_⟩
    obtain ⟨e, y⟩ := y
    subst e
    exact hs i x σ _ (y xs q) p
  · have e : i = xs.length := by omega
    subst e
    exact .inl ⟨⟨xs, q, Nat.le_refl _⟩, hd σ H p⟩
theorem for_range {lo : Int} {n : Nat} {g : TG} {tb : TS} {D : Ends} {σ : St} {H : Hp} (Pv : Nat → St → Hp → Prop) (h0 : Pv 0 σ H)
    (hs : ∀ i σ H, i < n → Pv i σ H → g (.int (lo + i)) σ H fun σ2 H2 => tb { D with nx := Pv (i + 1), ct := Pv (i + 1), bk := D.nx } σ2 H2) (hd : ∀ σ H, Pv n σ H → D.nx σ H) :
    ∃ W : Nat → Nat → St → Hp → Prop, (∃ m, W 0 m σ H) ∧ ∀ i m σ H, W i m σ H →
      ((Itr lo n).stop i H ∧ D.nx σ H) ∨ ((Itr lo n).go i H ∧ ∃ N : St → Hp → Prop, (∀ σ' H', N σ' H' → ∃ m', m' < m ∧ W (i + 1) m' σ' H') ∧ ∀ x H', (Itr lo n).yld i H x H' → g x σ H' fun σ2 H2 => tb { D with nx := N, ct := N, bk := D.nx } σ2 H2) := by
  refine ⟨fun i m σ H => m = n - i ∧ i ≤ n ∧ Pv i σ H, ⟨n, by simp, Nat.zero_le _, h0⟩, ?_⟩
  rintro i m σ H ⟨rfl, hi, p⟩
  by_cases hlt : i < n
  · refine .inr ⟨hlt, Pv (i + 1), fun σ' H' p' => ⟨n - (i + 1), by omega, rfl, hlt, p'⟩, fun x H' y => ?_⟩
    obtain ⟨e, y⟩ := y
    subst e y
    exact hs i σ _ hlt p
  · have e : i = n := by omega
    subst e
    exact .inl ⟨Nat.le_refl _, hd σ H p⟩
theorem while_by {c : TT} {tb : TS} {D : Ends} {σ : St} {H : Hp} (Pv : St → Hp → Prop) (μ : St → Hp → Nat) (h0 : Pv σ H)
    (hs : ∀ σ H, Pv σ H → c σ H fun b H1 => if b = true then tb { D with nx := fun σ' H' => Pv σ' H' ∧ μ σ' H' < μ σ H, ct := fun σ' H' => Pv σ' H' ∧ μ σ' H' < μ σ H, bk := D.nx } σ H1 else D.nx σ H1)
    (mono : ∀ σ H Q Q', (∀ b H1, Q b H1 → Q' b H1) → c σ H Q → c σ H Q') : tWhile c tb D σ H := by
  refine ⟨fun m σ H => m = μ σ H ∧ Pv σ H, ⟨_, rfl, h0⟩, ?_⟩
  rintro m σ H ⟨rfl, p⟩
  refine mono σ H _ _ (fun b H1 q => ?_) (hs σ H p)
  cases b with
  | true => exact ⟨_, fun σ' H' ⟨p', l⟩ => ⟨_, l, rfl, p'⟩, q⟩
  | false => exact q
end L2
namespace L2
open PySem PySem.Spec PyProof.Rows
abbrev R2 := V → V → Hp → VK → Prop
def OpR (X : Cx) (f : Value → Value → Sem Value) (r : R2) : Prop :=
  ∀ (pins : List (Addr × Obj)) (s : Shared) (σ : St) (H : Hp) (x y : V) (v u : Value) (Q : VK), Inv X pins σ H s → RelV x v → RelV y u → r x y H Q →
    wpAny (model X.prog X.w) X.A (f v u) (EP X pins σ Q) X.xe s
def UnR (X : Cx) (f : Value → Sem Value) (r : V → Hp → VK → Prop) : Prop :=
  ∀ (pins : List (Addr × Obj)) (s : Shared) (σ : St) (H : Hp) (x : V) (v : Value) (Q : VK), Inv X pins σ H s → RelV x v → r x H Q →
    wpAny (model X.prog X.w) X.A (f v) (EP X pins σ Q) X.xe s
def CallR (X : Cx) (f : Value) (r : List V → Hp → VK → Prop) : Prop :=
  ∀ (pins : List (Addr × Obj)) (s : Shared) (σ : St) (H : Hp) (xs : List V) (us : List Value) (Q : VK), Inv X pins σ H s → Vals xs us → r xs H Q →
    wpAny (model X.prog X.w) X.A (call f us) (EP X pins σ Q) X.xe s
def TruR (X : Cx) (r : V → Hp → (Bool → Hp → Prop) → Prop) : Prop :=
  ∀ (pins : List (Addr × Obj)) (s : Shared) (σ : St) (H : Hp) (x : V) (v : Value) (Q : Bool → Hp → Prop), Inv X pins σ H s → RelV x v → r x H Q →
    wpAny (model X.prog X.w) X.A (truthy v) (TP X pins σ Q) X.xe s
def tOp (r : R2) (ta tb : TE) : TE := fun σ H Q => ta σ H fun x H1 => tb σ H1 fun y H2 => r x y H2 Q
def tUn (r : V → Hp → VK → Prop) (ta : TE) : TE := fun σ H Q => ta σ H fun x H1 => r x H1 Q
def rI (C : Int → Int → Prop) (g : Int → Int → V) : R2 := fun x y H Q => ∃ i j, x = .int i ∧ y = .int j ∧ C i j ∧ Q (g i j) H
def rI0 (g : Int → Int → V) : R2 := fun x y H Q => ∃ i j, x = .int i ∧ y = .int j ∧ Q (g i j) H
def rU (g : Int → V) : V → Hp → VK → Prop := fun x H Q => ∃ i, x = .int i ∧ Q (g i) H
section
variable {X : Cx} {a b c : Expr} {ta tb tc : TE} {pos : Pos}
theorem binT (ha : PE X a ta) (hb : PE X b tb) {pins : List (Addr × Obj)} {s : Shared} {σ : St} {H : Hp} {R : V → V → Hp → Prop} (I : Inv X pins σ H s)
    (h : ta σ H fun x H1 => tb σ H1 fun y H2 => R x y H2) {Q : Value → Shared → Prop} {f : Value → Value → Sem Value}
    (hf : ∀ v u s2 x y H2, Inv X pins σ H2 s2 → RelV x v → RelV y u → R x y H2 → wpAny (model X.prog X.w) X.A (f v u) Q X.xe s2) :
    wpAny (model X.prog X.w) X.A (eval a X.env) (fun v s₁ => wpAny (model X.prog X.w) X.A (eval b X.env) (fun u s₂ => wpAny (model X.prog X.w) X.A (f v u) Q X.xe s₂) X.xe s₁) X.xe s := by
  refine thn (ha pins s σ H _ I h) fun v s1 ⟨x, H1, I1, r1, q1⟩ => ?_
  refine thn (hb pins s1 σ H1 _ I1 q1) fun u s2 ⟨y, H2, I2, r2, q2⟩ => ?_
  exact hf v u s2 x y H2 I2 r1 r2 q2
theorem pe_op {op : Operator} {r : R2} (ho : OpR X (binaryOp op) r) (ha : PE X a ta) (hb : PE X b tb) : PE X (.BinOp a op b pos) (tOp r ta tb) := by
  intro pins s σ H Q I h
  exact wpAny_BinOp (binT ha hb I h fun v u s2 x y H2 I2 rx ry q => ho pins s2 σ H2 x y v u Q I2 rx ry q)
theorem opI {f : Value → Value → Sem Value} {C : Int → Int → Prop} {g : Int → Int → Int}
    (rule : ∀ (i j : Int) (t u : Tok) (s : Shared) (Q : Value → Shared → Prop) (E : Value → Shared → Prop), C i j → Q (.int (g i j) s.toks) { s with toks := s.toks + 1 } → wpAny (model X.prog X.w) X.A (f (.int i t) (.int j u)) Q E s) :
    OpR X f (rI C fun i j => .int (g i j)) := by
  intro pins s σ H x y v u Q I rx ry h
  obtain ⟨i, j, rfl, rfl, hc, q⟩ := h
  obtain ⟨t, rfl⟩ := rx
  obtain ⟨t', rfl⟩ := ry
  exact rule i j t t' s _ _ hc ⟨.int (g i j), H, I.tok _, ⟨_, rfl⟩, q⟩
theorem opI0 {f : Value → Value → Sem Value} {g : Int → Int → Int}
    (rule : ∀ (i j : Int) (t u : Tok) (s : Shared) (Q : Value → Shared → Prop) (E : Value → Shared → Prop), Q (.int (g i j) s.toks) { s with toks := s.toks + 1 } → wpAny (model X.prog X.w) X.A (f (.int i t) (.int j u)) Q E s) :
    OpR X f (rI0 fun i j => .int (g i j)) := by
  intro pins s σ H x y v u Q I rx ry h
  obtain ⟨i, j, rfl, rfl, q⟩ := h
  obtain ⟨t, rfl⟩ := rx
  obtain ⟨t', rfl⟩ := ry
  exact rule i j t t' s _ _ ⟨.int (g i j), H, I.tok _, ⟨_, rfl⟩, q⟩
theorem opB0 {f : Value → Value → Sem Value} {g : Int → Int → Bool}
    (rule : ∀ (i j : Int) (t u : Tok) (s : Shared) (Q : Value → Shared → Prop) (E : Value → Shared → Prop), Q (.bool (g i j)) s → wpAny (model X.prog X.w) X.A (f (.int i t) (.int j u)) Q E s) :
    OpR X f (rI0 fun i j => .bl (g i j)) := by
  intro pins s σ H x y v u Q I rx ry h
  obtain ⟨i, j, rfl, rfl, q⟩ := h
  obtain ⟨t, rfl⟩ := rx
  obtain ⟨t', rfl⟩ := ry
  exact rule i j t t' s _ _ ⟨.bl (g i j), H, I, rfl, q⟩
def CDiv (i j : Int) : Prop := 0 < j ∧ j < 1073741824
def CDivN (i j : Int) : Prop := j ≠ 0 ∧ j.natAbs < 1073741824
def CPow (i j : Int) : Prop := 0 ≤ j ∧ j ≤ 1000000 ∧ i.natAbs < 2 ^ 64
def CMul (i j : Int) : Prop := (-(2 ^ 64) < i ∧ i < 2 ^ 64) ∨ (-(2 ^ 64) < j ∧ j < 2 ^ 64)
theorem CMul.ok {i j : Int} (h : CMul i j) : IntMulOk i j := by
  rcases h with ⟨h1, h2⟩ | ⟨h1, h2⟩
  · exact .of_left (intBits_le_64 h1 h2)
  · exact .of_right (intBits_le_64 h1 h2)
theorem op_add : OpR X (binaryOp .Add) (rI0 fun i j => .int (i + j)) := opI0 fun _ _ _ _ _ _ _ q => add_int q
theorem op_sub : OpR X (binaryOp .Sub) (rI0 fun i j => .int (i - j)) := opI0 fun _ _ _ _ _ _ _ q => sub_int q
theorem op_mul : OpR X (binaryOp .Mult) (rI CMul fun i j => .int (i * j)) := opI fun _ _ _ _ _ _ _ hc q => mul_int q hc.ok
theorem op_mod : OpR X (binaryOp .Mod) (rI (fun _ j => 0 < j) fun i j => .int (i % j)) := opI fun i j _ _ _ _ _ hc q => by
  have h1 : (0 : Int) < j := hc
  exact mod_int' (by omega) (by rw [Int.fmod_eq_emod_of_nonneg i (by omega)]; exact q)
theorem op_pow : OpR X (binaryOp .Pow) (rI CPow fun i j => .int (i ^ j.toNat)) := opI fun _ _ _ _ _ _ _ hc q => pow_int_small hc.1 hc.2.1 hc.2.2 q
end
def scal : V → V → Bool
  | .non, .non => true | .non, .int _ => true | .int _, .non => true | .non, .bl _ => true | .bl _, .non => true | .non, .str _ => true | .str _, .non => true
  | .int _, .int _ => true | .bl _, .bl _ => true | .str _, .str _ => true | .byt _, .byt _ => true
  | .int _, .str _ => true | .str _, .int _ => true | .bl _, .str _ => true | .str _, .bl _ => true
  | _, _ => false
def rEq : R2 := fun x y H Q => scal x y = true ∧ Q (.bl (decide (x = y))) H
def rNe : R2 := fun x y H Q => scal x y = true ∧ Q (.bl (!decide (x = y))) H
theorem dec_int {i j : Int} : decide (V.int i = V.int j) = (i == j) := by
  rw [Bool.eq_iff_iff]
  simp
theorem dec_bl {i j : Bool} : decide (V.bl i = V.bl j) = (i == j) := by
  rw [Bool.eq_iff_iff]
  simp
theorem dec_str {i j : Str} : decide (V.str i = V.str j) = (i == j) := by
  rw [Bool.eq_iff_iff]
  simp
theorem dec_byt {i j : Array UInt8} : decide (V.byt i = V.byt j) = (i.toList == j.toList) := by
  rw [Bool.eq_iff_iff]
  cases i
  cases j
  simp
section
variable {X : Cx} {a b c : Expr} {ta tb tc : TE} {pos : Pos}
theorem fin_bl {pins : List (Addr × Obj)} {σ : St} {H : Hp} {s : Shared} {Q : VK} {k k' : Bool} (I : Inv X pins σ H s) (q : Q (.bl k) H) (e : k = k') : EP X pins σ Q (.bool k') s := by
  subst e
  exact ⟨.bl k, H, I, rfl, q⟩
theorem op_eq : OpR X (compareOp .Eq) rEq := by
  intro pins s σ H x y v u Q I rx ry h
  obtain ⟨hs, q⟩ := h
  cases x with
  | non =>
    cases rx
    cases y with
    | non => cases ry; exact PySem.EqNone.eq_none_none (fin_bl I q (by simp))
    | bl j => cases ry; exact PySem.EqNone.eq_none_bool (fin_bl I q (by simp))
    | int j => obtain ⟨t', rfl⟩ := ry; exact PySem.EqNone.eq_none_int (fin_bl I q (by simp))
    | str j => obtain ⟨t', rfl⟩ := ry; exact PySem.EqNone.eq_none_str (fin_bl I q (by simp))
    | _ => exact absurd (show false = true from hs) Bool.false_ne_true
  | bl i =>
    cases rx
    cases y with
    | non => cases ry; exact PySem.EqNone.eq_bool_none (fin_bl I q (by simp))
    | bl j => cases ry; exact eq_bool (fin_bl I q dec_bl)
    | str j => obtain ⟨t', rfl⟩ := ry; exact PySem.EqMixed.eq_bool_str (fin_bl I q (by simp))
    | _ => exact absurd (show false = true from hs) Bool.false_ne_true
  | int i =>
    obtain ⟨t, rfl⟩ := rx
    cases y with
    | non => cases ry; exact PySem.EqNone.eq_int_none (fin_bl I q (by simp))
    | int j => obtain ⟨t', rfl⟩ := ry; exact eq_int (fin_bl I q dec_int)
    | str j => obtain ⟨t', rfl⟩ := ry; exact PySem.EqMixed.eq_int_str (fin_bl I q (by simp))
    | _ => exact absurd (show false = true from hs) Bool.false_ne_true
  | str i =>
    obtain ⟨t, rfl⟩ := rx
    cases y with
    | non => cases ry; exact PySem.EqNone.eq_str_none (fin_bl I q (by simp))
    | bl j => cases ry; exact PySem.EqMixed.eq_str_bool (fin_bl I q (by simp))
    | int j => obtain ⟨t', rfl⟩ := ry; exact PySem.EqMixed.eq_str_int (fin_bl I q (by simp))
    | str j => obtain ⟨t', rfl⟩ := ry; exact eq_str (fin_bl I q dec_str)
    | _ => exact absurd (show false = true from hs) Bool.false_ne_true
  | byt i =>
    obtain ⟨t, rfl⟩ := rx
    cases y with
    | byt j => obtain ⟨t', rfl⟩ := ry; exact PySem.W.eq_bytes (fin_bl I q dec_byt)
    | _ => exact absurd (show false = true from hs) Bool.false_ne_true
  | _ => cases y <;> exact absurd (show false = true from hs) Bool.false_ne_true
theorem op_ne : OpR X (compareOp .NotEq) rNe := by
  intro pins s σ H x y v u Q I rx ry h
  obtain ⟨hs, q⟩ := h
  cases x with
  | non =>
    cases rx
    cases y with
    | non => cases ry; exact PySem.EqNone.ne_none_none (fin_bl I q (by simp))
    | bl j => cases ry; exact PySem.EqNone.ne_none_bool (fin_bl I q (by simp))
    | int j => obtain ⟨t', rfl⟩ := ry; exact PySem.EqNone.ne_none_int (fin_bl I q (by simp))
    | str j => obtain ⟨t', rfl⟩ := ry; exact PySem.EqNone.ne_none_str (fin_bl I q (by simp))
    | _ => exact absurd (show false = true from hs) Bool.false_ne_true
  | bl i =>
    cases rx
    cases y with
    | non => cases ry; exact PySem.EqNone.ne_bool_none (fin_bl I q (by simp))
    | bl j => cases ry; exact ne_bool (fin_bl I q (congrArg not dec_bl))
    | str j => obtain ⟨t', rfl⟩ := ry; exact PySem.EqMixed.ne_bool_str (fin_bl I q (by simp))
    | _ => exact absurd (show false = true from hs) Bool.false_ne_true
  | int i =>
    obtain ⟨t, rfl⟩ := rx
    cases y with
    | non => cases ry; exact PySem.EqNone.ne_int_none (fin_bl I q (by simp))
    | int j => obtain ⟨t', rfl⟩ := ry; exact ne_int (fin_bl I q (congrArg not dec_int))
    | str j => obtain ⟨t', rfl⟩ := ry; exact PySem.EqMixed.ne_int_str (fin_bl I q (by simp))
    | _ => exact absurd (show false = true from hs) Bool.false_ne_true
  | str i =>
    obtain ⟨t, rfl⟩ := rx
    cases y with
    | non => cases ry; exact PySem.EqNone.ne_str_none (fin_bl I q (by simp))
    | bl j => cases ry; exact PySem.EqMixed.ne_str_bool (fin_bl I q (by simp))
    | int j => obtain ⟨t', rfl⟩ := ry; exact PySem.EqMixed.ne_str_int (fin_bl I q (by simp))
    | str j => obtain ⟨t', rfl⟩ := ry; exact ne_str (fin_bl I q (congrArg not dec_str))
    | _ => exact absurd (show false = true from hs) Bool.false_ne_true
  | byt i =>
    obtain ⟨t, rfl⟩ := rx
    cases y with
    | byt j => obtain ⟨t', rfl⟩ := ry; exact PySem.W.ne_bytes (fin_bl I q (congrArg not dec_byt))
    | _ => exact absurd (show false = true from hs) Bool.false_ne_true
  | _ => cases y <;> exact absurd (show false = true from hs) Bool.false_ne_true
theorem op_lt : OpR X (compareOp .Lt) (rI0 fun i j => .bl (decide (i < j))) := opB0 fun _ _ _ _ _ _ _ q => lt_int q
theorem op_le : OpR X (compareOp .LtE) (rI0 fun i j => .bl (decide (i ≤ j))) := opB0 fun _ _ _ _ _ _ _ q => le_int q
theorem op_gt : OpR X (compareOp .Gt) (rI0 fun i j => .bl (decide (j < i))) := opB0 fun _ _ _ _ _ _ _ q => gt_int q
def isObj : HO → Bool
  | .lst _ => true
  | .ins _ _ _ => true
  | _ => false
theorem nomark (b : Expr) {op : CmpOp} (h : op ≠ .In := by decide) (h2 : op ≠ .NotIn := by decide) : behindInMarks op b = false := by
  have e1 : (op == CmpOp.In) = false := by cases op <;> first | rfl | exact absurd rfl h
  have e2 : (op == CmpOp.NotIn) = false := by cases op <;> first | rfl | exact absurd rfl h2
  cases b <;> simp [behindInMarks, e1, e2]
theorem pe_cmpR {op : CmpOp} {r : R2} (ho : OpR X (compareOp op) r) (ha : PE X a ta) (hb : PE X b tb) (hm : behindInMarks op b = false) : PE X (.Compare a [op] [b] pos) (tOp r ta tb) := by
  intro pins s σ H Q I h
  exact wpAny_Compare1 (binT ha hb I h fun v u s2 x y H2 I2 rx ry q => ho pins s2 σ H2 x y v u Q I2 rx ry q) hm
def tTest (t : TE) : TT := fun σ H Q => t σ H fun x H' => ∃ k, x = .bl k ∧ Q k H'
theorem pt_cmpR {op : CmpOp} {r : R2} (ho : OpR X (compareOp op) r) (ha : PE X a ta) (hb : PE X b tb) (hm : behindInMarks op b = false) : PT X (.Compare a [op] [b] pos) (tTest (tOp r ta tb)) := by
  intro pins s σ H Q I h
  refine wpAny_isTrue_Compare1 (thn (ha pins s σ H _ I h) fun v s1 ⟨x, H1, I1, r1, q1⟩ => thn (hb pins s1 σ H1 _ I1 q1) fun u s2 ⟨y, H2, I2, r2, q2⟩ =>
    thn (ho pins s2 σ H2 x y v u _ I2 r1 r2 q2) fun c s3 ⟨z, H3, I3, r3, k, e, q3⟩ => ?_) hm
  subst e
  cases r3
  exact wpAny_truthy_bool ⟨H3, I3, q3⟩
def tChain (r r' : R2) (ta tb tc : TE) : TE := fun σ H Q => ta σ H fun x H1 => tb σ H1 fun y H2 => r x y H2 fun z H3 => ∃ k, z = .bl k ∧
  (if k = true then tc σ H3 fun w' H4 => r' y w' H4 Q else Q (.bl false) H3)
def TruV (K : PySem.W.Frag) (x : V) (H : Hp) (k : Bool) : Prop :=
  match x with
  | .non => k = false
  | .bl b => k = b
  | .int i => k = (i != 0)
  | .str y => y.length ≤ sizeLine ∧ k = ((y.length : Int) != 0)
  | .byt y => y.size ≤ sizeLine ∧ k = ((y.size : Int) != 0)
  | .ref p => (∃ xs, SqL K H p xs ∧ k = !xs.isEmpty) ∨ (∃ xs, SqT K H p xs ∧ k = !xs.isEmpty) ∨ ∃ kvs, H p = some (.dK kvs) ∧ k = !kvs.isEmpty
  | _ => False
theorem line63 : (sizeLine : Nat) < 2 ^ 63 := by rw [sizeLine_eq]; decide
def PlainIxT (b : Expr) : Prop := ∀ o i, subscripted b false o i = operate [o, i] (getItem o i)
theorem vals1 {x : V} {us : List Value} (r : Vals [x] us) : ∃ u, us = [u] ∧ RelV x u := by
  cases r with
  | cons r1 r2 => cases r2; exact ⟨_, rfl, r1⟩
theorem vals2 {x y : V} {us : List Value} (r : Vals [x, y] us) : ∃ u w', us = [u, w'] ∧ RelV x u ∧ RelV y w' := by
  cases r with
  | cons r1 r2 =>
    cases r2 with
    | cons r3 r4 => cases r4; exact ⟨_, _, rfl, r1, r3⟩
theorem call_max2 (hc : X.calm = true) : CallR X (.builtin "max") (fun xs H Q => ∃ i j, xs = [.int i, .int j] ∧ Q (.int (if j > i then j else i)) H) := by
  intro pins s σ H xs us Q I r h
  obtain ⟨i, j, rfl, q⟩ := h
  obtain ⟨u, w', rfl, ⟨t, rfl⟩, ⟨t', rfl⟩⟩ := vals2 r
  refine max_two_ints (I.ok.hd hc) fun h' tk k => ⟨_, H, I.kept k, ?_, q⟩
  by_cases hj : j > i
  · rw [if_pos hj, if_pos hj]; exact ⟨_, rfl⟩
  · rw [if_neg hj, if_neg hj]; exact ⟨_, rfl⟩
theorem call_min2 (hc : X.calm = true) : CallR X (.builtin "min") (fun xs H Q => ∃ i j, xs = [.int i, .int j] ∧ Q (.int (if j < i then j else i)) H) := by
  intro pins s σ H xs us Q I r h
  obtain ⟨i, j, rfl, q⟩ := h
  obtain ⟨u, w', rfl, ⟨t, rfl⟩, ⟨t', rfl⟩⟩ := vals2 r
  refine min_two_ints (I.ok.hd hc) fun h' tk k => ⟨_, H, I.kept k, ?_, q⟩
  by_cases hj : j < i
  · rw [if_pos hj, if_pos hj]; exact ⟨_, rfl⟩
  · rw [if_neg hj, if_neg hj]; exact ⟨_, rfl⟩
theorem call_int1 : CallR X (.type "int") (fun xs H Q => (∃ i, xs = [.int i] ∧ Q (.int i) H) ∨ ∃ k, xs = [.bl k] ∧ Q (.int (if k then 1 else 0)) H) := by
  intro pins s σ H xs us Q I r h
  rcases h with ⟨i, rfl, q⟩ | ⟨k, rfl, q⟩
  · obtain ⟨u, rfl, t, rfl⟩ := vals1 r
    exact call_int_int ⟨.int i, H, I, ⟨_, rfl⟩, q⟩
  · obtain ⟨u, rfl, r1⟩ := vals1 r
    cases r1
    exact call_int_bool ⟨.int (if k then 1 else 0), H, I.tok _, ⟨_, rfl⟩, q⟩
def LenV (K : PySem.W.Frag) (x : V) (H : Hp) (n : Nat) : Prop :=
  match x with
  | .str y => y.length ≤ sizeLine ∧ n = y.length
  | .byt y => y.size ≤ sizeLine ∧ n = y.size
  | .ref p => (∃ xs, SqL K H p xs ∧ n = xs.length) ∨ ∃ xs, SqT K H p xs ∧ n = xs.length
  | _ => False
end
end L2
namespace L2
open PySem PySem.Spec PyProof.Rows
structure ObjM (h : Heap) (x dx C : Addr) (mA : Str → Option Value) : Prop where
  obj : h.get? x = some (PySem.W.instObj C dx)
  ns : h.Ns1 dx mA
  ne : dx ≠ x
theorem lookIn_ns {h : Heap} {dx : Addr} {mA : Str → Option Value} (n : h.Ns1 dx mA) : ∃ od, h.get? dx = some od ∧ ∀ name, PySem.W.lookIn name od = some (mA name) := by
  obtain ⟨o, es, ep, ho, hd, hk, _, hm⟩ := n
  refine ⟨o, ho, fun name => ?_⟩
  have e := hm name
  unfold nsFind findBy at e
  rw [← Array.find?_toList] at e
  unfold PySem.W.lookIn
  rw [hd]
  dsimp only
  split
  · rename_i y q
    rw [q] at e
    exact congrArg some e
  · rename_i q
    rw [q] at e
    have a : es.toList.any (·.refKey) = false := by
      rw [List.any_eq_false]
      intro y hy
      obtain ⟨z, t, hkey⟩ := hk y (Array.mem_toList_iff.mp hy)
      simp [DictEntry.refKey, hkey]
    have a' : ¬ es.toList.any (·.refKey) = true := by rw [a]; exact Bool.false_ne_true
    rw [if_neg a']
    exact congrArg some e
theorem ObjM.look {h : Heap} {x dx C : Addr} {mA : Str → Option Value} (I : ObjM h x dx C mA) : ∃ od, PySem.W.InstAt h x (PySem.W.instObj C dx) C (some od) ∧ ∀ name, PySem.W.lookIn name od = some (mA name) :=
  let ⟨od, ho, hl⟩ := lookIn_ns I.ns
  ⟨od, ⟨I.obj, rfl, rfl, ho⟩, hl⟩
section
variable {prog : Program} {w : World} {A : Around} {E : Value → Shared → Prop} {s : Shared} {K : PySem.W.Frag} {x dx C f : Addr} {mA : Str → Option Value} {name : Str} {v : Value}
end
def putF (f : Str) (v : V) : List (Str × V) → List (Str × V)
  | [] => [(f, v)]
  | (g, x) :: r => if g = f then (g, v) :: r else (g, x) :: putF f v r
theorem RelO.some_of {v : V} {o : Option Value} (r : RelO (some v) o) : ∃ u, o = some u ∧ RelV v u := by
  cases o with
  | none => exact (show False from r).elim
  | some u => exact ⟨u, rfl, r⟩
section
variable {P : Program} {w : World} {H H' : Hp} {h h' : Heap} {a C dx : Addr} {fs fs' : List (Str × V)}
theorem ins_get (hok : HOk P w H h) (e : H a = some (.ins C dx fs)) : ∃ mA, ObjM h a dx C mA ∧ (∀ f, RelO (fs.lookup f) (mA f)) ∧ PySem.Within mA (fs.map (·.1)) ∧ fs.length ≤ 1000 ∧ H dx = some (.own a) := by
  obtain ⟨d, z, ne, ob, mA, n, r, q⟩ := (show ObjOk P w H h a (.ins C dx fs) from hok a _ e)
  exact ⟨mA, ⟨ob, n, ne⟩, r, q, z, d⟩
end
structure Cls (K : PySem.W.Frag) (C : Addr) : Prop where
  pg : PySem.W.plainGet K C Str.empty = true
  hd : PySem.W.hasDictIn K C = true
  po : PySem.W.plainOver K C = true
  sa : PySem.W.findIn K (.ref C) "__setattr__" = some (some (.builtin "object.__setattr__"))
theorem Cls.get {K : PySem.W.Frag} {C : Addr} (c : Cls K C) (f : Str) : PySem.W.plainGet K C f = true := c.pg
def NoAttr (K : PySem.W.Frag) (C : Addr) (f : Str) : Prop := PySem.W.findIn K (.ref C) f = some none
structure Con (K : PySem.W.Frag) (C : Addr) (f : Str) (v : V) (u : Value) : Prop where
  at_ : PySem.W.findIn K (.ref C) f = some (some u)
  rel : RelV v u
  get : PySem.W.specialIn K u "__get__" = some none
  cp : PySem.W.copiedNames.contains f = false
structure Meth (K : PySem.W.Frag) (C : Addr) (m : Str) (f : Addr) : Prop where
  at_ : PySem.W.findIn K (.ref C) m = some (some (.ref f))
  fn : PySem.W.isFn K (.ref f) = true
  kp : PySem.W.keepIn K (.ref f) = true
section
variable {X : Cx} {pins : List (Addr × Obj)} {σ : St} {H : Hp} {s : Shared} {a C dx : Addr} {fs : List (Str × V)} {f : Str} {v : V} {A : Around} {E : Value → Shared → Prop}
theorem Inv.made (I : Inv X pins σ H s) : Inv X pins σ (upd (upd H s.heap.objs.size (.own (s.heap.objs.size + 1))) (s.heap.objs.size + 1) (.ins C s.heap.objs.size []))
    { s with heap := (s.heap.push PySem.W.emptyDict).push (PySem.W.instObj C s.heap.objs.size) } := by
  have e1 : (s.heap.push PySem.W.emptyDict).get? s.heap.objs.size = some PySem.W.emptyDict := Heap.get?_push_size s.heap rfl
  have e2 : ((s.heap.push PySem.W.emptyDict).push (PySem.W.instObj C s.heap.objs.size)).get? (s.heap.objs.size + 1) = some (PySem.W.instObj C s.heap.objs.size) := by
    have := Heap.get?_push_size (s.heap.push PySem.W.emptyDict) (o := PySem.W.instObj C s.heap.objs.size) rfl
    rwa [Heap.size_push] at this
  have e3 : (s.heap.push PySem.W.emptyDict).Ns s.heap.objs.size (fun _ => none) := ⟨PySem.W.emptyDict, #[], _, e1, rfl, (fun e he => absurd he (by simp)), fun _ => rfl⟩
  have I1 := I.laid (a := s.heap.objs.size) (o := .own (s.heap.objs.size + 1)) (h' := s.heap.push PySem.W.emptyDict) (t' := s.toks) (fun b u q => Heap.get?_push_of_some _ q) (Nat.le_refl _) ⟨_, e1⟩
  refine I1.laid (a := s.heap.objs.size + 1) (o := .ins C s.heap.objs.size []) (t' := s.toks) (fun b u q => Heap.get?_push_of_some _ q) (Nat.le_of_eq (Heap.size_push _ _)) ?_
  have ne : s.heap.objs.size ≠ s.heap.objs.size + 1 := Nat.ne_of_lt (Nat.lt_succ_self _)
  refine ⟨by rw [upd_ne ne, upd_same], Nat.zero_le _, ne, e2, fun _ => none, (Heap.Ns1.of_empty e3).at fun o q => Heap.get?_push_of_some _ q, fun _ => True.intro, fun y hy => absurd rfl hy⟩
end
def tFld (K : PySem.W.Frag) (ta : TE) (f : Str) : TE := fun σ H Q => ta σ H fun x H1 => ∃ a C dx fs v, x = .ref a ∧ H1 a = some (.ins C dx fs) ∧ Cls K C ∧ NoAttr K C f ∧ fs.lookup f = some v ∧ Q v H1
def tCon (K : PySem.W.Frag) (ta : TE) (f : Str) : TE := fun σ H Q => ta σ H fun x H1 => ∃ a C dx fs v u, x = .ref a ∧ H1 a = some (.ins C dx fs) ∧ Cls K C ∧ Con K C f v u ∧ fs.lookup f = none ∧ Q v H1
def sFld (K : PySem.W.Frag) (ta tv : TE) (f : Str) : TS := fun D σ H => tv σ H fun y H1 => ta σ H1 fun x H2 => ∃ a C dx fs, x = .ref a ∧ H2 a = some (.ins C dx fs) ∧ Cls K C ∧ NoAttr K C f ∧ fs.length < 1000 ∧
  D.nx σ (upd H2 a (.ins C dx (putF f y fs)))
def InOp (X : Cx) (op : Operator) (rd : V → V → Hp → VK → Prop) : Prop :=
  ∀ (pins : List (Addr × Obj)) (s : Shared) (σ : St) (H : Hp) (x y : V) (u v : Value) (Q : VK), Inv X pins σ H s → RelV x u → RelV y v → rd x y H Q → wpAny (model X.prog X.w) X.A (inplaceOp op u v) (EP X pins σ Q) X.xe s
def sFldAug (K : PySem.W.Frag) (ta tv : TE) (rd : V → V → Hp → VK → Prop) (f : Str) : TS := fun D σ H => ta σ H fun x H1 => ∃ a C dx fs v, x = .ref a ∧ H1 a = some (.ins C dx fs) ∧ Cls K C ∧ NoAttr K C f ∧ fs.lookup f = some v ∧
  tv σ H1 fun y H2 => rd v y H2 fun z H3 => ∃ dx' fs', H3 a = some (.ins C dx' fs') ∧ fs'.length < 1000 ∧ D.nx σ (upd H3 a (.ins C dx' (putF f z fs')))
section
variable {X : Cx} {o e value : Expr} {f : Str} {pos pos' tpos : Pos} {ta tv : TE}
def rAdd : V → V → Hp → VK → Prop := fun x y H Q => ∃ i j, x = .int i ∧ y = .int j ∧ Q (.int (i + j)) H
def rSub : V → V → Hp → VK → Prop := fun x y H Q => ∃ i j, x = .int i ∧ y = .int j ∧ Q (.int (i - j)) H
end
section
variable {X : Cx} {pins : List (Addr × Obj)} {σ : St} {H : Hp} {s : Shared} {A : Around} {E : Value → Shared → Prop} {Q : Value → Shared → Prop} {c : Value} {b : Bool}
inductive TyOf (K : PySem.W.Frag) (H : Hp) : V → Value → Prop where
  | non : TyOf K H .non (.type "NoneType")
  | bl (x : Bool) : TyOf K H (.bl x) (.type "bool")
  | int (i : Int) : TyOf K H (.int i) (.type "int")
  | str (x : Str) : TyOf K H (.str x) (.type "str")
  | flt (x : UInt64) : TyOf K H (.flt x) (.type "float")
  | lst {a : Addr} {xs : List V} (e : H a = some (.lst xs)) : TyOf K H (.ref a) (.type "list")
  | frz {a : Addr} {o : Obj} {xs : List V} (e : H a = some (.frz o (.lst xs))) : TyOf K H (.ref a) (.type "list")
  | tup {a : Addr} {xs : List V} (e : H a = some (.tup xs)) : TyOf K H (.ref a) (.type "tuple")
  | dK {a : Addr} {kvs : List (Key × V)} (e : H a = some (.dK kvs)) : TyOf K H (.ref a) (.type "dict")
  | dT {a : Addr} {kvs : List (List Key × V)} (e : H a = some (.dT kvs)) : TyOf K H (.ref a) (.type "dict")
  | ins {a C dx : Addr} {fs : List (Str × V)} (e : H a = some (.ins C dx fs)) (cl : Cls K C) (ha : PySem.W.findIn K (.ref C) "__class__" = some (some (.builtin "object.__class__")))
      (hn : PySem.W.specialIn K (.builtin "object.__class__") "__get__" = some (some (.builtin "getset_descriptor.__get__"))) (htk : PySem.W.takesIn K (.builtin "object.__class__") = some true)
      (hm : PySem.W.mroIn K C (.type "object") = some true) : TyOf K H (.ref a) (.ref C)
theorem isinst_ok {x : V} {u t : Value} (I : Inv X pins σ H s) (rx : RelV x u) (ty : TyOf X.K H x t) (e : PySem.W.kitOne X.K t c = some b) (h : ∀ tk, Q (.bool b) { s with toks := tk }) :
    wpAny (model X.prog X.w) A (call (.builtin "isinstance") [u, c]) Q E s := by
  cases ty with
  | non => cases (show u = Value.none from rx); exact PySem.W.kia_one PySem.W.kitx_none I.kIn True.intro e (fun z => nomatch z) h
  | bl y => cases (show u = Value.bool y from rx); exact PySem.W.kia_one PySem.W.kitx_bool I.kIn True.intro e (fun z => nomatch z) h
  | int i => obtain ⟨t, q⟩ := (show ∃ t, u = Value.int i t from rx); cases q; exact PySem.W.kia_one PySem.W.kitx_int I.kIn True.intro e (fun z => nomatch z) h
  | str y => obtain ⟨t, q⟩ := (show ∃ t, u = Value.str y t from rx); cases q; exact PySem.W.kia_one PySem.W.kitx_str I.kIn True.intro e (fun z => nomatch z) h
  | flt y => obtain ⟨t, q⟩ := (show ∃ t, u = Value.float y t from rx); cases q; exact PySem.W.kia_one PySem.W.kitx_float I.kIn True.intro e (fun z => nomatch z) h
  | @lst a xs ea =>
    cases (show u = Value.ref a from rx)
    obtain ⟨_, _, n, _, h1⟩ := (show ObjOk X.prog X.w H s.heap a (.lst xs) from I.hok a _ ea)
    exact PySem.W.kia_one PySem.W.kitx_list I.kIn ⟨_, h1, rfl⟩ e (fun z => nomatch z) h
  | @frz a ob xs ea =>
    cases (show u = Value.ref a from rx)
    obtain ⟨_, _, _, n, _, h1⟩ := (show ObjOk X.prog X.w H s.heap a (.frz ob (.lst xs)) from I.hok a _ ea)
    exact PySem.W.kia_one PySem.W.kitx_list I.kIn ⟨_, h1, rfl⟩ e (fun z => nomatch z) h
  | @tup a xs ea =>
    cases (show u = Value.ref a from rx)
    obtain ⟨_, _, _, p⟩ := (show ObjOk X.prog X.w H s.heap a (.tup xs) from I.hok a _ ea)
    obtain ⟨o, h1, h2, _⟩ := p
    exact PySem.W.kia_one PySem.W.kitx_tuple I.kIn ⟨o, h1, h2⟩ e (fun z => nomatch z) h
  | @dK a kvs ea =>
    cases (show u = Value.ref a from rx)
    obtain ⟨_, _, vs, _, p⟩ := (show ObjOk X.prog X.w H s.heap a (.dK kvs) from I.hok a _ ea)
    obtain ⟨o, es, ep, h1, h2, _⟩ := p
    exact PySem.W.kia_one PySem.W.kitx_dict I.kIn ⟨o, h1, h2.1⟩ e (fun z => nomatch z) h
  | @dT a kvs ea =>
    cases (show u = Value.ref a from rx)
    obtain ⟨_, _, xs, _, o, es, ep, h1, h2, _⟩ := (show ObjOk X.prog X.w H s.heap a (.dT kvs) from I.hok a _ ea)
    exact PySem.W.kia_one PySem.W.kitx_dict I.kIn ⟨o, h1, h2.1⟩ e (fun z => nomatch z) h
  | @ins a C dx fs ea cl ha hn htk hm =>
    cases (show u = Value.ref a from rx)
    obtain ⟨mA, O, _⟩ := ins_get I.hok ea
    obtain ⟨od, J, _⟩ := O.look
    exact PySem.W.kia_one (PySem.W.kitx_own (cl.get _) cl.hd ha hn htk hm) I.kIn J e (fun z => nomatch z) h
end
end L2
namespace L2
open PySem PySem.Spec PyProof.Rows
structure Room (k : Nat) (A : Around) : Prop where
  hd : A.handled = none
  dp : A.depth + 3 * k + 5 < recursionLimit
  un : A.units + 16 * k + 200 < cLine
theorem Room.mono {j k : Nat} {A : Around} (r : Room k A) (h : j ≤ k) : Room j A := ⟨r.hd, by have := r.dp; omega, by have := r.un; omega⟩
theorem Room.deeper {k : Nat} {A : Around} (r : Room (k + 1) A) (env : Env) : Room k (A.deeper env) :=
  ⟨r.hd, by have := r.dp; show A.depth + 1 + 3 * k + 5 < _; omega, by have := r.un; show A.units + 3 + 16 * k + 200 < _; omega⟩
theorem Room.in1 {k : Nat} {A : Around} (r : Room (k + 1) A) : Room k A.in1 :=
  ⟨r.hd, by have := r.dp; show A.depth + 3 * k + 5 < _; omega, by have := r.un; show A.units + 1 + 16 * k + 200 < _; omega⟩
theorem Room.depth {k : Nat} {A : Around} (r : Room k A) : A.depth < recursionLimit := by have := r.dp; omega
theorem Room.units {k : Nat} {A : Around} (r : Room k A) : A.units + 64 < cLine := by have := r.un; omega
def tNil : TA := fun _ H Q => Q [] H
def tCons (ta : TE) (tr : TA) : TA := fun σ H Q => ta σ H fun x H1 => tr σ H1 fun xs H2 => Q (x :: xs) H2
section
variable {X : Cx} {e : Expr} {es : List Expr} {te : TE} {t : TA} {pos : Pos}
theorem pa_nil : PA X [] tNil := fun _ _ _ _ H Q I h => Calls.spliced_nil ⟨[], H, I, .nil, h⟩
theorem pa_cons (ha : PE X e te) (hr : PA X es t) (hs : starEach (e :: es) X.env = (false, eval e X.env) :: starEach es X.env := by rfl) : PA X (e :: es) (tCons te t) := by
  intro pos pins s σ H Q I h
  rw [hs]
  show wpAny _ _ (spliced ((false, eval e X.env) :: backTo pos (starEach es X.env))) _ _ s
  refine Calls.spliced_cons (thn (ha pins s σ H _ I h) fun u s1 ⟨x, H1, I1, r1, q1⟩ => ?_)
  exact thn (hr pos pins s1 σ H1 _ I1 q1) fun us s2 ⟨xs, H2, I2, r2, q2⟩ => ⟨x :: xs, H2, I2, .cons r1 r2, q2⟩
def tTup (t : TA) : TE := fun σ H Q => t σ H fun xs H1 => xs.length ≤ sizeLine ∧ ∀ p, H1 p = none → Q (.ref p) (upd H1 p (.tup xs))
def tLst (t : TA) : TE := fun σ H Q => t σ H fun xs H1 => xs.length ≤ sizeLine ∧ ∀ p, H1 p = none → Q (.ref p) (upd H1 p (.lst xs))
theorem pe_tup {x1} (h : PA X es t) : PE X (.Tuple es x1 pos) (tTup t) := by
  intro pins s σ H Q I hq
  refine wpAny_Tuple_spliced (thn (h pos pins s σ H _ I hq) fun us s1 ⟨xs, H1, I1, r, z, q⟩ => ⟨by rw [← r.length]; exact z, ?_⟩)
  have hf : H1 s1.heap.objs.size = none := I1.hok.fresh (Nat.le_refl _)
  refine ⟨.ref s1.heap.objs.size, upd H1 s1.heap.objs.size (.tup xs), I1.laid (t' := s1.toks) (fun b u e => Heap.get?_push_of_some _ e) (Nat.le_refl _) ?_, rfl, q _ hf⟩
  exact ⟨z, us, r, ⟨_, Heap.get?_push_size _ rfl, rfl, _, rfl⟩⟩
theorem pe_lst (h : PA X es t) : PE X (.List es pos) (tLst t) := by
  intro pins s σ H Q I hq
  refine wpAny_List_spliced (thn (h pos pins s σ H _ I hq) fun us s1 ⟨xs, H1, I1, r, z, q⟩ => ⟨by rw [← r.length]; exact z, ?_⟩)
  have hf : H1 s1.heap.objs.size = none := I1.hok.fresh (Nat.le_refl _)
  refine ⟨.ref s1.heap.objs.size, upd H1 s1.heap.objs.size (.lst xs), I1.laid (t' := s1.toks) (fun b u e => Heap.get?_push_of_some _ e) (Nat.le_refl _) ?_, rfl, q _ hf⟩
  exact ⟨z, us, 0, r, Heap.get?_push_size _ rfl⟩
end
abbrev Sp := List V → Hp → VK → XK → Prop
abbrev CXT := List Env → Hp → Shared → XK → Value → Shared → Prop
structure Env0 (P : Program) (w : World) (K : PySem.W.Frag) (mg : Str → Option Value) (base : Heap) (A : Around) (outer : List Env) (s : Shared) (H : Hp) : Prop where
  frames : A.frames = some outer
  mod : Mod K mg base
  bs : ∀ b o, base.get? b = some o → s.heap.get? b = some o ∧ H b = none
  bsz : base.objs.size ≤ s.heap.objs.size
  funs : s.heap.FunFrames base outer
  frf : ∀ b ∈ frs outer, H b = none
  hok : HOk P w H s.heap
  bare : AllBare s.gens
def CE (outer : List Env) (P : Program) (w : World) (H : Hp) (s : Shared) (Q : VK) (u : Value) (s' : Shared) : Prop :=
  ∃ v H', s'.os = s.os ∧ AllBare s'.gens ∧ Un (frs outer) [] H H' s.heap s'.heap ∧ HOk P w H' s'.heap ∧ RelV v u ∧ Q v H'
def CR (CX : CXT) (outer : List Env) (P : Program) (w : World) (H : Hp) (s : Shared) (Q : VK) (E : XK) (r : Result) (s' : Shared) : Prop :=
  match r with
  | .ok (.ret u) => CE outer P w H s Q u s'
  | .ok _ => False
  | .error e => CX outer H s E e s'
structure FnOk (P : Program) (w : World) (K : PySem.W.Frag) (mg : Str → Option Value) (base : Heap) (CX : CXT) (k : Nat) (f : Addr) (fd : FuncData) (ps : List Str) (sp : Sp) : Prop where
  len : ∀ vs H Q E, sp vs H Q E → vs.length = ps.length
  run : ∀ (A : Around) (outer : List Env) (s : Shared) (H : Hp) (args : Args) (us : List Value) (vs : List V) (Q : VK) (E : XK), Room k A → Env0 P w K mg base A outer s H → BindsTo s fd args (ps.zip us) → Vals vs us → sp vs H Q E →
    codeAny (model P w) A (.call (.ref f) args) (CR CX outer P w H s Q E) s
theorem FnOk.mono {P : Program} {w : World} {K : PySem.W.Frag} {mg : Str → Option Value} {base : Heap} {CX : CXT} {j k : Nat} {f : Addr} {fd : FuncData} {ps : List Str} {sp : Sp} (F : FnOk P w K mg base CX j f fd ps sp) (h : j ≤ k) :
    FnOk P w K mg base CX k f fd ps sp := ⟨F.len, fun A outer s H args us vs Q E hr => F.run A outer s H args us vs Q E (hr.mono h)⟩
theorem FnOk.imp {P : Program} {w : World} {K : PySem.W.Frag} {mg : Str → Option Value} {base : Heap} {CX : CXT} {k : Nat} {f : Addr} {fd : FuncData} {ps : List Str} {sp sp' : Sp} (F : FnOk P w K mg base CX k f fd ps sp)
    (h : ∀ vs H Q E, sp' vs H Q E → sp vs H Q E) : FnOk P w K mg base CX k f fd ps sp' :=
  ⟨fun vs H Q E q => F.len vs H Q E (h _ _ _ _ q), fun A outer s H args us vs Q E hr he hb hv hs => F.run A outer s H args us vs Q E hr he hb hv (h _ _ _ _ hs)⟩
theorem Env0.in1 {P : Program} {w : World} {K : PySem.W.Frag} {mg : Str → Option Value} {base : Heap} {A : Around} {outer : List Env} {s : Shared} {H : Hp} (e : Env0 P w K mg base A outer s H) :
    Env0 P w K mg base A.in1 outer s H := ⟨e.frames, e.mod, e.bs, e.bsz, e.funs, e.frf, e.hok, e.bare⟩
section
variable {X : Cx} {pins : List (Addr × Obj)} {σ : St} {H : Hp} {s s' : Shared}
theorem Inv.env0 (I : Inv X pins σ H s) : Env0 X.prog X.w X.K X.mg X.base X.A X.stack s H :=
  ⟨I.ok.frames, I.ok.mod, I.bs, Nat.le_trans I.ok.bsz I.sz, I.stack, I.stkFree, I.hok, I.bare⟩
theorem Inv.after {Q : VK} {u : Value} (I : Inv X pins σ H s) (h : CE X.stack X.prog X.w H s Q u s') : EP X pins σ Q u s' := by
  obtain ⟨v, H', os, bare, un, hok, r, q⟩ := h
  obtain ⟨hh, g, d, t, os'⟩ := s'
  obtain rfl : os' = s.os := os
  exact ⟨v, H', I.call (h' := hh) (g' := g) (d' := d) (t' := t) (ch := []) un hok bare (fun b z => absurd z (by simp)), r, q⟩
end
def tCall (sp : Sp) (dvs : List V) (E : XK) (t : TA) : TE := fun σ H Q => t σ H fun vs H1 => sp (vs ++ dvs) H1 Q E
def tMeth (C : Addr) (m : Str) (sp : Sp) (dvs : List V) (E : XK) (ta : TE) (t : TA) : TE := fun σ H Q => ta σ H fun x H1 => ∃ a dx fs, x = .ref a ∧ H1 a = some (.ins C dx fs) ∧ fs.lookup m = none ∧
  t σ H1 fun vs H2 => sp (x :: (vs ++ dvs)) H2 Q E
def tMake (C : Addr) (sp : Sp) (dvs : List V) (E : XK) (t : TA) : TE := fun σ H Q => t σ H fun vs H1 => ∀ x dx, H1 x = none → H1 dx = none → dx ≠ x →
  sp (.ref x :: (vs ++ dvs)) (upd (upd H1 dx (.own x)) x (.ins C dx [])) (fun v H2 => v = .non ∧ Q (.ref x) H2) E
def Binds (K : PySem.W.Frag) (fd : FuncData) (ps : List Str) (ds : List Value) : Prop :=
  ∀ (s : Shared) (us : List Value), K.In s.heap → (us ++ ds).length = ps.length → BindsTo s fd ⟨us, []⟩ (ps.zip (us ++ ds))
theorem Binds.all {K : PySem.W.Frag} {fd : FuncData} {ps : List Str} (h : ∀ us : List Value, us.length = ps.length → bindArgs fd ⟨us, []⟩ = pure (ps.zip us)) : Binds K fd ps [] := fun s us _ hl => by
  rw [List.append_nil] at hl ⊢
  exact .of_eq (h us hl)
def Passes (CX : CXT) (X : Cx) (E : XK) : Prop := ∀ (pins : List (Addr × Obj)) (σ : St) (H : Hp) (s : Shared) (e : Value) (s' : Shared), Inv X pins σ H s → CX X.stack H s E e s' → X.xe e s'
section
variable {X : Cx} {CX : CXT} {k : Nat} {f C : Addr} {fd : FuncData} {ps : List Str} {sp : Sp} {dvs : List V} {ds : List Value} {E : XK} {x m : Str} {p pos apos : Pos} {e o : Expr} {es : List Expr} {ta : TE} {t : TA}
theorem run_fn {pins : List (Addr × Obj)} {σ : St} {H : Hp} {s : Shared} {Q : VK} {us : List Value} {vs : List V} (F : FnOk X.prog X.w X.K X.mg X.base CX k f fd ps sp) (hr : Room k X.A) (hb : Binds X.K fd ps ds) (hd : Vals dvs ds) (hx : Passes CX X E)
    (I : Inv X pins σ H s) (r : Vals vs us) (h : sp (vs ++ dvs) H Q E) : wpAny (model X.prog X.w) X.A (call (.ref f) us) (EP X pins σ Q) X.xe s := by
  have r2 : Vals (vs ++ dvs) (us ++ ds) := r.append hd
  have hl : (us ++ ds).length = ps.length := by rw [← r2.length]; exact F.len _ _ _ _ h
  refine wpAny_call (codeAny_mono (F.run X.A X.stack s H ⟨us, []⟩ (us ++ ds) (vs ++ dvs) Q E hr I.env0 (hb s us I.kIn hl) r2 h) fun r s' hq => ?_)
  cases r with
  | error e => exact hx pins σ H s e s' I hq
  | ok fl =>
    cases fl with
    | ret u => exact I.after hq
    | next => exact False.elim hq
    | brk => exact False.elim hq
    | cont => exact False.elim hq
theorem pe_call (F : FnOk X.prog X.w X.K X.mg X.base CX k f fd ps sp) (hr : Room k X.A) (hg : Gl X x) (hm : X.mg x = some (.ref f)) (hk : PySem.W.keepIn X.K (.ref f) = true) (hb : Binds X.K fd ps ds) (hd : Vals dvs ds) (hx : Passes CX X E)
    (ha : PA X (e :: es) t) (hdb : (x == ("__debug__" : Str)) = false := by decide) (he : starEach (e :: es) X.env = (false, eval e X.env) :: starEach es X.env := by rfl) (hpl : (backTo pos (starEach es X.env)).any (·.1) = false := by rfl) :
    PE X (.Call (.Name x p) (e :: es) [] pos) (tCall sp dvs E t) := by
  intro pins s σ H Q I h
  refine wpAny_Call_Name_kw (ld_glob I hg hm ?_ hdb)
  refine PySem.W.callWith_K (h₀ := X.base) I.ok.mod.kin hk (thn (ha pos pins s σ H _ I h) fun us s1 ⟨vs, H1, I1, r, q⟩ => ⟨I1.kIn, ?_⟩) he hpl
  exact run_fn F hr hb hd hx I1 r q
structure Mk (K : PySem.W.Frag) (C f : Addr) : Prop where
  makes : PySem.W.makesIn K C = true
  init : PySem.W.findIn K (.ref C) "__init__" = some (some (.ref f))
  fn : PySem.W.isFn K (.ref f) = true
  kp : PySem.W.keepIn K (.ref C) = true
end
def PK (X : Cx) (kws : List Keyword) (t : TA) : Prop :=
  ∀ (pos : Pos) (pins : List (Addr × Obj)) (s : Shared) (σ : St) (H : Hp) (Q : List V → Hp → Prop), Inv X pins σ H s → t σ H Q → wpAny (model X.prog X.w) X.A (evalAll ((backToKw pos (keywordEach kws X.env)).map (·.2))) (AP X pins σ Q) X.xe s
section
variable {X : Cx} {CX : CXT} {k : Nat} {f C : Addr} {fd : FuncData} {ps ks : List Str} {sp : Sp} {E : XK} {x m : Str} {p pos apos kpos : Pos} {e o : Expr} {es : List Expr} {kws : List Keyword} {te ta : TE} {t tk : TA} {nm : Option Str}
structure KBinds (K : PySem.W.Frag) (fd : FuncData) (ps ks : List Str) (g : List Value → List Value → List Value) (gV : List V → List V → List V) : Prop where
  to : ∀ (s : Shared) (us ws : List Value), K.In s.heap → (g us ws).length = ps.length → BindsTo s fd ⟨us, ks.zip ws⟩ (ps.zip (g us ws))
  rel : ∀ {vs : List V} {us : List Value} {zs : List V} {ws : List Value}, Vals vs us → Vals zs ws → Vals (gV vs zs) (g us ws)
def tCallK (sp : Sp) (gV : List V → List V → List V) (E : XK) (t tk : TA) : TE := fun σ H Q => t σ H fun vs H1 => tk σ H1 fun zs H2 => sp (gV vs zs) H2 Q E
variable {g : List Value → List Value → List Value} {gV : List V → List V → List V}
end
structure FnScope (N P : List Str) (sc : Scope) : Prop where
  kind : sc.kind = .function
  co : sc.isCoroutine = false
  gen : sc.isGenerator = false
  nd : N.Nodup
  pre : N.take P.length = P
  par : ∀ x ∈ P, sc.names.lookup x = some .local ∨ sc.names.lookup x = some .cell
  nofree : ∀ y ∈ sc.names, y.2 ≠ .free
theorem bindL_out {kindOf : Str → Option NameKind} {x : Str} : ∀ {binds : List (Str × Value)} {m : Str → Option Value}, (∀ v, (x, v) ∉ binds) → bindL kindOf binds m x = m x
  | [], _, _ => rfl
  | (n, v) :: r, m, h => by
    unfold bindL
    rw [bindL_out fun w hw => h w (List.mem_cons_of_mem _ hw)]
    split
    · have : x ≠ n := by rintro rfl; exact h v List.mem_cons_self
      simp [this]
    · rfl
theorem bindC_out {kindOf : Str → Option NameKind} {x : Str} : ∀ {binds : List (Str × Value)} {m : Str → Option Value}, (∀ v, (x, v) ∉ binds) → bindC kindOf binds m x = m x
  | [], _, _ => rfl
  | (n, v) :: r, m, h => by
    unfold bindC
    rw [bindC_out fun w hw => h w (List.mem_cons_of_mem _ hw)]
    split
    · rfl
    · have : x ≠ n := by rintro rfl; exact h v List.mem_cons_self
      simp [this]
theorem bindL_get {kindOf : Str → Option NameKind} {x : Str} {v : Value} : ∀ {P : List Str} {vs : List Value} {i : Nat} {m : Str → Option Value}, P.Nodup → P[i]? = some x → vs[i]? = some v → kindOf x = some .local →
    bindL kindOf (P.zip vs) m x = some v
  | [], _, _, _, _, h, _, _ => by simp at h
  | _ :: _, [], _, _, _, _, h, _ => by simp at h
  | p :: P, w :: vs, 0, m, nd, h1, h2, hk => by
    simp at h1 h2; subst h1; subst h2
    show bindL kindOf ((p, w) :: P.zip vs) m p = _
    unfold bindL
    rw [bindL_out fun v hv => (List.nodup_cons.mp nd).1 (List.of_mem_zip hv).1, if_pos hk]
    simp
  | p :: P, w :: vs, i + 1, m, nd, h1, h2, hk => by
    show bindL kindOf ((p, w) :: P.zip vs) m x = _
    unfold bindL
    exact bindL_get (i := i) (List.nodup_cons.mp nd).2 (by simpa using h1) (by simpa using h2) hk
theorem bindC_get {kindOf : Str → Option NameKind} {x : Str} {v : Value} : ∀ {P : List Str} {vs : List Value} {i : Nat} {m : Str → Option Value}, P.Nodup → P[i]? = some x → vs[i]? = some v → kindOf x ≠ some .local →
    bindC kindOf (P.zip vs) m x = some v
  | [], _, _, _, _, h, _, _ => by simp at h
  | _ :: _, [], _, _, _, _, h, _ => by simp at h
  | p :: P, w :: vs, 0, m, nd, h1, h2, hk => by
    simp at h1 h2; subst h1; subst h2
    show bindC kindOf ((p, w) :: P.zip vs) m p = _
    unfold bindC
    rw [bindC_out fun v hv => (List.nodup_cons.mp nd).1 (List.of_mem_zip hv).1, if_neg hk]
    simp
  | p :: P, w :: vs, i + 1, m, nd, h1, h2, hk => by
    show bindC kindOf ((p, w) :: P.zip vs) m x = _
    unfold bindC
    exact bindC_get (i := i) (List.nodup_cons.mp nd).2 (by simpa using h1) (by simpa using h2) hk
def start (N : List Str) (vs : List V) : St := vs.map some ++ List.replicate (N.length - vs.length) none
def cxOf (CX : CXT) (P : Program) (w : World) (K : PySem.W.Frag) (mg : Str → Option Value) (base : Heap) (N : List Str) (qual : Str) (scope : Scope) (f : Addr) (cd : Value) (A : Around) (outer : List Env) (s : Shared) (H : Hp) (E : XK) : Cx where
  prog := P
  w := w
  K := K
  mg := mg
  base := base
  A := A.deeper (envOfC qual scope s.heap.objs.size f cd)
  N := N
  s₀ := s
  H₀ := H
  env := envOfC qual scope s.heap.objs.size f cd
  outer := outer
  stack := envOfC qual scope s.heap.objs.size f cd :: outer
  ex := []
  calm := true
  fn := fun _ => true
  pn := []
  xe := fun e s' => wpAny (model P w) (A.deeper (envOfC qual scope s.heap.objs.size f cd)) (leaving (envOfC qual scope s.heap.objs.size f cd) e) (fun _ s'' => CX outer H s E e s'') (fun e' s'' => CX outer H s E e' s'') s'
theorem cell_has {sc : Scope} {n : Nat} {x : Str} (h : sc.names.lookup x = some .cell) : ∃ c, (cellsFrom n sc.names []).lookup x = some c := by
  have q := PySem.W.cellsFrom_some sc.names n [] (.inl h)
  exact Option.isSome_iff_exists.mp q
theorem inv_start {CX : CXT} {P : Program} {w : World} {K : PySem.W.Frag} {mg : Str → Option Value} {base : Heap} {N ps : List Str} {qual : Str} {scope : Scope} {f : Addr} {cd : Value} {A : Around} {outer : List Env} {s s1 : Shared} {H : Hp} {E : XK} {us : List Value} {vs : List V}
    (S : FnScope N ps scope) (hd : A.handled = none) (e0 : Env0 P w K mg base A outer s H) (hl : vs.length = ps.length) (r : Vals vs us)
    (x : InCallC s s.heap.objs.size (bindL (envOfC qual scope s.heap.objs.size f cd).kindOf (ps.zip us) fun _ => none) (cellsFrom (s.heap.objs.size + 1) scope.names []) (bindC (envOfC qual scope s.heap.objs.size f cd).kindOf (ps.zip us) fun _ => none) s1) :
    Inv (cxOf CX P w K mg base N qual scope f cd A outer s H E) [] (start N vs) H s1 := by
  have hpl : ps.length ≤ N.length := by have := congrArg List.length S.pre; rw [List.length_take] at this; omega
  obtain ⟨h1, tk, rfl, hk⟩ := x.done
  have noA : ∀ b : Addr, b ∉ (cxOf CX P w K mg base N qual scope f cd A outer s H E).ex := fun b z => absurd (show b ∈ ([] : List Addr) from z) (by simp)
  refine ⟨⟨e0.mod, S.kind, rfl, rfl, Nat.le_refl _, fun y z c h1 h2 => ?_, fun y hy => ?_, fun y c _ h => ?_, fun _ => hd, Around.frames_deeper e0.frames, .inr ⟨rfl, rfl⟩, fun b z => absurd z (noA b), e0.bs, e0.bsz, fun b _ _ => noA b, fun b z => absurd z (noA b), e0.funs, e0.frf⟩,
    rfl, e0.bare, Un.kept hk, ⟨_, x.toInCall.ns, fun i y v h1 h2 h3 => ?_⟩, fun y c h => ⟨_, x.cell y c h⟩, e0.hok.fresh (Nat.le_refl _), fun y c h => ?_, fun p hp => absurd (show p ∈ ([] : List (Addr × Obj)) from hp) (by simp), e0.hok.kept hk, ?_⟩
  · exact name_of_addr x.apart (PySem.mem_of_lookup h1) (PySem.mem_of_lookup h2)
  · have hy : scope.names.lookup y = some .cell ∨ scope.names.lookup y = some .free := hy
    rcases hy with hy | hy
    · exact cell_has hy
    · exact absurd rfl (S.nofree _ (PySem.mem_of_lookup hy))
  · exact Nat.le_of_lt (x.above y c (PySem.mem_of_lookup h))
  · have hi : i < vs.length := by
      unfold start at h2
      by_cases hi : i < vs.length
      · exact hi
      · rw [List.getElem?_append_right (by simpa using hi)] at h2
        rw [List.getElem?_replicate] at h2
        split at h2 <;> cases h2
    have ha : vs[i]? = some v := by
      unfold start at h2
      rw [List.getElem?_append_left (by simpa using hi), List.getElem?_map] at h2
      cases e : vs[i]? with
      | none => rw [e] at h2; cases h2
      | some a => rw [e] at h2; cases h2; rfl
    obtain ⟨u, hu, rv⟩ := r.get ha
    have hp : ps[i]? = some y := by
      rw [← S.pre, List.getElem?_take_of_lt (by omega)]; exact h1
    have ndP : ps.Nodup := by rw [← S.pre]; exact S.nd.sublist (List.take_sublist _ _)
    refine ⟨u, rv, ?_⟩
    rcases S.par y (List.mem_of_getElem? hp) with k | k
    · exact .inl ⟨k, bindL_get ndP hp hu k⟩
    · obtain ⟨c, e⟩ := cell_has (n := s.heap.objs.size + 1) k
      refine .inr ⟨.inl k, c, e, ?_⟩
      have q := x.cell y c e
      rw [bindC_get ndP hp hu (by show scope.names.lookup y ≠ _; rw [k]; decide)] at q
      exact q
  · exact e0.hok.fresh (Nat.le_of_lt (x.above y c (PySem.mem_of_lookup h)))
  · unfold start
    show _ = N.length
    rw [List.length_append, List.length_map, List.length_replicate]
    omega
theorem fn_of {CX : CXT} {P : Program} {w : World} {K : PySem.W.Frag} {mg : Str → Option Value} {base : Heap} {k : Nat} {f : Addr} {name qual : Str} {params : Arguments} {body : List Stmt} {scope : Scope} {dV kV doc pm cdv ct oc : Value} {an od : Option Addr}
    {osl : Array (Option Value)} {N ps : List Str} {sp : Sp} (lk : K.lookup f = some ⟨oc, od, .func (PySem.W.fnOf name qual params body scope dV kV doc pm an cdv ct), osl⟩) (hcd : PySem.W.codeIn K cdv qual = true) (S : FnScope N ps scope)
    (len : ∀ vs H Q E, sp vs H Q E → vs.length = ps.length)
    (hbody : ∀ (A : Around) (outer : List Env) (s : Shared) (H : Hp) (vs : List V) (Q : VK) (E : XK), Room k (A.deeper (envOfC qual scope s.heap.objs.size f cdv)) → sp vs H Q E →
      ∃ t, PSs (cxOf CX P w K mg base N qual scope f cdv A outer s H E) body t ∧ t { nx := fun _ H' => Q .non H', rt := Q } (start N vs) H) :
    FnOk P w K mg base CX (k + 1) f (PySem.W.fnOf name qual params body scope dV kV doc pm an cdv ct) ps sp := by
  refine ⟨len, fun A outer s H args us vs Q E hr e0 hb r hsp => ?_⟩
  have hl := len _ _ _ _ hsp
  have KX : K.In s.heap := e0.mod.kin.keeps fun b o e => (e0.bs b o e).1
  have lim : s.heap.NoLimit := e0.mod.nolimit.keeps fun b o e => (e0.bs b o e).1
  have hkind : ∀ y ∈ ps.zip us, scope.names.lookup y.1 = some .local ∨ (scope.names.lookup y.1 = some .cell ∧ ((cellsFrom (s.heap.objs.size + 1) scope.names []).lookup y.1).isSome = true) := fun ⟨n, v⟩ hy => by
    rcases S.par n (List.of_mem_zip hy).1 with q | q
    · exact .inl q
    · exact .inr ⟨q, PySem.W.cellsFrom_some _ _ _ (.inl q)⟩
  refine codeAny_call_function hr.depth (KX _ _ lk) rfl S.co S.gen rfl (PySem.W.codeRec_of KX hcd) (hb _ _ _ _ ?_)
  refine wpAny_newFunctionEnv_cells S.kind hkind fun env he s1 x => ?_
  subst he
  refine ⟨lim.keeps x.toInCall.keep, codeAny_func ?_⟩
  obtain ⟨t, ht, hq⟩ := hbody A outer s H vs Q E (hr.deeper _) hsp
  have I : Inv (cxOf CX P w K mg base N qual scope f cdv A outer s H E) [] (start N vs) H s1 := inv_start S hr.hd e0 hl r x
  refine wpAny_mono (ht [] s1 (start N vs) H _ I hq) (fun fl s' hs => ?_) fun e s' hs => hs
  have fin : ∀ {σ' : St} {H' : Hp} {v : V} {u : Value}, Inv (cxOf CX P w K mg base N qual scope f cdv A outer s H E) [] σ' H' s' → RelV v u → Q v H' → CE outer P w H s Q u s' :=
    fun {σ' H' v u} J rv q => ⟨v, H', J.os, J.bare, J.base, J.hok, rv, q⟩
  cases fl with
  | ret u =>
    obtain ⟨v, σ', H', J, rv, q⟩ := hs
    exact fin J rv q
  | next =>
    obtain ⟨σ', H', J, q⟩ := hs
    exact fin (v := V.non) (u := Value.none) J rfl q
  | brk =>
    obtain ⟨_, _, _, q⟩ := hs
    exact False.elim q
  | cont =>
    obtain ⟨_, _, _, q⟩ := hs
    exact False.elim q
end L2
namespace L2
open PySem PySem.Spec PyProof.Rows
section
variable {X : Cx} {x : Str} {p pos : Pos} {e : Expr} {es : List Expr} {t : TA} {id T : String} {r : List V → Hp → VK → Prop}
def tCB (r : List V → Hp → VK → Prop) (t : TA) : TE := fun σ H Q => t σ H fun vs H1 => r vs H1 Q
theorem pe_callB (hc : CallR X (.builtin id) r) (hg : Gl X x) (hm : X.mg x = none) (hv : bootBuiltins x = some (.builtin id)) (ha : PA X (e :: es) t) (hn : x ≠ "__name__" := by decide) (hdb : (x == ("__debug__" : Str)) = false := by decide)
    (he : starEach (e :: es) X.env = (false, eval e X.env) :: starEach es X.env := by rfl) (hpl : (backTo pos (starEach es X.env)).any (·.1) = false := by rfl) : PE X (.Call (.Name x p) (e :: es) [] pos) (tCB r t) := by
  intro pins s σ H Q I h
  refine wpAny_Call_Name_kw (ld_blt I hg hm hv ?_ hn hdb)
  exact PyProof.Rows.callWith_builtin1 (thn (ha pos pins s σ H _ I h) fun us s1 ⟨vs, H1, I1, r1, q1⟩ => hc pins s1 σ H1 vs us Q I1 r1 q1) he hpl
theorem pe_callTy (hc : CallR X (.type T) r) (hg : Gl X x) (hm : X.mg x = none) (hv : bootBuiltins x = some (.type T)) (ha : PA X (e :: es) t) (hn : x ≠ "__name__" := by decide) (hdb : (x == ("__debug__" : Str)) = false := by decide)
    (he : starEach (e :: es) X.env = (false, eval e X.env) :: starEach es X.env := by rfl) (hpl : (backTo pos (starEach es X.env)).any (·.1) = false := by rfl) : PE X (.Call (.Name x p) (e :: es) [] pos) (tCB r t) := by
  intro pins s σ H Q I h
  refine wpAny_Call_Name_kw (ld_blt I hg hm hv ?_ hn hdb)
  exact PyProof.Rows.callWith_type1 (thn (ha pos pins s σ H _ I h) fun us s1 ⟨vs, H1, I1, r1, q1⟩ => hc pins s1 σ H1 vs us Q I1 r1 q1) he hpl
end
end L2
namespace HT
open PySem PyProof.Rows
def lexLt : List Int → List Int → Bool
  | [], [] => false
  | [], _ :: _ => true
  | _ :: _, [] => false
  | x :: xs, y :: ys => if x = y then lexLt xs ys else decide (x < y)
section
open PySem.SeqAt
open PySem.AutoSeq1 (wpAny_loadPart')
open PySem.MeetsSeq PySem.MeetsSeq2 PySem.MeetsSeq3
end
section
variable {prog : Program} {w : World} {A : Around} {E : Value → Shared → Prop} {s : Shared}
def sIx (n d : Nat) : Option Int → Nat
  | none => d
  | some v => if v < 0 then (v + (n : Int)).toNat else min v.toNat n
theorem sIx_none (n d : Nat) : sIx n d none = d := rfl
theorem sIx_nat (n d k : Nat) : sIx n d (some (k : Int)) = min k n := by
  show (if (k : Int) < 0 then ((k : Int) + (n : Int)).toNat else min (k : Int).toNat n) = min k n
  rw [if_neg (by omega), Int.toNat_natCast]
theorem sIx_le (n d : Nat) (hd : d ≤ n) (o : Option Int) : sIx n d o ≤ n := by
  cases o with
  | none => exact hd
  | some v =>
    show (if v < 0 then (v + (n : Int)).toNat else min v.toNat n) ≤ n
    by_cases hv : v < 0
    · rw [if_pos hv]; omega
    · rw [if_neg hv]; exact Nat.min_le_right _ _
theorem clip_eq (v : Int) (n d : Nat) : (if v < 0 then max (v + (n : Int)) 0 else min v (n : Int)) = ((sIx n d (some v) : Nat) : Int) := by
  show (if v < 0 then max (v + (n : Int)) 0 else min v (n : Int)) = (((if v < 0 then (v + (n : Int)).toNat else min v.toNat n) : Nat) : Int)
  by_cases hv : v < 0
  · simp only [if_pos hv]; omega
  · simp only [if_neg hv]; omega
theorem adjust_gen (lo hi : Option Int) (n : Nat) : Builtin.Slice.sliceAdjust lo hi 1 (n : Int) = (((sIx n 0 lo : Nat) : Int), ((sIx n n hi : Nat) : Int)) := by
  have h1 : ¬ ((1 : Int) < 0) := by omega
  unfold Builtin.Slice.sliceAdjust
  simp only [h1, if_false]
  refine Prod.ext ?_ ?_
  · cases lo with
    | none => rfl
    | some v => exact clip_eq v n 0
  · cases hi with
    | none => rfl
    | some v => exact clip_eq v n n
theorem places_gen (i j : Nat) : Builtin.Slice.slicePlaces (i : Int) (j : Int) 1 = j - i := by
  unfold Builtin.Slice.slicePlaces
  have h1 : (1 : Int) > 0 := by omega
  simp only [h1, if_true, Int.ediv_one]
  split <;> omega
theorem slicePart_ {v : Value} {o : Option Int} {Q : Option Int → Shared → Prop} (p : IsPart v o) (h : Q o s) : wpAny (model prog w) A (Builtin.Slice.slicePartIndex v) Q E s := by
  cases p with
  | none => exact slicePart_none h
  | int i t => exact slicePart_int h
theorem sliceApplied_gen {sl : Addr} {vl vu : Value} {lo hi : Option Int} {n : Nat} {Q : Int × Int × Nat → Shared → Prop} (hs : s.heap.IsSliceOf sl vl vu .none) (pl : IsPart vl lo) (pu : IsPart vu hi)
    (h : Q (((sIx n 0 lo : Nat) : Int), 1, sIx n n hi - sIx n 0 lo) s) : wpAny (model prog w) A (Builtin.Slice.sliceApplied (.ref sl) (pure (n : Int))) Q E s := by
  obtain ⟨os, hos, hcs, hds⟩ := id hs
  unfold Builtin.Slice.sliceApplied Builtin.Slice.sliceFields
  refine wpAny_bind (wpAny_bind (wpAny_field hos hds (x := vl) rfl (wpAny_bind (wpAny_field hos hds (x := vu) rfl (wpAny_bind (wpAny_field hos hds (x := .none) rfl (wpAny_pure ?_)))))))
  refine wpAny_bind (slicePart_none ?_)
  show wpAny _ _ (if ((1 : Int) == 0) = true then _ else _) _ _ s
  rw [if_neg (by decide)]
  refine wpAny_bind (slicePart_ pl (wpAny_bind (slicePart_ pu (wpAny_bind (wpAny_pure ?_)))))
  show wpAny _ _ (match Builtin.Slice.sliceAdjust lo hi 1 (n : Int) with | (lo, hi) => pure (lo, (1 : Int), Builtin.Slice.slicePlaces lo hi 1)) _ _ s
  rw [adjust_gen lo hi n]
  show wpAny _ _ (pure (((sIx n 0 lo : Nat) : Int), (1 : Int), Builtin.Slice.slicePlaces ((sIx n 0 lo : Nat) : Int) ((sIx n n hi : Nat) : Int) 1)) _ _ s
  rw [places_gen]
  exact wpAny_pure h
theorem pick_gen (xs : Array Value) (i k : Nat) : ((List.range k).filterMap fun (m : Nat) => xs[((i : Int) + (m : Int) * 1).toNat]?).toArray = ((xs.toList.drop i).take k).toArray := by
  have e : (fun (m : Nat) => xs[((i : Int) + (m : Int) * 1).toNat]?) = fun m => xs[i + m]? := by
    funext m
    have : ((i : Int) + (m : Int) * 1).toNat = i + m := by omega
    rw [this]
  rw [e]
  have := pick_run xs i k
  rw [List.filterMap_map] at this
  have e2 : ((fun x => xs[x]?) ∘ fun x => i + x) = fun m => xs[i + m]? := rfl
  rw [e2] at this
  rw [this]
theorem getItem_tuple_cut {t sl : Addr} {items : Array Value} {vl vu : Value} {lo hi : Option Int} {Q : Value → Shared → Prop} (ht : IsTup s.heap t items) (hs : s.heap.IsSliceOf sl vl vu .none) (pl : IsPart vl lo) (pu : IsPart vu hi)
    (hw : ¬ (sIx items.size 0 lo = 0 ∧ sIx items.size items.size hi = items.size))
    (h : Q (.ref s.heap.objs.size) { s with heap := s.heap.push { cls := .type "tuple", data := .seq ((items.toList.drop (sIx items.size 0 lo)).take (sIx items.size items.size hi - sIx items.size 0 lo)).toArray } })
    (hsz : items.size ≤ sizeLine) : wpAny (model prog w) A (getItem (.ref t) (.ref sl)) Q E s := by
  have htake : sizeOk (.seq ((items.toList.drop (sIx items.size 0 lo)).take (sIx items.size items.size hi - sIx items.size 0 lo)).toArray) := by
    show ((items.toList.drop (sIx items.size 0 lo)).take (sIx items.size items.size hi - sIx items.size 0 lo)).toArray.size ≤ sizeLine
    rw [List.size_toArray, List.length_take, List.length_drop, Array.length_toList]
    omega
  have hj : sIx items.size items.size hi ≤ items.size := sIx_le _ _ (Nat.le_refl _) hi
  obtain ⟨os, hos, hcs, hds⟩ := id hs
  have hTs : s.TypeIs (.ref sl) "slice" := ⟨os, hos, hcs⟩
  unfold getItem
  try with_reducible refine wpAny_holding ?_
  first | refine wpAny_bind (wpAny_pure ?_) | skip
  refine wpAny_bind (wpAny_sequenceKey ht.typeIs (by decide) ?_)
  refine wpAny_bind (wpAny_callSpecial?_slot (name := Str.ofString "__getitem__") ht.typeIs PyProof.Rows.slot_tuple_getitem
    (wpAny_call_entry PyProof.Rows.slot_tuple_getitem ht.typeIs entry_tuple_getitem ?_ (args_tuple_getitem _ _)))
  show wpAny _ _ (Builtin.Tuple.tupleItemsOf (.ref t) >>= _) _ _ s
  refine wpAny_bind (tupleItemsOf_ ht ?_)
  refine wpAny_bind (wpAny_typeOf hTs ?_)
  rw [if_pos (by decide)]
  refine wpAny_bind (sliceApplied_gen hs pl pu ?_)
  have hno : ¬ ((((sIx items.size 0 lo : Nat) : Int) == 0 && (1 : Int) == 1 && (sIx items.size items.size hi - sIx items.size 0 lo) == items.size) = true) := by
    intro q
    rw [Bool.and_eq_true, Bool.and_eq_true] at q
    have q1 : ((sIx items.size 0 lo : Nat) : Int) = 0 := eq_of_beq q.1.1
    have q2 : sIx items.size items.size hi - sIx items.size 0 lo = items.size := eq_of_beq q.2
    exact hw ⟨by omega, by omega⟩
  show wpAny _ _ (if (((sIx items.size 0 lo : Nat) : Int) == 0 && (1 : Int) == 1 && (sIx items.size items.size hi - sIx items.size 0 lo) == items.size) = true then _ else _) _ _ s
  rw [if_neg hno, pick_gen]
  first
    | exact wpAny_bind (m := Builtin.Tuple.tupleExact _) (wpAny_newObj_type (wpAny_pure ⟨_, rfl, wpAny_pure h⟩) htake)
    | exact wpAny_bind (m := Builtin.Tuple.tupleExact _) (wpAny_newObj_type (wpAny_bind (wpAny_pure (wpAny_pure ⟨_, rfl, wpAny_pure h⟩))) htake)
    | exact wpAny_bind (wpAny_bind (m := Builtin.Tuple.tupleExact _) (wpAny_newObj_type (wpAny_pure (wpAny_pure ⟨_, rfl, wpAny_pure h⟩)) htake))
    | exact wpAny_bind (wpAny_bind (m := Builtin.Tuple.tupleExact _) (wpAny_newObj_type (wpAny_pure ⟨_, rfl, wpAny_pure h⟩) htake))
end
end HT
namespace L2
open PySem PySem.Spec PyProof.Rows
abbrev TO := St → Hp → (Option Int → Hp → Prop) → Prop
def PO (X : Cx) (e : Option Expr) (t : TO) : Prop :=
  ∀ (pins : List (Addr × Obj)) (s : Shared) (σ : St) (H : Hp) (Q : Option Int → Hp → Prop), Inv X pins σ H s → t σ H Q →
    wpAny (model X.prog X.w) X.A (evalPart e X.env) (fun u s' => ∃ o H', Inv X pins σ H' s' ∧ IsPart u o ∧ Q o H') X.xe s
def tNoPart : TO := fun _ H Q => Q none H
def tPart (t : TE) : TO := fun σ H Q => t σ H fun x H1 => ∃ i, x = .int i ∧ Q (some i) H1
section
variable {X : Cx} {e : Expr} {te : TE} {lo hi : Option Expr} {tl th : TO} {pos p2 : Pos}
theorem po_none : PO X none tNoPart := by
  intro pins s σ H Q I h
  rw [evalPart_none]
  exact wpAny_pure ⟨none, H, I, .none, h⟩
theorem po_some (h : PE X e te) : PO X (some e) (tPart te) := by
  intro pins s σ H Q I hw
  rw [evalPart_some]
  refine thn (h pins s σ H _ I hw) fun u s1 ⟨x, H1, I1, r1, q1⟩ => ?_
  obtain ⟨i, rfl, q⟩ := q1
  obtain ⟨t, rfl⟩ := r1
  exact ⟨some i, H1, I1, .int i t, q⟩
def SlR (X : Cx) (r : V → Option Int → Option Int → Hp → VK → Prop) : Prop :=
  ∀ (pins : List (Addr × Obj)) (s : Shared) (σ : St) (H : Hp) (x : V) (v vl vu : Value) (lo hi : Option Int) (sl : Addr) (Q : VK), Inv X pins σ H s → RelV x v → s.heap.IsSliceOf sl vl vu .none → IsPart vl lo → IsPart vu hi → r x lo hi H Q →
    ∃ T id, typeLookup (.type T) "__getitem__" = pure (some (.builtin id)) ∧ s.TypeIs v T ∧ wpAny (model X.prog X.w) X.A (getItem v (.ref sl)) (EP X pins σ Q) X.xe s
def tSl (r : V → Option Int → Option Int → Hp → VK → Prop) (te : TE) (tl th : TO) : TE := fun σ H Q => te σ H fun x H1 => tl σ H1 fun l H2 => th σ H2 fun u H3 => r x l u H3 Q
theorem pe_slice {r : V → Option Int → Option Int → Hp → VK → Prop} (hr : SlR X r) (he : PE X e te) (hl : PO X lo tl) (hu : PO X hi th) : PE X (.Subscript e (.Slice lo hi none p2) pos) (tSl r te tl th) := by
  intro pins s σ H Q I h
  refine Subscript_ (thn (he pins s σ H _ I h) fun v s1 ⟨x, H1, I1, r1, q1⟩ => ?_)
  refine wpAny_Slice (thn (hl pins s1 σ H1 _ I1 q1) fun vl s2 ⟨l, H2, I2, pl, q2⟩ => thn (hu pins s2 σ H2 _ I2 q2) fun vu s3 ⟨u, H3, I3, pu, q3⟩ => ?_)
  rw [evalPart_none]
  refine wpAny_pure ?_
  have I4 : Inv X pins σ H3 { s3 with heap := s3.heap.push { cls := .type "slice", data := .fields #[vl, vu, .none] } } := I3.kept (t' := s3.toks) fun b ob q => Heap.get?_push_of_some _ q
  obtain ⟨T, id, hT, ht, hg⟩ := hr pins { s3 with heap := s3.heap.push { cls := .type "slice", data := .fields #[vl, vu, .none] } } σ H3 x v vl vu l u s3.heap.objs.size Q I4 r1 (Heap.IsSliceOf.new ..) pl pu q3
  show wpAny (model X.prog X.w) X.A (subscriptTail e (.Slice lo hi none p2) v (.ref s3.heap.objs.size)) (EP X pins σ Q) X.xe { s3 with heap := s3.heap.push { cls := .type "slice", data := .fields #[vl, vu, .none] } }
  exact tail_any (ops := [.ref s3.heap.objs.size, v]) ht hT hg (by with_unfolding_all rfl)
def cutV (xs : List V) (lo hi : Option Int) : List V := (xs.drop (HT.sIx xs.length 0 lo)).take (HT.sIx xs.length xs.length hi - HT.sIx xs.length 0 lo)
theorem cutV_length (xs : List V) (lo hi : Option Int) : (cutV xs lo hi).length ≤ xs.length := by
  unfold cutV
  rw [List.length_take, List.length_drop]
  omega
def rSlT (K : PySem.W.Frag) : V → Option Int → Option Int → Hp → VK → Prop := fun x lo hi H Q => ∃ a xs, x = .ref a ∧ SqT K H a xs ∧
  ¬ (HT.sIx xs.length 0 lo = 0 ∧ HT.sIx xs.length xs.length hi = xs.length) ∧ ∀ p, H p = none → Q (.ref p) (upd H p (.tup (cutV xs lo hi)))
theorem sl_tup : SlR X (rSlT X.K) := by
  intro pins s σ H x v vl vu lo hi sl Q I rx hs pl pu h
  obtain ⟨a, xs, rfl, hx, hw, q⟩ := h
  cases rx
  obtain ⟨its, r, ht, hz⟩ := I.tuple hx
  have hlen : its.toArray.size = xs.length := by rw [List.size_toArray]; exact r.length.symm
  refine ⟨"tuple", _, PyProof.Rows.slot_tuple_getitem.lookup, ht.typeIs, ?_⟩
  refine HT.getItem_tuple_cut ht hs pl pu (by rw [hlen]; exact hw) ?_ (by rw [hlen]; exact hz)
  rw [hlen]
  refine ⟨.ref s.heap.objs.size, _, I.laid (t' := s.toks) (o := .tup (cutV xs lo hi)) (fun b ob q => Heap.get?_push_of_some _ q) (Nat.le_refl _) ?_, rfl, q _ (I.hok.fresh (Nat.le_refl _))⟩
  exact ⟨Nat.le_trans (cutV_length xs lo hi) hz, _, (r.drop (HT.sIx xs.length 0 lo)).take (HT.sIx xs.length xs.length hi - HT.sIx xs.length 0 lo), IsTup.new _ _⟩
def rLtT (K : PySem.W.Frag) : R2 := fun x y H Q => ∃ a b ns ms, x = .ref a ∧ y = .ref b ∧ SqT K H a (ns.map V.int) ∧ SqT K H b (ms.map V.int) ∧ Q (.bl (HT.lexLt ns ms)) H
def rCatT (K : PySem.W.Frag) : R2 := fun x y H Q => ∃ a b xs ys, x = .ref a ∧ y = .ref b ∧ SqT K H a xs ∧ SqT K H b ys ∧ xs ≠ [] ∧ xs.length + ys.length ≤ sizeLine ∧
  (ys = [] → Q (.ref a) H) ∧ (ys ≠ [] → ∀ p, H p = none → Q (.ref p) (upd H p (.tup (xs ++ ys))))
end
end L2
namespace L2
open PySem PySem.Spec PyProof.Rows
def ixN (n : Nat) (i : Int) : Option Nat := if 0 ≤ i then (if i < n then some i.toNat else none) else if -(n : Int) ≤ i then some (i + n).toNat else none
def atI {α : Type} (xs : List α) (i : Int) : Option α := (ixN xs.length i).bind fun j => xs[j]?
theorem ixN_seq {n : Nat} {i : Int} {j : Nat} (h : ixN n i = some j) : seqIndex? i n = some j ∧ j < n ∧ -(n : Int) ≤ i ∧ i < n := by
  unfold ixN at h
  by_cases h0 : 0 ≤ i
  · rw [if_pos h0] at h
    by_cases h1 : i < n
    · rw [if_pos h1] at h
      have e : i.toNat = j := Option.some.inj h
      exact ⟨by rw [seqIndex_of h0 h1, e], by omega, by omega, h1⟩
    · rw [if_neg h1] at h; cases h
  · rw [if_neg h0] at h
    by_cases h1 : -(n : Int) ≤ i
    · rw [if_pos h1] at h
      have e : (i + n).toNat = j := Option.some.inj h
      exact ⟨by rw [seqIndex_neg (by omega) h1, e], by omega, h1, by omega⟩
    · rw [if_neg h1] at h; cases h
theorem atI_get {α : Type} {xs : List α} {i : Int} {v : α} (h : atI xs i = some v) : ∃ j, seqIndex? i xs.length = some j ∧ xs[j]? = some v ∧ j < xs.length ∧ -(xs.length : Int) ≤ i ∧ i < xs.length := by
  unfold atI at h
  cases e : ixN xs.length i with
  | none => rw [e] at h; cases h
  | some j =>
    rw [e] at h
    obtain ⟨h1, h2, h3, h4⟩ := ixN_seq e
    exact ⟨j, h1, h, h2, h3, h4⟩
theorem atI_nat {α : Type} {xs : List α} {j : Nat} {v : α} (h : xs[j]? = some v) : atI xs (j : Int) = some v := by
  have hj : j < xs.length := (List.getElem?_eq_some_iff.mp h).1
  have e : ixN xs.length (j : Int) = some j := by
    unfold ixN
    rw [if_pos (by omega), if_pos (by omega)]; simp
  unfold atI; rw [e]; exact h
def PlainIx (b : Expr) : Prop := ∀ o i, subscripted b false o i = operate [o, i] (getItem o i)
def IxR (X : Cx) (r : R2) : Prop :=
  ∀ (value slice : Expr) (pins : List (Addr × Obj)) (s : Shared) (σ : St) (H : Hp) (x y : V) (v u : Value) (Q : VK), Inv X pins σ H s → RelV x v → RelV y u → r x y H Q →
    subscripted slice false v u = operate [v, u] (getItem v u) → wpAny (model X.prog X.w) X.A (subscriptTail value slice v u) (EP X pins σ Q) X.xe s
def MtR (X : Cx) (id : String) (r : V → List V → Hp → VK → Prop) : Prop :=
  ∀ (pins : List (Addr × Obj)) (s : Shared) (σ : St) (H : Hp) (x : V) (xs : List V) (v : Value) (us : List Value) (Q : VK), Inv X pins σ H s → RelV x v → Vals xs us → r x xs H Q →
    wpAny (model X.prog X.w) X.A (call (.builtin id) (v :: us)) (EP X pins σ Q) X.xe s
section
variable {X : Cx} {a b : Expr} {ta tb : TE} {pos : Pos}
theorem pe_ix {r : R2} (hr : IxR X r) (ha : PE X a ta) (hb : PE X b tb) (hs : PlainIx b) : PE X (.Subscript a b pos) (tOp r ta tb) := by
  intro pins s σ H Q I h
  exact Subscript_ (binT ha hb I h fun v u s2 x y H2 I2 rx ry q => hr a b pins s2 σ H2 x y v u Q I2 rx ry q (hs _ _))
def rIxL (K : PySem.W.Frag) : R2 := fun x y H Q => ∃ p xs i v, x = .ref p ∧ y = .int i ∧ SqL K H p xs ∧ atI xs i = some v ∧ Q v H
def rIxT (K : PySem.W.Frag) : R2 := fun x y H Q => ∃ p xs i v, x = .ref p ∧ y = .int i ∧ SqT K H p xs ∧ atI xs i = some v ∧ Q v H
def rIxS : R2 := fun x y H Q => ∃ z i c, x = .str z ∧ y = .int i ∧ z.length ≤ sizeLine ∧ atI z.cps.toList i = some c ∧ Q (.str ⟨#[c]⟩) H
theorem ix_list : IxR X (rIxL X.K) := by
  intro value slice pins s σ H x y v u Q I rx ry h hs
  obtain ⟨p, xs, i, z, rfl, rfl, hq, he, q⟩ := h
  cases rx
  obtain ⟨t, rfl⟩ := ry
  obtain ⟨its, r, pl, hz⟩ := I.list hq
  obtain ⟨j, h1, h2, h3, h4, h5⟩ := atI_get he
  obtain ⟨w, ew, rw'⟩ := r.get h2
  have hl := r.length
  have hn := line63
  have fin : EP X pins σ Q w s := ⟨z, H, I, rw', q⟩
  by_cases h0 : 0 ≤ i
  · have hj : i.toNat = j := by
      rw [seqIndex_of h0 h5] at h1
      exact Option.some.inj h1
    exact item_listR pl.isList h0 (by omega) (by rw [hj]; simpa using ew) fin hs
  · have hj : (i + (its.toArray.size : Int)).toNat = j := by
      rw [seqIndex_neg (by omega) h4] at h1
      rw [List.size_toArray, ← hl]
      exact Option.some.inj h1
    exact subscriptTail_builtinR (x := w) pl.isList.typeIs slot_list_getitem.lookup
      (wpAny_getItem_list_neg (Q := fun r s' => r = w ∧ EP X pins σ Q r s') pl.isList (by omega) (by rw [List.size_toArray] <;> omega) (by omega) (by rw [hj]; simpa using ew) ⟨rfl, fin⟩) hs
theorem ix_tup : IxR X (rIxT X.K) := by
  intro value slice pins s σ H x y v u Q I rx ry h hs
  obtain ⟨p, xs, i, z, rfl, rfl, hq, he, q⟩ := h
  cases rx
  obtain ⟨t, rfl⟩ := ry
  obtain ⟨its, r, pl, hz⟩ := I.tuple hq
  obtain ⟨j, h1, h2, h3, h4, h5⟩ := atI_get he
  obtain ⟨w, ew, rw'⟩ := r.get h2
  have hl := r.length
  have hn := line63
  have fin : EP X pins σ Q w s := ⟨z, H, I, rw', q⟩
  exact subscriptTail_builtinR (x := w) pl.typeIs slot_tuple_getitem.lookup
    (getItem_tuple (j := j) (Q := fun r s' => r = w ∧ EP X pins σ Q r s') pl (by omega) (by omega) (by rw [List.size_toArray, ← hl]; exact h1) (by simpa using ew) ⟨rfl, fin⟩) hs
def rIx (K : PySem.W.Frag) : R2 := fun x y H Q => rIxL K x y H Q ∨ rIxT K x y H Q ∨ rIxS x y H Q
theorem mapSeq_set (its : List Value) (n j : Nat) (u : Value) : Obj.mapSeq (·.setIfInBounds j u) { cls := .type "list", data := .seq its.toArray n } = { cls := .type "list", data := .seq (its.set j u).toArray n } := by
  simp [Obj.mapSeq]
theorem Inv.lst {pins : List (Addr × Obj)} {σ : St} {H : Hp} {s : Shared} {p : Addr} {xs : List V} (I : Inv X pins σ H s) (h : H p = some (.lst xs)) :
    ∃ (its : List Value) (n : Nat), Vals xs its ∧ s.heap.get? p = some { cls := .type "list", data := .seq its.toArray n } ∧ xs.length ≤ sizeLine := by
  obtain ⟨z, its, n, r, e⟩ := I.hok p _ h
  exact ⟨its, n, r, e, z⟩
theorem Inv.lstUpd {pins : List (Addr × Obj)} {σ : St} {H : Hp} {s : Shared} {p : Addr} {xs ys : List V} {its its' : List Value} {n n' : Nat} {f : Obj → Obj} (I : Inv X pins σ H s) (h : H p = some (.lst xs))
    (ho : s.heap.get? p = some { cls := .type "list", data := .seq its.toArray n }) (hf : f { cls := .type "list", data := .seq its.toArray n } = { cls := .type "list", data := .seq its'.toArray n' }) (r : Vals ys its') (hz : ys.length ≤ sizeLine) (t : Nat) :
    Inv X pins σ (upd H p (.lst ys)) { s with heap := s.heap.update p f, toks := t } := by
  have e : (s.heap.update p f).get? p = some { cls := .type "list", data := .seq its'.toArray n' } := by
    rw [Heap.get?_update_self f ho (by rw [hf] <;> rfl), hf]
  refine I.write (x := p) (e := p) (by rw [h]; trivial) (.inl rfl) (fun b u hb q => (Heap.get?_update_other _ _ (Ne.symm hb)).trans q) ⟨_, e⟩ ?_
  exact ⟨hz, its', n', r, e⟩
def rSetL : V → V → V → Hp → (Hp → Prop) → Prop := fun o i v H Q => ∃ p xs k j, o = .ref p ∧ i = .int k ∧ H p = some (.lst xs) ∧ ixN xs.length k = some j ∧ Q (upd H p (.lst (xs.set j v)))
theorem set_list : PSet X rSetL := by
  intro pins s σ H o i v ov iv u Q I ro ri rv h
  obtain ⟨p, xs, k, j, rfl, rfl, hp, hj, q⟩ := h
  cases ro
  obtain ⟨t, rfl⟩ := ri
  obtain ⟨its, n, r, ho, hz⟩ := I.lst hp
  obtain ⟨h1, h2, h3, h4⟩ := ixN_seq hj
  have hl := r.length
  have hn := line63
  have I' : Inv X pins σ (upd H p (.lst (xs.set j v))) { s with heap := s.heap.update p (Obj.mapSeq (·.setIfInBounds j u)) } :=
    I.lstUpd hp ho (mapSeq_set its n j u) (r.set rv j) (by rw [List.length_set]; exact hz) s.toks
  by_cases h0 : 0 ≤ k
  · have hk : k.toNat = j := by
      rw [seqIndex_of h0 h4] at h1
      exact Option.some.inj h1
    exact PySem.W.ki_setAt ho h0 (by omega) (by rw [List.size_toArray, ← hl]; exact h4) (by rw [hk]; exact ⟨_, I', q⟩)
  · have hk : (k + (its.toArray.size : Int)).toNat = j := by
      rw [seqIndex_neg (by omega) h3] at h1
      rw [List.size_toArray, ← hl]
      exact Option.some.inj h1
    exact PySem.W.ki_setBack ho (by omega) (by rw [List.size_toArray, ← hl]; exact h3) (by omega) (by rw [hk]; exact ⟨_, I', q⟩)
def rSlL (K : PySem.W.Frag) : V → Option Int → Option Int → Hp → VK → Prop := fun x lo hi H Q => ∃ a xs, x = .ref a ∧ SqL K H a xs ∧ ∀ p, H p = none → Q (.ref p) (upd H p (.lst (cutV xs lo hi)))
def flatV : V → Bool
  | .non => true
  | .bl _ => true
  | .int _ => true
  | .str _ => true
  | _ => false
def eqV : V → V → Bool
  | .non, .non => true
  | .bl a, .bl b => a == b
  | .bl a, .int b => (if a then 1 else 0) == b
  | .int a, .bl b => a == (if b then 1 else 0)
  | .int a, .int b => a == b
  | .str a, .str b => a == b
  | _, _ => false
def eqU (x : V) (u : Value) : Bool := match u with
  | .none => eqV .non x
  | .bool b => eqV (.bl b) x
  | .int i _ => eqV (.int i) x
  | .str z _ => eqV (.str z) x
  | _ => false
def inV (x : V) (xs : List V) : Bool := xs.any fun y => eqV y x
def rIn (K : PySem.W.Frag) (neg : Bool) : R2 := fun x y H Q => ∃ p xs, y = .ref p ∧ (SqL K H p xs ∨ SqT K H p xs) ∧ flatV x = true ∧ xs.all flatV = true ∧ Q (.bl (if neg then !inV x xs else inV x xs)) H
theorem call_len_seq : CallR X (.builtin "len") (fun xs H Q => ∃ p ys, xs = [.ref p] ∧ (SqL X.K H p ys ∨ SqT X.K H p ys) ∧ Q (.int ys.length) H) := by
  intro pins s σ H xs us Q I r h
  obtain ⟨p, ys, rfl, hq, q⟩ := h
  obtain ⟨u, rfl, rx⟩ := vals1 r
  cases rx
  have hn := line63
  rcases hq with hq | hq
  · obtain ⟨its, r', pl, hz⟩ := I.list hq
    have hlen := r'.length
    exact Calls.call_len_list pl.isList (by simp only [List.size_toArray] <;> omega) ⟨.int ys.length, H, I.tok _, ⟨s.toks + 1, by rw [List.size_toArray, hlen]⟩, q⟩
  · obtain ⟨its, r', pl, hz⟩ := I.tuple hq
    have hlen := r'.length
    exact len_tuple pl (by simp only [List.size_toArray] <;> omega) ⟨.int ys.length, H, I.tok _, ⟨s.toks + 1, by rw [List.size_toArray, hlen]⟩, q⟩
theorem call_list_of : CallR X (.type "list") (fun xs H Q => ∃ p ys, xs = [.ref p] ∧ (SqL X.K H p ys ∨ SqT X.K H p ys) ∧ ∀ l, H l = none → Q (.ref l) (upd H l (.lst ys))) := by
  intro pins s σ H xs us Q I r h
  obtain ⟨p, ys, rfl, hq, q⟩ := h
  obtain ⟨u, rfl, rx⟩ := vals1 r
  cases rx
  have fin : ∀ (its : List Value), Vals ys its → ys.length ≤ sizeLine → ∀ (h' : Heap) (c' : Nat), (∀ b o', s.heap.get? b = some o' → h'.get? b = some o') →
      h'.get? s.heap.objs.size = some { cls := .type "list", dict := none, data := .seq its.toArray c', slots := #[] } → EP X pins σ Q (.ref s.heap.objs.size) { s with heap := h' } := fun its r' hz h' c' kp e =>
    ⟨.ref s.heap.objs.size, _, I.laid (t' := s.toks) kp (Nat.le_refl _) (show ObjOk X.prog X.w _ h' _ (.lst ys) from ⟨hz, its, c', r', e⟩), rfl, q _ (I.hok.fresh (Nat.le_refl _))⟩
  rcases hq with hq | hq
  · obtain ⟨its, r', pl, hz⟩ := I.list hq
    have hlen := r'.length
    obtain ⟨o, ho, hc, n, hd⟩ := pl.isList
    exact call_list_seq p (.inl rfl) ho hc hd (fun h' c' kp e => fin its r' hz h' c' kp e) (by simp only [List.size_toArray] <;> omega)
  · obtain ⟨its, r', pl, hz⟩ := I.tuple hq
    have hlen := r'.length
    obtain ⟨o, ho, hc, n, hd⟩ := pl
    exact call_list_seq p (.inr rfl) ho hc hd (fun h' c' kp e => fin its r' hz h' c' kp e) (by simp only [List.size_toArray] <;> omega)
theorem call_tuple_of : CallR X (.type "tuple") (fun xs H Q => ∃ p ys, xs = [.ref p] ∧ ((SqL X.K H p ys ∧ ∀ l, H l = none → Q (.ref l) (upd H l (.tup ys))) ∨ (SqT X.K H p ys ∧ Q (.ref p) H))) := by
  intro pins s σ H xs us Q I r h
  obtain ⟨p, ys, rfl, h⟩ := h
  obtain ⟨u, rfl, rx⟩ := vals1 r
  cases rx
  rcases h with ⟨hq, q⟩ | ⟨hq, q⟩
  · obtain ⟨its, r', pl, hz⟩ := I.list hq
    have hlen := r'.length
    refine call_tuple_list pl.isList (fun h' kp => ?_) (by simp only [List.size_toArray] <;> omega)
    have I1 : Inv X pins σ H { s with heap := h' } := I.kept (t' := s.toks) kp
    have I2 : Inv X pins σ (upd H h'.objs.size (.tup ys)) { s with heap := h'.push { cls := .type "tuple", data := .seq its.toArray } } :=
      I1.laid (t' := s.toks) (fun b o e => Heap.get?_push_of_some _ e) (Nat.le_refl _) (show ObjOk X.prog X.w _ _ _ (.tup ys) from ⟨hz, its, r', IsTup.new _ _⟩)
    exact ⟨.ref h'.objs.size, _, I2, rfl, q _ (I1.hok.fresh (Nat.le_refl _))⟩
  · obtain ⟨its, r', pl, hz⟩ := I.tuple hq
    exact call_tuple_same pl ⟨.ref p, H, I, rfl, q⟩
def tyV (K : PySem.W.Frag) (T : String) (x : V) (H : Hp) : Prop := match x with
  | .str _ => T = "str"
  | .int _ => T = "int"
  | .ref p => (T = "list" ∧ ∃ xs, SqL K H p xs) ∨ (T = "tuple" ∧ ∃ o, K.lookup p = some o ∧ o.cls = .type "tuple" ∧ o.dict = none) ∨
      (T = "dict" ∧ ((∃ kvs, H p = some (.dK kvs)) ∨ ∃ kvs, H p = some (.dT kvs))) ∨ (T = "set" ∧ ∃ S n, H p = some (.set S n))
  | _ => False
theorem tyV_is {pins : List (Addr × Obj)} {σ : St} {H : Hp} {s : Shared} {T : String} {x : V} {v : Value} (I : Inv X pins σ H s) (r : RelV x v) (ty : tyV X.K T x H) :
    s.TypeIs v T ∧ ∀ a, v = .ref a → ∃ ob, s.heap.get? a = some ob ∧ ob.dict = none := by
  cases x with
  | str z =>
    obtain ⟨t, rfl⟩ := r
    cases (show T = "str" from ty)
    exact ⟨typeIs_str s z t, fun _ e => nomatch e⟩
  | int i =>
    obtain ⟨t, rfl⟩ := r
    cases (show T = "int" from ty)
    exact ⟨typeIs_int s i t, fun _ e => nomatch e⟩
  | ref p =>
    cases r
    rcases ty with ⟨rfl, xs, hq⟩ | ⟨rfl, o, hk, hc, hd⟩ | ⟨rfl, hk⟩ | ⟨rfl, S, n, hk⟩
    · obtain ⟨its, _, pl, _⟩ := I.list hq
      refine ⟨pl.isList.typeIs, fun a e => ?_⟩
      cases e
      obtain ⟨o, n, e, c, hd, _⟩ := pl
      exact ⟨o, e, hd⟩
    · refine ⟨⟨o, I.kIn p o hk, hc⟩, fun a e => ?_⟩
      cases e
      exact ⟨o, I.kIn _ o hk, hd⟩
    · have z : ∃ o, s.heap.get? p = some o ∧ o.ExactDict := by
        rcases hk with ⟨kvs, hk⟩ | ⟨kvs, hk⟩
        · obtain ⟨_, _, _, _, o, _, _, e, ex, _⟩ := I.hok p _ hk
          exact ⟨o, e, ex⟩
        · obtain ⟨_, _, _, _, o, _, _, e, ex, _⟩ := I.hok p _ hk
          exact ⟨o, e, ex⟩
      obtain ⟨o, e, ex⟩ := z
      refine ⟨⟨o, e, ex.1⟩, fun a e2 => ?_⟩
      cases e2
      exact ⟨o, e, ex.2.1⟩
    · obtain ⟨o, _, _, _, e, ex, _⟩ := I.hok p _ hk
      refine ⟨⟨o, e, ex.1⟩, fun a e2 => ?_⟩
      cases e2
      exact ⟨o, e, ex.2.1⟩
  | _ => exact False.elim ty
def tBM0 (K : PySem.W.Frag) (T : String) (r : V → List V → Hp → VK → Prop) (to : TE) : TE := fun σ H Q => to σ H fun x H1 => tyV K T x H1 ∧ r x [] H1 Q
def tBM (K : PySem.W.Frag) (T : String) (r : V → List V → Hp → VK → Prop) (to : TE) (t : TA) : TE := fun σ H Q => to σ H fun x H1 => tyV K T x H1 ∧ t σ H1 fun xs H2 => r x xs H2 Q
variable {o e : Expr} {es : List Expr} {to : TE} {t : TA} {name : Str} {apos cpos : Pos} {T id : String} {r : V → List V → Hp → VK → Prop}
theorem pe_bm (pa : PlainAttrs T) (slot : Slot T name id) (hty : typeOf (.builtin id) = pure (.type "method_descriptor")) (hm : MtR X id r) (ho : PE X o to) (ha : PA X (e :: es) t)
    (hbase : attributeBase o name X.env (eval o X.env) = eval o X.env := by rfl)
    (hfew : ((backTo cpos (starEach (e :: es) X.env)).all (fun x => !x.1) && (backToKw cpos (keywordEach [] X.env)).all (fun x => x.1.isSome)
      && decide ((e :: es).length + ([] : List Keyword).length + (if ([] : List Keyword).isEmpty then 0 else 1) < 30)) = true := by rfl)
    (hline : (apos.endLine == cpos.line) = true := by rfl) (hs : starEach (e :: es) X.env = (false, eval e X.env) :: starEach es X.env := by rfl) (hplain : (backTo cpos (starEach es X.env)).any (·.1) = false := by rfl) :
    PE X (.Call (.Attribute o name apos) (e :: es) [] cpos) (tBM X.K T r to t) := by
  intro pins s σ H Q I h
  refine wpAny_Call_method_late hbase hfew hline rfl (thn (ho pins s σ H _ I h) fun v s1 ⟨x, H1, I1, r1, ty, q1⟩ => ?_)
  obtain ⟨h1, h2⟩ := tyV_is I1 r1 ty
  refine ⟨T, id, pa, slot, hty, h1, h2, ?_⟩
  have hA := ha cpos pins s1 σ H1 _ I1 q1
  rw [hs] at hA ⊢
  refine Calls.callWith_builtin (by show (false || (backTo cpos (starEach es X.env)).any (·.1)) = false; rw [hplain] <;> rfl) (Calls.evalArgs_plain ?_)
  exact thn hA fun us s2 ⟨vs, H2, I2, r2, q2⟩ => hm pins s2 σ H2 x vs v us Q I2 r1 r2 q2
end
end L2
namespace L2
open PySem PySem.Spec PyProof.Rows
def MtM (X : Cx) (id : String) (r : V → List V → Hp → VK → Prop) : Prop :=
  ∀ (pins : List (Addr × Obj)) (s : Shared) (σ : St) (H : Hp) (x : V) (xs : List V) (v : Value) (us : List Value) (Q : VK), Inv X pins σ H s → RelV x v → Vals xs us → r x xs H Q →
    wpAny (model X.prog X.w) X.A (call (.builtin id) (v :: us)) (EP X pins σ Q) X.xe s
theorem Vals.one : ∀ {x : V} {us : List Value}, Vals [x] us → ∃ u, us = [u] ∧ RelV x u
  | _, _, .cons r .nil => ⟨_, rfl, r⟩
theorem Vals.two : ∀ {x y : V} {us : List Value}, Vals [x, y] us → ∃ u v, us = [u, v] ∧ RelV x u ∧ RelV y v
  | _, _, _, .cons r (.cons q .nil) => ⟨_, _, rfl, r, q⟩
theorem Vals.zero : ∀ {us : List Value}, Vals [] us → us = []
  | _, .nil => rfl
theorem Vals.dropLast {xs : List V} {us : List Value} (h : Vals xs us) : Vals xs.dropLast us.dropLast := by
  induction h with
  | nil => exact .nil
  | cons r t ih =>
    cases t with
    | nil => exact .nil
    | cons q t' => exact .cons r ih
theorem Vals.eraseIdx : ∀ {xs : List V} {us : List Value} (i : Nat), Vals xs us → Vals (xs.eraseIdx i) (us.eraseIdx i)
  | _, _, _, .nil => .nil
  | _, _, 0, .cons _ t => t
  | _, _, i + 1, .cons r t => .cons r (Vals.eraseIdx i t)
theorem Vals.reverse {xs : List V} {us : List Value} (h : Vals xs us) : Vals xs.reverse us.reverse := by
  induction h with
  | nil => exact .nil
  | cons r t ih => rw [List.reverse_cons, List.reverse_cons]; exact Vals.append ih (.cons r .nil)
section
variable {X : Cx} {pins : List (Addr × Obj)} {σ : St} {H : Hp} {s : Shared} {l b : Addr} {xs ys zs : List V}
theorem Inv.lset {its its' : List Value} {n : Nat} {f : Array Value → Array Value} {t' : Nat} (I : Inv X pins σ H s) (hH : H l = some (.lst xs))
    (e : s.heap.get? l = some { cls := .type "list", data := .seq its.toArray n }) (hf : f its.toArray = its'.toArray) (hv : Vals ys its') (hz : ys.length ≤ sizeLine) :
    Inv X pins σ (upd H l (.lst ys)) { s with heap := s.heap.update l (Obj.mapSeq f), toks := t' } := by
  have q := PySem.IsL.update e f
  rw [hf] at q
  refine I.write (x := l) (e := l) (by rw [hH]; exact trivial) (.inl rfl) (fun b' u hb hu => (Heap.get?_update_other s.heap (Obj.mapSeq f) (Ne.symm hb)).trans hu) ⟨_, q⟩ ?_
  exact ⟨hz, its', _, hv, q⟩
theorem Inv.lnew {its : List Value} {t' : Nat} (I : Inv X pins σ H s) (hv : Vals ys its) (hz : ys.length ≤ sizeLine) :
    Inv X pins σ (upd H s.heap.objs.size (.lst ys)) { s with heap := s.heap.push { cls := .type "list", data := .seq its.toArray }, toks := t' } :=
  I.laid (fun _ _ q => Heap.get?_push_of_some _ q) (Nat.le_refl _) ⟨hz, its, 0, hv, Heap.get?_push_size _ rfl⟩
theorem Inv.fresh (I : Inv X pins σ H s) : H s.heap.objs.size = none := I.hok.fresh (Nat.le_refl _)
theorem Inv.lstM (I : Inv X pins σ H s) (hH : H l = some (.lst xs)) : xs.length ≤ sizeLine ∧ ∃ (its : List Value) (n : Nat), Vals xs its ∧ xs.length = its.length ∧ s.heap.get? l = some { cls := .type "list", data := .seq its.toArray n } := by
  obtain ⟨z, its, n, r, e⟩ := I.hok l _ hH
  exact ⟨z, its, n, r, r.length, e⟩
theorem notLongL {n : Nat} (h : n ≤ sizeLine) : Builtin.List.listTooLong n = false := by
  unfold Builtin.List.listTooLong
  exact decide_eq_false (by omega)
end
section
variable {X : Cx}
def rAppend : V → List V → Hp → VK → Prop := fun x vs H Q => ∃ l xs y, x = .ref l ∧ vs = [y] ∧ H l = some (.lst xs) ∧ xs.length < sizeLine ∧ Q .non (upd H l (.lst (xs ++ [y])))
theorem mt_append : MtM X "list.append" rAppend := by
  intro pins s σ H x vs v us Q I rx rv h
  obtain ⟨l, xs, y, rfl, rfl, hH, hz, q⟩ := h
  cases rx
  obtain ⟨u, rfl, ru⟩ := rv.one
  obtain ⟨z, its, n, r, hl, e⟩ := I.lstM hH
  refine call_meets F.slot_list_append ⟨_, e, rfl⟩ F.entry_list_append (F.args_list_append_2 _ _) (PySem.list_append l its.toArray n u (by rw [List.size_toArray]; omega)) ⟨e, ?_⟩
  refine ⟨.non, _, I.lset (its' := its ++ [u]) hH e (by simp) (r.append (.cons ru .nil)) ?_, rfl, q⟩
  rw [List.length_append, List.length_singleton]
  omega
def rExtend : V → List V → Hp → VK → Prop := fun x vs H Q => ∃ l b xs zs, x = .ref l ∧ vs = [.ref b] ∧ H l = some (.lst xs) ∧ H b = some (.lst zs) ∧ xs.length + zs.length ≤ sizeLine ∧ Q .non (upd H l (.lst (xs ++ zs)))
def rPop : V → List V → Hp → VK → Prop := fun x vs H Q => ∃ l xs y, x = .ref l ∧ vs = [] ∧ H l = some (.lst xs) ∧ xs[xs.length - 1]? = some y ∧ Q y (upd H l (.lst xs.dropLast))
def rPopAt : V → List V → Hp → VK → Prop := fun x vs H Q => ∃ l xs i k y, x = .ref l ∧ vs = [.int i] ∧ H l = some (.lst xs) ∧ -(2 ^ 63) ≤ i ∧ i < 2 ^ 63 ∧ seqIndex? i xs.length = some k ∧ xs[k]? = some y ∧ Q y (upd H l (.lst (xs.eraseIdx k)))
def rReverse : V → List V → Hp → VK → Prop := fun x vs H Q => ∃ l xs, x = .ref l ∧ vs = [] ∧ H l = some (.lst xs) ∧ Q .non (upd H l (.lst xs.reverse))
def rClear : V → List V → Hp → VK → Prop := fun x vs H Q => ∃ l xs, x = .ref l ∧ vs = [] ∧ H l = some (.lst xs) ∧ Q .non (upd H l (.lst []))
def rCat : R2 := fun x y H Q => ∃ l b xs zs, x = .ref l ∧ y = .ref b ∧ H l = some (.lst xs) ∧ H b = some (.lst zs) ∧ xs.length + zs.length ≤ sizeLine ∧ ∀ p, H p = none → Q (.ref p) (upd H p (.lst (xs ++ zs)))
def rRep : R2 := fun x y H Q => ∃ l k xs, x = .ref l ∧ y = .int k ∧ H l = some (.lst xs) ∧ -(2 ^ 63) ≤ k ∧ k < 2 ^ 63 ∧ xs.length * k.toNat ≤ sizeLine ∧
  ∀ p, H p = none → Q (.ref p) (upd H p (.lst (List.replicate k.toNat xs).flatten))
end
section
variable {prog : Program} {w : World} {A : Around} {E : Value → Shared → Prop} {s : Shared}
theorem bounds_run {a c n : Nat} (hac : a ≤ c) (hc : c ≤ n) : sliceBounds (some (a : Int)) (some (c : Int)) none n = ((a : Int), (c : Int), 1) := by
  simp only [sliceBounds, Option.getD_none]
  have h1 : ¬ ((a : Int) < 0) := by omega
  have h2 : ¬ ((c : Int) < 0) := by omega
  simp only [h1, h2, if_false, show (1 : Int) > 0 by decide, if_true]
  congr 1
  · omega
  · congr 1; omega
set_option maxRecDepth 100000 in
theorem setItem_slice {l b sl : Addr} {items new : Array Value} {n n2 : Nat} {vl vu : Value} {a c : Nat} {Q : Unit → Shared → Prop}
    (e : s.heap.get? l = some { cls := .type "list", data := .seq items n }) (e2 : s.heap.get? b = some { cls := .type "list", data := .seq new n2 }) (hne : l ≠ b)
    (hs : s.heap.IsSliceOf sl vl vu .none) (pl : IsPart vl (some (a : Int))) (pu : IsPart vu (some (c : Int))) (hac : a ≤ c) (hc : c ≤ items.size)
    (hsz : items.size + new.size ≤ sizeLine) (h : Q () { s with heap := s.heap.update l (Obj.mapSeq fun xs => xs.extract 0 a ++ new ++ xs.extract c xs.size) }) :
    wpAny (model prog w) A (setItem (.ref l) (.ref sl) (.ref b)) Q E s := by
  have hl : s.heap.IsList l items := PySem.IsL.isList e
  have hb : s.heap.IsList b new := PySem.IsL.isList e2
  obtain ⟨os, hos, hcs, hds⟩ := id hs
  have hTs : s.TypeIs (.ref sl) "slice" := ⟨os, hos, hcs⟩
  have hstep : ¬ ((rawPart none == rawInt 0) = true) := Bool.false_ne_true
  have hsame : Builtin.List.listSameRef (.ref l) (.ref b) = false := by
    unfold Builtin.List.listSameRef
    exact beq_eq_false_iff_ne.mpr hne
  have hmax : (max (a : Int) (c : Int)).toNat = c := by omega
  have hz' : ((fun xs : Array Value => xs.extract 0 a ++ new ++ xs.extract c xs.size) items).size ≤ sizeLine + 1 := by
    simp only [Array.size_append, Array.size_extract]
    omega
  unfold setItem
  try with_reducible refine wpAny_holding ?_
  first | refine wpAny_bind (wpAny_pure ?_) | skip
  refine wpAny_bind (wpAny_sequenceKey hl.typeIs (by decide) ?_)
  refine wpAny_bind (wpAny_callSpecial?_slot (name := Str.ofString "__setitem__") hl.typeIs slot_list_setitem
    (wpAny_call_entry slot_list_setitem hl.typeIs entry_list_setitem ?_ (args_list_setitem _ _ _)))
  show wpAny _ _ (Builtin.List.listSubscript? (.ref sl) >>= _) _ _ s
  refine wpAny_bind ?_
  unfold Builtin.List.listSubscript?
  refine wpAny_bind (wpAny_specialOf hTs slice_no_index ?_)
  simp only [Option.isNone_none, if_true]
  refine wpAny_pure ?_
  show wpAny _ _ (typeOf (.ref sl) >>= _) _ _ s
  refine wpAny_bind (wpAny_typeOf hTs ?_)
  first
    | rw [if_neg (by decide)]
    | refine PySem.W.KFB.if_not (by decide) ?_
  rw [listSliceParts_eq]
  refine wpAny_bind (wpAny_bind (wpAny_field hos hds (x := .none) rfl (wpAny_bind (wpAny_listPart .none ?_))))
  rw [if_neg hstep]
  refine wpAny_bind (wpAny_field hos hds (x := vl) rfl (wpAny_bind (wpAny_listPart pl ?_)))
  refine wpAny_bind (wpAny_field hos hds (x := vu) rfl (wpAny_bind (wpAny_listPart pu (wpAny_pure ?_))))
  first
    | simp only [hsame, Bool.false_eq_true, if_false]
    | refine PySem.W.KFB.if_not hsame ?_
    | (dsimp only
       rw [if_neg (by rw [hsame]; exact Bool.false_ne_true)])
  refine wpAny_bind (m := Builtin.List.listAllItems (.ref b) "must assign iterable to extended slice") ?_
  unfold Builtin.List.listAllItems
  refine wpAny_bind (wpAny_typeOf hb.typeIs ?_)
  first
    | refine PySem.W.KFB.if_so (by decide) ?_
    | rw [if_pos (by decide)]
    | simp only [beq_self_eq_true, Bool.true_or, if_true]
  unfold Builtin.List.listItems
  refine wpAny_bind (wpAny_seqItems e2 rfl (wpAny_pure ?_))
  refine wpAny_bind (wpAny_bind (wpAny_seqItems e rfl (wpAny_pure ?_)))
  refine wpAny_bind (wpAny_of_eq ((sliceIndices_raw (some (a : Int)) (some (c : Int)) none items.size (by simp)).trans (congrArg (pure : Int × Int × Int → Sem (Int × Int × Int)) (bounds_run hac hc))) ?_)
  show wpAny _ _ (if ((1 : Int) == 1) = true then _ else _) _ _ s
  rw [if_pos (by decide)]
  refine wpAny_bind (wpAny_rule ?_)
  first
    | simp only [notLongL hsz, Bool.false_eq_true, if_false]
    | refine PySem.W.KFB.if_not (notLongL hsz) ?_
  first | refine wpAny_bind (wpAny_pure ?_) | skip
  show wpAny _ _ (updateSeq l (fun xs => xs.extract 0 ((a : Int)).toNat ++ new ++ xs.extract (max (a : Int) (c : Int)).toNat xs.size) >>= _) _ _ s
  rw [hmax, Int.toNat_natCast]
  refine wpAny_bind (wpAny_updateSeq (hz := Nat.le_trans (Nat.le_add_right _ _) hsz) (_hz' := hz') e rfl ?_)
  refine wpAny_bind (wpAny_letGo ?_)
  first
    | exact wpAny_bind (wpAny_pure (wpAny_pure ⟨.none, rfl, wpAny_pure h⟩))
    | exact wpAny_pure ⟨.none, rfl, wpAny_pure h⟩
end
section
variable {X : Cx}
end
end L2
namespace L2
open PySem PySem.Spec PyProof.Rows
section
variable {κ : Type} [DecidableEq κ]
def valV (kvs : List (κ × V)) (k : κ) : Option V := (kvs.find? fun kv => decide (kv.1 = k)).map (·.2)
def putK (kvs : List (κ × V)) (k : κ) (v : V) : List (κ × V) :=
  if (kvs.any fun kv => decide (kv.1 = k)) = true then kvs.map (fun kv => if kv.1 = k then (kv.1, v) else kv) else kvs ++ [(k, v)]
def dropK (kvs : List (κ × V)) (k : κ) : List (κ × V) := kvs.filter fun kv => decide (kv.1 ≠ k)
theorem valV_pos {p : κ × V} {r : List (κ × V)} {k : κ} (e : p.1 = k) : valV (p :: r) k = some p.2 := by simp [valV, List.find?_cons, e]
theorem valV_neg {p : κ × V} {r : List (κ × V)} {k : κ} (e : ¬ p.1 = k) : valV (p :: r) k = valV r k := by simp [valV, List.find?_cons, e]
theorem valV_any (k : κ) : ∀ kvs : List (κ × V), (kvs.any fun kv => decide (kv.1 = k)) = (valV kvs k).isSome
  | [] => rfl
  | p :: r => by
    rw [List.any_cons]
    by_cases e : p.1 = k
    · simp only [valV_pos e, decide_eq_true e, Bool.true_or, Option.isSome_some]
    · rw [valV_neg e, decide_eq_false e, Bool.false_or]; exact valV_any k r
theorem length_putK (kvs : List (κ × V)) (k : κ) (v : V) : (putK kvs k v).length ≤ kvs.length + 1 := by
  unfold putK
  split
  · rw [List.length_map]; omega
  · rw [List.length_append, List.length_cons, List.length_nil]; omega
theorem RelO.isSome_eq {o : Option V} {u : Option Value} (r : RelO o u) : o.isSome = u.isSome := by
  cases o with
  | none => cases u with
    | none => rfl
    | some _ => exact (show False from r).elim
  | some _ => cases u with
    | none => exact (show False from r).elim
    | some _ => rfl
theorem RelO.getD {o : Option V} {u : Option Value} {d : V} {d' : Value} (r : RelO o u) (rd : RelV d d') : RelV (o.getD d) (u.getD d') := by
  cases o with
  | none => cases u with
    | none => exact rd
    | some _ => exact (show False from r).elim
  | some _ => cases u with
    | none => exact (show False from r).elim
    | some _ => exact r
theorem KV.val {kvs : List (κ × V)} {vs : List (κ × Value)} (r : KV kvs vs) (k : κ) : RelO (valV kvs k) (valueAt vs k) := by
  unfold KV at r
  induction r with
  | nil => exact True.intro
  | @cons p q ps qs h t ih =>
    obtain ⟨h1, h2⟩ := h
    by_cases e : p.1 = k
    · have e' : q.1 = k := h1.symm.trans e
      have b : valueAt (q :: qs) k = some q.2 := by simp [valueAt, List.find?_cons, e']
      rw [valV_pos e, b]; exact h2
    · have e' : ¬ q.1 = k := fun z => e (h1.trans z)
      have b : valueAt (q :: qs) k = valueAt qs k := by simp [valueAt, List.find?_cons, e']
      rw [valV_neg e, b]; exact ih
theorem KV.any {kvs : List (κ × V)} {vs : List (κ × Value)} (r : KV kvs vs) (k : κ) : (kvs.any fun kv => decide (kv.1 = k)) = vs.any fun kv => decide (kv.1 = k) := by
  unfold KV at r
  induction r with
  | nil => rfl
  | cons h t ih => rw [List.any_cons, List.any_cons, ih, h.1]
theorem KV.repl {kvs : List (κ × V)} {vs : List (κ × Value)} (r : KV kvs vs) (k : κ) {y : V} {u : Value} (ry : RelV y u) :
    KV (kvs.map fun kv => if kv.1 = k then (kv.1, y) else kv) (vs.map fun kv => if kv.1 = k then (kv.1, u) else kv) := by
  unfold KV at r ⊢
  induction r with
  | nil => exact .nil
  | @cons p q ps qs h t ih =>
    rw [List.map_cons, List.map_cons]
    refine .cons ?_ ih
    obtain ⟨h1, h2⟩ := h
    by_cases e : p.1 = k
    · rw [if_pos e, if_pos (h1.symm.trans e)]; exact ⟨h1, ry⟩
    · rw [if_neg e, if_neg (fun z => e (h1.trans z))]; exact ⟨h1, h2⟩
theorem KV.put {kvs : List (κ × V)} {vs : List (κ × Value)} (r : KV kvs vs) (k : κ) {y : V} {u : Value} (ry : RelV y u) : KV (putK kvs k y) (stored vs k u) := by
  unfold putK stored
  rw [r.any k]
  by_cases e : (vs.any fun kv => decide (kv.1 = k)) = true
  · rw [if_pos e, if_pos e]; exact r.repl k ry
  · rw [if_neg e, if_neg e]; exact Paired.snoc r ⟨rfl, ry⟩
theorem KV.drop {kvs : List (κ × V)} {vs : List (κ × Value)} (r : KV kvs vs) (k : κ) : KV (dropK kvs k) (without vs k) := by
  unfold KV at r ⊢
  unfold dropK without
  induction r with
  | nil => exact .nil
  | @cons p q ps qs h t ih =>
    obtain ⟨h1, h2⟩ := h
    rw [List.filter_cons, List.filter_cons]
    by_cases e : p.1 = k
    · have a : ¬ decide (p.1 ≠ k) = true := by simp [e]
      have b : ¬ decide (q.1 ≠ k) = true := by simp [h1.symm.trans e]
      rw [if_neg a, if_neg b]; exact ih
    · have e' : ¬ q.1 = k := fun z => e (h1.trans z)
      have a : decide (p.1 ≠ k) = true := by simp [e]
      have b : decide (q.1 ≠ k) = true := by simp [e']
      rw [if_pos a, if_pos b]; exact .cons ⟨h1, h2⟩ ih
theorem KV.keys {kvs : List (κ × V)} {vs : List (κ × Value)} (r : KV kvs vs) : kvs.map (·.1) = vs.map (·.1) := by
  unfold KV at r
  induction r with
  | nil => rfl
  | cons h t ih => rw [List.map_cons, List.map_cons, ih, h.1]
theorem KV.length {kvs : List (κ × V)} {vs : List (κ × Value)} (r : KV kvs vs) : kvs.length = vs.length := Paired.length r
end
theorem kV_is {P : Program} {w : World} {k : Key} {u : Value} (r : RelV (kV k) u) : (mixKind P w).is k u = true := by
  cases k with
  | inl i => obtain ⟨t, e⟩ := (show ∃ t, u = Value.int i t from r); subst e; exact mixKind_int P w i t
  | inr x => obtain ⟨t, e⟩ := (show ∃ t, u = Value.str x t from r); subst e; exact mixKind_str P w x t
theorem items_are {P : Program} {w : World} : ∀ {ks : List Key} {us : List Value}, Vals (ks.map kV) us → ItemsAre (mixKind P w) ks us
  | [], _, r => by rw [List.map_nil] at r; cases r; exact .nil
  | k :: ks, _, r => by
    rw [List.map_cons] at r
    cases r with
    | cons h t => exact .cons (kV_is h) (items_are t)
abbrev KT (H : Hp) : List (List Key × V) → List (List Key × Addr × Value) → Prop := Paired fun p q => p.1 = q.1 ∧ H q.2.1 = some (.tup (p.1.map kV)) ∧ RelV p.2 q.2.2
theorem KT.val {H : Hp} {kvs : List (List Key × V)} {xs : List (List Key × Addr × Value)} (r : KT H kvs xs) (k : List Key) : RelO (valV kvs k) ((atKey xs k).map (·.2)) := by
  induction r with
  | nil => exact True.intro
  | @cons p q ps qs h t ih =>
    obtain ⟨h1, _, h2⟩ := h
    by_cases e : p.1 = k
    · have e' : q.1 = k := h1.symm.trans e
      have b : atKey (q :: qs) k = some q.2 := by simp [atKey, List.find?_cons, e']
      rw [valV_pos e, b]; exact h2
    · have e' : ¬ q.1 = k := fun z => e (h1.trans z)
      have b : atKey (q :: qs) k = atKey qs k := by simp [atKey, List.find?_cons, e']
      rw [valV_neg e, b]; exact ih
theorem KT.repl {H : Hp} {kvs : List (List Key × V)} {xs : List (List Key × Addr × Value)} (r : KT H kvs xs) (k : List Key) {y : V} {u : Value} (ry : RelV y u) :
    KT H (kvs.map fun kv => if kv.1 = k then (kv.1, y) else kv) (xs.map (putAt k u)) := by
  induction r with
  | nil => exact .nil
  | @cons p q ps qs h t ih =>
    rw [List.map_cons, List.map_cons]
    refine .cons ?_ ih
    obtain ⟨h1, h2, h3⟩ := h
    unfold putAt
    by_cases e : p.1 = k
    · rw [if_pos e, if_pos (h1.symm.trans e)]; exact ⟨h1, h2, ry⟩
    · rw [if_neg e, if_neg (fun z => e (h1.trans z))]; exact ⟨h1, h2, h3⟩
theorem KT.put {H : Hp} {kvs : List (List Key × V)} {xs : List (List Key × Addr × Value)} (r : KT H kvs xs) (k : List Key) {b : Addr} {y : V} {u : Value} (hb : H b = some (.tup (k.map kV))) (ry : RelV y u) :
    KT H (putK kvs k y) (storedH xs k b u) := by
  have e : (kvs.any fun kv => decide (kv.1 = k)) = (atKey xs k).isSome := by
    rw [valV_any, (r.val k).isSome_eq, Option.isSome_map]
  unfold putK storedH
  rw [e]
  by_cases q : (atKey xs k).isSome = true
  · rw [if_pos q, if_pos q]; exact r.repl k ry
  · rw [if_neg q, if_neg q]; exact Paired.snoc r ⟨rfl, hb, ry⟩
theorem KT.keeps {H H' : Hp} {kvs : List (List Key × V)} {xs : List (List Key × Addr × Value)} (r : KT H kvs xs) (ht : ∀ b ys, H b = some (.tup ys) → H' b = some (.tup ys)) : KT H' kvs xs :=
  Paired.mapP r fun _ _ z => ⟨z.1, ht _ _ z.2.1, z.2.2⟩
section
variable {P : Program} {w : World} {H : Hp} {h : Heap} {a : Addr}
theorem rd_of {u : HO} (ok : HOk P w H h) (e : Rd H a u) : ObjOk P w H h a u := e.ok ok
theorem dk_rd {kvs : List (Key × V)} (ok : HOk P w H h) (e : Rd H a (.dK kvs)) : kvs.length ≤ sizeLine ∧ (a == sysModules) = false ∧ ∃ vs, KV kvs vs ∧ h.DictOf (mixKind P w) a vs :=
  show ObjOk P w H h a (.dK kvs) from rd_of ok e
theorem dk_of {kvs : List (Key × V)} (ok : HOk P w H h) (e : H a = some (.dK kvs)) : kvs.length ≤ sizeLine ∧ (a == sysModules) = false ∧ ∃ vs, KV kvs vs ∧ h.DictOf (mixKind P w) a vs := dk_rd ok (.inl e)
theorem key_of {ks : List Key} (ok : HOk P w H h) (e : H a = some (.tup (ks.map kV))) : (tupleKind (mixKind P w)).is h ks a := by
  obtain ⟨_, its, r, o, h1, h2, n, h3⟩ := (show ObjOk P w H h a (.tup (ks.map kV)) from ok a _ e)
  exact ⟨o, its.toArray, n, h1, h2, h3, by simpa using items_are r⟩
theorem dt_rd {kvs : List (List Key × V)} (ok : HOk P w H h) (e : Rd H a (.dT kvs)) : kvs.length ≤ sizeLine ∧ (a == sysModules) = false ∧
    ∃ xs, KT H kvs xs ∧ h.DictOfH (tupleKind (mixKind P w)) a xs := by
  obtain ⟨z, y, xs, r, o, es, ep, h1, h2, h3, h4, h5⟩ := (show ObjOk P w H h a (.dT kvs) from rd_of ok e)
  refine ⟨z, y, xs, r, o, es, ep, h1, h2, h3, h4, fun x hx => ?_, h5⟩
  have all : ∀ {l : List (List Key × V)} {m : List (List Key × Addr × Value)}, KT H l m → ∀ x ∈ m, (tupleKind (mixKind P w)).is h x.1 x.2.1 := by
    intro l m q
    induction q with
    | nil => intro x hx; exact nomatch hx
    | @cons p q ps qs hq t ih =>
      intro x hx
      rcases List.mem_cons.mp hx with e | hx
      · subst e
        exact key_of ok (by rw [← hq.1]; exact hq.2.1)
      · exact ih x hx
  exact all r x hx
theorem dt_of {kvs : List (List Key × V)} (ok : HOk P w H h) (e : H a = some (.dT kvs)) : kvs.length ≤ sizeLine ∧ (a == sysModules) = false ∧
    ∃ xs, KT H kvs xs ∧ h.DictOfH (tupleKind (mixKind P w)) a xs := dt_rd ok (.inl e)
end
def DGet (H : Hp) (a : Addr) (y : V) (r : Option V) : Prop :=
  (∃ kvs k, Rd H a (.dK kvs) ∧ y = kV k ∧ r = valV kvs k) ∨ ∃ kvs k b, Rd H a (.dT kvs) ∧ y = .ref b ∧ H b = some (.tup (k.map kV)) ∧ r = valV kvs k
def DPut (H : Hp) (a : Addr) (y v : V) (H' : Hp) : Prop :=
  (∃ kvs k, H a = some (.dK kvs) ∧ y = kV k ∧ kvs.length < sizeLine ∧ H' = upd H a (.dK (putK kvs k v))) ∨
  ∃ kvs k b, H a = some (.dT kvs) ∧ y = .ref b ∧ H b = some (.tup (k.map kV)) ∧ kvs.length < sizeLine ∧ H' = upd H a (.dT (putK kvs k v))
theorem DGet.k {H : Hp} {a : Addr} {kvs : List (Key × V)} {k : Key} (e : H a = some (.dK kvs)) : DGet H a (kV k) (valV kvs k) := .inl ⟨kvs, k, .inl e, rfl, rfl⟩
theorem DGet.t {H : Hp} {a b : Addr} {kvs : List (List Key × V)} {k : List Key} (e : H a = some (.dT kvs)) (eb : H b = some (.tup (k.map kV))) : DGet H a (.ref b) (valV kvs k) := .inr ⟨kvs, k, b, .inl e, rfl, eb, rfl⟩
theorem DPut.k {H : Hp} {a : Addr} {kvs : List (Key × V)} {k : Key} {v : V} (e : H a = some (.dK kvs)) (hl : kvs.length < sizeLine) : DPut H a (kV k) v (upd H a (.dK (putK kvs k v))) := .inl ⟨kvs, k, e, rfl, hl, rfl⟩
theorem DPut.t {H : Hp} {a b : Addr} {kvs : List (List Key × V)} {k : List Key} {v : V} (e : H a = some (.dT kvs)) (eb : H b = some (.tup (k.map kV))) (hl : kvs.length < sizeLine) :
    DPut H a (.ref b) v (upd H a (.dT (putK kvs k v))) := .inr ⟨kvs, k, b, e, rfl, eb, hl, rfl⟩
section
variable {X : Cx} {pins : List (Addr × Obj)} {σ : St} {H : Hp} {s : Shared} {a : Addr} {y v : V} {u r : Value} {o : Option V} {A : Around} {E : Value → Shared → Prop}
theorem Inv.big (I : Inv X pins σ H s) : sysModules < s.heap.objs.size := by
  have h : mainGlobals < s.heap.objs.size := (I.mod.glob.keeps I.bk).lt
  exact Nat.lt_trans (by decide) h
theorem d_getItem {Q : Value → Shared → Prop} (hu : A.units + 1 < cLine) (I : Inv X pins σ H s) (g : DGet H a y (some v)) (ry : RelV y u) (h : ∀ w' s', Inv X pins σ H s' → RelV v w' → Q w' s') :
    wpAny (model X.prog X.w) A (getItem (.ref a) u) Q E s := by
  rcases g with ⟨kvs, k, e, ey, l⟩ | ⟨kvs, k, b, e, ey, eb, l⟩
  · subst ey
    obtain ⟨z, hd, vs, rel, dd⟩ := dk_rd I.hok e
    obtain ⟨w', hw, rw'⟩ := RelO.some_of (v := v) (o := valueAt vs k) (by rw [l]; exact rel.val k)
    exact wpAny_getItem_of (kV_is ry) dd.mapOf hw (h w' _ (I.tok _) rw')
  · subst ey
    cases (show u = Value.ref b from ry)
    obtain ⟨z, hd, xs, rel, dd⟩ := dt_rd I.hok e
    obtain ⟨w', hw, rw'⟩ := RelO.some_of (v := v) (o := (atKey xs k).map (·.2)) (by rw [l]; exact rel.val k)
    obtain ⟨p, hp, hp2⟩ := Option.map_eq_some_iff.mp hw
    refine wpAny_getItem_heap (tupleKind_room_in1 hu) (key_of I.hok eb) dd hp ?_
    rw [hp2]
    exact h w' _ (I.tok _) rw'
theorem d_in {Q : Value → Shared → Prop} (hu : A.units + 1 < cLine) (I : Inv X pins σ H s) (g : DGet H a y o) (ry : RelV y u) (h : ∀ s', Inv X pins σ H s' → Q (.bool o.isSome) s') :
    wpAny (model X.prog X.w) A (compareOp .In u (.ref a)) Q E s := by
  rcases g with ⟨kvs, k, e, ey, l⟩ | ⟨kvs, k, b, e, ey, eb, l⟩
  · subst ey
    obtain ⟨z, hd, vs, rel, dd⟩ := dk_rd I.hok e
    refine wpAny_in_of (kV_is ry) hd dd.mapOf ?_
    rw [← (rel.val k).isSome_eq, ← l]
    exact h _ (I.tok _)
  · subst ey
    cases (show u = Value.ref b from ry)
    obtain ⟨z, hd, xs, rel, dd⟩ := dt_rd I.hok e
    refine wpAny_in_heap (tupleKind_room_in1 hu) (key_of I.hok eb) hd dd ?_
    have q := (rel.val k).isSome_eq
    rw [Option.isSome_map] at q
    rw [← q, ← l]
    exact h _ (I.tok _)
theorem d_write {h' : Heap} {t' : Nat} {ob : HO} (I : Inv X pins σ H s) (mu : Mut (H a)) (hs : Heap.SameBut a s.heap h') (he : ∃ q, h'.get? a = some q) (new : ObjOk X.prog X.w (upd H a ob) h' a ob) :
    Inv X pins σ (upd H a ob) { s with heap := h', toks := t' } :=
  I.write (x := a) (e := a) mu (.inl rfl) (fun b q hb z => (hs.2 b hb).trans z) he new
theorem dk_new {P : Program} {w : World} {H' : Hp} {h' : Heap} {kvs : List (Key × V)} {vs : List (Key × Value)} (z : kvs.length ≤ sizeLine) (hd : (a == sysModules) = false) (rel : KV kvs vs) (dd : h'.DictOf (mixKind P w) a vs) :
    ObjOk P w H' h' a (.dK kvs) := ⟨z, hd, vs, rel, dd⟩
theorem d_setItem {H' : Hp} {Q : Unit → Shared → Prop} (hu : A.units + 1 < cLine) (I : Inv X pins σ H s) (g : DPut H a y v H') (ry : RelV y u) (rv : RelV v r) (h : ∀ s', Inv X pins σ H' s' → Q () s') :
    wpAny (model X.prog X.w) A (setItem (.ref a) u r) Q E s := by
  rcases g with ⟨kvs, k, e, ey, l, eH⟩ | ⟨kvs, k, b, e, ey, eb, l, eH⟩
  · subst ey eH
    obtain ⟨z, hd, vs, rel, dd⟩ := dk_of I.hok e
    have hz : vs.length ≤ sizeLine := by rw [← rel.length]; exact z
    have hl : (putK kvs k v).length ≤ sizeLine := by have := length_putK kvs k v; omega
    refine wpAny_setItem_pairs (hsz := hz) (kV_is ry) dd fun h' dd' hs => h _ ?_
    have he : ∃ q, h'.get? a = some q := let ⟨q, _, _, hq, _⟩ := dd'; ⟨q, hq⟩
    exact d_write I (by rw [e]; exact True.intro) hs he (dk_new hl hd (rel.put k rv) dd')
  · subst ey eH
    cases (show u = Value.ref b from ry)
    obtain ⟨z, hd, xs, rel, dd⟩ := dt_of I.hok e
    have hz : xs.length ≤ sizeLine := by rw [← Paired.length rel]; exact z
    have hl : (putK kvs k v).length ≤ sizeLine := by have := length_putK kvs k v; omega
    refine wpAny_setItem_heap (hsz := hz) (tupleKind_room_in1 hu) (key_of I.hok eb) dd fun h' dd' hs => h _ ?_
    obtain ⟨q, es, ep, hq, h2, h3, h4, _, h5⟩ := dd'
    refine d_write I (by rw [e]; exact True.intro) hs ⟨q, hq⟩ ⟨hl, hd, _, (rel.put k eb rv).keeps fun c ys ec => ?_, q, es, ep, hq, h2, h3, h4, h5⟩
    rw [upd_ne (ne_of ec e (fun z => nomatch z))]
    exact ec
end
section
variable {X : Cx} {pins : List (Addr × Obj)} {σ : St} {H : Hp} {s : Shared} {a : Addr} {kvs : List (Key × V)} {k : Key} {u : Value} {A : Around} {E : Value → Shared → Prop}
end
def NoSl (i : Expr) : Prop := ∀ ov iv, subscripted i false ov iv = operate [ov, iv] (getItem ov iv)
theorem subD_of {prog : Program} {w : World} {A : Around} {E : Value → Shared → Prop} {s : Shared} {env : Env} {value slice : Expr} {pos : Pos} {T id : String} {Q : Value → Shared → Prop}
    (hl : typeLookup (.type T) "__getitem__" = pure (some (.builtin id))) (hs : NoSl slice)
    (h : wpAny (model prog w) A (eval value env) (fun o s₁ => wpAny (model prog w) A (eval slice env) (fun i s₂ => s₂.TypeIs o T ∧ wpAny (model prog w) A (getItem o i) Q E s₂) E s₁) E s) :
    wpAny (model prog w) A (eval (.Subscript value slice pos) env) Q E s := by
  refine Subscript_ (wpAny_mono h (fun o s₁ h₁ => wpAny_mono h₁ (fun i s₂ h₂ => ?_) fun _ _ x => x) fun _ _ x => x)
  obtain ⟨hT, h₂⟩ := h₂
  unfold subscriptTail
  refine wpAny_bind ?_
  rw [getitemInPython_of_ne hT.not_modules]
  refine wpAny_bind (wpAny_specialOf hT hl ?_)
  have fin : wpAny (model prog w) A (subscripted slice false o i) (fun r s₃ => wpAny (model prog w) A (letTemporaryGo value o r >>= fun _ => pure r) Q E s₃) E s₂ := by
    rw [hs o i]
    exact wpAny_operating (wpAny_mono h₂ (fun r s₃ h₃ => wpAny_bind (wpAny_letTemporaryGo (wpAny_pure h₃))) fun _ _ x => x)
  first
    | exact wpAny_pure (wpAny_bind fin)
    | exact wpAny_bind (wpAny_pure (wpAny_bind fin))
    | exact wpAny_bind fin
theorem dict_typeIs {X : Cx} {pins : List (Addr × Obj)} {σ : St} {H : Hp} {s : Shared} {a : Addr} {y : V} {o : Option V} (I : Inv X pins σ H s) (g : DGet H a y o) : s.TypeIs (.ref a) "dict" := by
  rcases g with ⟨kvs, k, e, _, _⟩ | ⟨kvs, k, b, e, _, _, _⟩
  · obtain ⟨_, _, vs, _, dd⟩ := dk_rd I.hok e
    exact dd.typeIs
  · obtain ⟨_, _, xs, _, dd⟩ := dt_rd I.hok e
    exact dd.typeIs
def tDGet (td ty : TE) : TE := fun σ H Q => td σ H fun x H1 => ty σ H1 fun y H2 => ∃ a v, x = .ref a ∧ DGet H2 a y (some v) ∧ Q v H2
def tDIn (ty td : TE) : TE := fun σ H Q => ty σ H fun y H1 => td σ H1 fun x H2 => ∃ a o, x = .ref a ∧ DGet H2 a y o ∧ Q (.bl o.isSome) H2
def tDNotIn (ty td : TE) : TE := fun σ H Q => ty σ H fun y H1 => td σ H1 fun x H2 => ∃ a o, x = .ref a ∧ DGet H2 a y o ∧ Q (.bl (!o.isSome)) H2
def sDPut (td ty tv : TE) : TS := fun D σ H => tv σ H fun v H1 => td σ H1 fun x H2 => ty σ H2 fun y H3 => ∃ a H4, x = .ref a ∧ DPut H3 a y v H4 ∧ D.nx σ H4
def sDAug (td ty tv : TE) (rd : V → V → Hp → VK → Prop) : TS := fun D σ H => td σ H fun x H1 => ty σ H1 fun y H2 => ∃ a v, x = .ref a ∧ DGet H2 a y (some v) ∧
  tv σ H2 fun y2 H3 => rd v y2 H3 fun z H4 => ∃ H5, DPut H4 a y z H5 ∧ D.nx σ H5
def sDDel (td ty : TE) : TS := fun D σ H => td σ H fun x H1 => ty σ H1 fun y H2 => ∃ a kvs k, x = .ref a ∧ H2 a = some (.dK kvs) ∧ y = kV k ∧ (valV kvs k).isSome = true ∧ D.nx σ (upd H2 a (.dK (dropK kvs k)))
section
variable {X : Cx} {o i e value : Expr} {pos pos' tpos : Pos} {td ty tv : TE}
theorem pe_dget (hu : X.A.units + 1 < cLine) (ho : PE X o td) (hi : PE X i ty) (hs : NoSl i) : PE X (.Subscript o i pos) (tDGet td ty) := by
  intro pins s σ H Q I h
  refine subD_of PySem.F.slot_dict_getitem.lookup hs (thn (ho pins s σ H _ I h) fun u s1 ⟨x, H1, I1, rx, q1⟩ => thn (hi pins s1 σ H1 _ I1 q1) fun iv s2 ⟨y, H2, I2, ry, a, v, ex, g, q2⟩ => ?_)
  subst ex
  obtain rfl : u = Value.ref a := rx
  exact ⟨dict_typeIs I2 g, d_getItem hu I2 g ry fun w' s3 I3 rw' => ⟨v, H2, I3, rw', q2⟩⟩
theorem pc_din (hu : X.A.units + 1 < cLine) (hi : PE X i ty) (ho : PE X o td) : PC X .In i o (tDIn ty td) := by
  intro pins s σ H Q I h
  refine thn (hi pins s σ H _ I h) fun iv s1 ⟨y, H1, I1, ry, q1⟩ => thn (ho pins s1 σ H1 _ I1 q1) fun u s2 ⟨x, H2, I2, rx, a, ov, ex, g, q2⟩ => ?_
  subst ex
  obtain rfl : u = Value.ref a := rx
  exact d_in hu I2 g ry fun s3 I3 => ⟨.bl ov.isSome, H2, I3, rfl, q2⟩
theorem ps_dput (hu : X.A.units + 1 < cLine) (ho : PE X o td) (hi : PE X i ty) (hv : PE X value tv) (hs : swapsWith value (some (.Subscript o i pos')) pos.line X.env = pure false) :
    PS X (.Assign [.Subscript o i pos'] value pos) (sDPut td ty tv) := by
  intro pins s σ H D I h
  refine wpAny_Assign_Subscript (thn (hv pins s σ H _ I h) fun r s1 ⟨v, H1, I1, rv, q1⟩ => thn (ho pins s1 σ H1 _ I1 q1) fun u s2 ⟨x, H2, I2, rx, q2⟩ => thn (hi pins s2 σ H2 _ I2 q2) fun iv s3 ⟨y, H3, I3, ry, a, H4, ex, g, q3⟩ => ?_) hs
  subst ex
  obtain rfl : u = Value.ref a := rx
  exact d_setItem hu I3 g ry rv fun s4 I4 => ⟨σ, H4, I4, q3⟩
end
theorem dk_empty {P : Program} {w : World} {H : Hp} (h : Heap) (hb : sysModules < h.objs.size) : ObjOk P w H (h.push { cls := .type "dict", data := .dict #[] }) h.objs.size (.dK []) :=
  ⟨Nat.zero_le _, beq_eq_false_iff_ne.mpr (Ne.symm (Nat.ne_of_lt hb)), [], .nil, Heap.DictOf.new h⟩
def tDNewK : TE := fun _ H Q => ∀ p, H p = none → Q (.ref p) (upd H p (.dK []))
def tDNewT : TE := fun _ H Q => ∀ p, H p = none → Q (.ref p) (upd H p (.dT []))
section
variable {X : Cx} {pos : Pos}
theorem pe_dnewK : PE X (.Dict [] [] pos) tDNewK := fun pins s σ H Q I h =>
  wpAny_Dict_empty ⟨.ref s.heap.objs.size, _, I.laid (a := s.heap.objs.size) (o := .dK []) (t' := s.toks) (fun _ _ q => Heap.get?_push_of_some _ q) (Nat.le_refl _) (dk_empty s.heap I.big), rfl, h _ (I.hok.fresh (Nat.le_refl _))⟩
end
def tPairs : List (TE × TE) → St → Hp → (List (V × V) → Hp → Prop) → Prop
  | [], _, H, Q => Q [] H
  | (tk, tv) :: r, σ, H, Q => tk σ H fun x H1 => tv σ H1 fun y H2 => tPairs r σ H2 fun ps H3 => Q ((x, y) :: ps) H3
abbrev VV : List (V × V) → List (Value × Value) → Prop := Paired fun p q => RelV p.1 q.1 ∧ RelV p.2 q.2
def PPs (X : Cx) (pos : Pos) (keys : List (Option Expr)) (values : List Expr) (trs : List (TE × TE)) : Prop :=
  ∀ (pins : List (Addr × Obj)) (s : Shared) (σ : St) (H : Hp) (Q : List (V × V) → Hp → Prop), Inv X pins σ H s → tPairs trs σ H Q →
    wpAny (model X.prog X.w) X.A (evalPairs (pairTrees keys values X.env pos)) (fun vs s' => ∃ ps H', Inv X pins σ H' s' ∧ VV ps vs ∧ Q ps H') X.xe s
def mergeK (kvs more : List (Key × V)) : List (Key × V) := more.foldl (fun acc kv => putK acc kv.1 kv.2) kvs
theorem KV.merge : ∀ {more : List (Key × V)} {rs : List (Key × Value)} {kvs : List (Key × V)} {vs : List (Key × Value)}, KV more rs → KV kvs vs → KV (mergeK kvs more) (merged vs rs) := by
  intro more rs kvs vs r
  unfold KV at r
  induction r generalizing kvs vs with
  | nil => intro q; exact q
  | @cons p q ps qs h t ih =>
    intro r0
    have e : KV (putK kvs p.1 p.2) (stored vs q.1 q.2) := by
      have := r0.put p.1 h.2
      rw [← h.1]; exact this
    exact ih e
def tDisp (trs : List (TE × TE)) : TE := fun σ H Q => ∀ p, H p = none → tPairs trs σ (upd H p (.dK [])) fun ps H2 => H2 p = some (.dK []) ∧ ∃ kvs : List (Key × V), ps = kvs.map (fun kv => (kV kv.1, kv.2)) ∧ kvs.length ≤ 15 ∧ Q (.ref p) (upd H2 p (.dK (mergeK [] kvs)))
structure M1 (X : Cx) (o : Expr) (m : Str) (apos : Pos) (e : Expr) (cpos : Pos) : Prop where
  base : attributeBase o m X.env (eval o X.env) = eval o X.env
  few : ((backTo cpos (starEach [e] X.env)).all (fun x => !x.1) && (backToKw cpos (keywordEach [] X.env)).all (fun x => x.1.isSome)
    && decide (([e] : List Expr).length + ([] : List Keyword).length + (if ([] : List Keyword).isEmpty then 0 else 1) < 30)) = true
  line : (apos.endLine == cpos.line) = true
  trees : backTo cpos (starEach [e] X.env) = [(false, eval e X.env)]
structure M2 (X : Cx) (o : Expr) (m : Str) (apos : Pos) (e f : Expr) (cpos : Pos) : Prop where
  base : attributeBase o m X.env (eval o X.env) = eval o X.env
  few : ((backTo cpos (starEach [e, f] X.env)).all (fun x => !x.1) && (backToKw cpos (keywordEach [] X.env)).all (fun x => x.1.isSome)
    && decide (([e, f] : List Expr).length + ([] : List Keyword).length + (if ([] : List Keyword).isEmpty then 0 else 1) < 30)) = true
  line : (apos.endLine == cpos.line) = true
  trees : backTo cpos (starEach [e, f] X.env) = [(false, eval e X.env), (false, eval f X.env)]
def IsD (H : Hp) (a : Addr) : Prop := (∃ kvs, Rd H a (.dK kvs)) ∨ ∃ kvs, Rd H a (.dT kvs)
section
variable {X : Cx} {pins : List (Addr × Obj)} {σ : St} {H : Hp} {s : Shared} {a : Addr} {y d : V} {u r : Value} {o : Option V} {A : Around} {E : Value → Shared → Prop}
end
def tDGet1 (td ty : TE) : TE := fun σ H Q => td σ H fun x H1 => ∃ a, x = .ref a ∧ IsD H1 a ∧ ty σ H1 fun y H2 => ∃ o, DGet H2 a y o ∧ Q (o.getD .non) H2
def tDGet2 (td ty tx : TE) : TE := fun σ H Q => td σ H fun x H1 => ∃ a, x = .ref a ∧ IsD H1 a ∧ ty σ H1 fun y H2 => tx σ H2 fun z H3 => ∃ o, DGet H3 a y o ∧ Q (o.getD z) H3
def tDPop1 (td ty : TE) : TE := fun σ H Q => td σ H fun x H1 => ∃ a, x = .ref a ∧ IsD H1 a ∧ ty σ H1 fun y H2 => ∃ kvs k v, H2 a = some (.dK kvs) ∧ y = kV k ∧ valV kvs k = some v ∧ Q v (upd H2 a (.dK (dropK kvs k)))
def tDPop2 (td ty tx : TE) : TE := fun σ H Q => td σ H fun x H1 => ∃ a, x = .ref a ∧ IsD H1 a ∧ ty σ H1 fun y H2 => tx σ H2 fun z H3 => ∃ kvs k, H3 a = some (.dK kvs) ∧ y = kV k ∧
  (∀ v, valV kvs k = some v → Q v (upd H3 a (.dK (dropK kvs k)))) ∧ (valV kvs k = none → Q z H3)
section
variable {X : Cx} {o e f : Expr} {apos cpos : Pos} {td ty tx : TE}
end
section
variable {X : Cx} {pins : List (Addr × Obj)} {σ : St} {H : Hp} {s : Shared} {a : Addr} {kvs : List (Key × V)} {A : Around} {E : Value → Shared → Prop}
end
section
variable {X : Cx} {pins : List (Addr × Obj)} {σ : St} {H : Hp} {s : Shared} {a : Addr} {y : V} {u : Value} {A : Around} {E : Value → Shared → Prop}
end
end L2
namespace Att
open PySem PySem.W PySem.Calls PyProof.Rows
theorem ints_of_wellAll {P : Params} {h : Heap} : ∀ (ns : List Int) (vs : List Value), WellAll P h vs (ns.map WData.int) → IntsAre vs ns := by
  intro ns
  induction ns with
  | nil =>
    intro vs w
    rw [List.map_nil] at w
    cases w
    exact .nil
  | cons n ns ih =>
    intro vs w
    rw [List.map_cons] at w
    cases w with
    | cons a b =>
      cases a
      exact .cons _ _ (ih _ b)
theorem script_of {l : OpenLaw} {n : Nat} (hn : l.most = some n) {P : Params} {h : Heap} {args : List WData} {vals : List Value}
    (hpre : l.row.toRowW.claim.pre args = true) (hwl : WellAll P h vals args) :
    ∃ a vs ns, vals = [Value.ref a] ∧ args = [WData.list (ns.map WData.int)] ∧ h.get? a = some { cls := .type "list", data := .seq vs.toArray } ∧ IntsAre vs ns ∧ ns.length ≤ n := by
  have hsh : WShape.hasAll [] args [.list .int] = true := (pre_splitW hpre).1
  have hc : l.pre.holds [] { args := args } = true := (pre_splitW hpre).2
  obtain ⟨d, r, rfl, h1, h2⟩ := hasAllW_cons hsh
  obtain rfl := hasAllW_nil h2
  obtain ⟨xs, rfl, h3⟩ := hasW_list h1
  obtain ⟨ns, rfl⟩ := items_int h3
  have hlen : ns.length ≤ n := by
    unfold OpenLaw.pre at hc
    have h4 : (WTm.not (.lt (.lit (.int (n : Int))) (.len (.arg 0)))).holds [] { args := [.list (ns.map .int)] } = true := by
      have h4 := (holds_andW hc).1
      rw [hn] at h4
      exact h4
    have h5 := condW_of h4 (w_not (w_lt w_lit (w_len_list (w_arg rfl))))
    rw [List.length_map] at h5
    refine Nat.le_of_not_lt fun q => ?_
    have q' : (n : Int) < ((ns.length : Nat) : Int) := by omega
    first
      | (rw [decide_eq_true q'] at h5; exact absurd h5 (by decide))
      | (simp at h5; omega)
  cases hwl with
  | cons w1 w2 =>
    cases w2
    cases w1 with
    | list ho hall => exact ⟨_, _, ns, rfl, rfl, ho, ints_of_wellAll ns _ hall, hlen⟩
theorem post_true (l : OpenLaw) (args : List WData) : l.row.toRowW.claim.post args (.bool true) args = true :=
  postW_of (r := l.row.toRowW) (X := (true == true))
    (show WShape.has [] (.bool true) .bool = true by first | rfl | decide | simp [WShape.has, WShape.arms, WShape.armsAll])
    (show (WTm.eq .res (.lit (.bool true))).value [] { args := args, res := some (.bool true), after := args } = some (.bool (true == true)) from w_eq_bool (w_res rfl) w_lit) rfl
theorem attach_call {l : OpenLaw} {n : Nat} {q : Program} {loose : List Str} {XP : (Str → Option Value) → Heap → Prop} {YP : World → Heap → Prop} {d : DefRec}
    (hn : l.most = some n) (hdf : d.params.defaults = [])
    (call : ∀ (w : World) (s₀ s₁ : Shared) (mg mb : Str → Option Value) (fa : Addr) (o : Obj) (pm cd doc : Value) (a : Addr) (vs : List Value) (ns : List Int),
      Ground q loose [] XP w s₀ mg mb s₁.heap → YP w s₁.heap →
      s₁.heap.get? fa = some o → o.data = .func (docDef d.name d.params d.body d.scope pm cd doc) → s₁.heap.CodeRec cd d.name → mg d.name = some (.ref fa) →
      s₁.heap.get? a = some { cls := .type "list", data := .seq vs.toArray } → IntsAre vs ns → ns.length ≤ n → s₁.gens = #[] →
      codeAny (model l.prog w) callerA (.call (.ref fa) ⟨[.ref a], []⟩) (fun r s' => r = .ok (.ret (.bool true)) ∧ OldK s₁.heap s'.heap ∧ s'.os = s₁.os ∧ AllBare s'.gens) s₁) :
    WalkO q loose XP YP l.row.toRowW d [] (fun f vs => PySem.call f vs) := by
  intro w s₀ s₁ mg mb G Y fa o pm cd doc dV kV ho hd hcd hD hmg hg args vals as hpre hlay hrd hwl hlo
  obtain rfl : dV = .none := Dflts.none hD hdf
  obtain rfl : kV = .none := Dflts.noKw hD
  obtain ⟨a, vs, ns, rfl, rfl, hobj, hints, hlen⟩ := script_of hn hpre hwl
  refine enter_call (codeAny_mono (call w s₀ s₁ mg mb fa o pm cd doc a vs ns G Y ho (fd_plain hd) hcd hmg hobj hints hlen hg) fun r s' hq => ?_)
  obtain ⟨rfl, h2, h3, h4⟩ := hq
  exact ⟨.inl ⟨.bool true, .bool true, [], rfl, fun _ => rfl, .bool true, post_true l _, fun _ => ⟨List.Pairwise.nil, fun _ hm => (nomatch hm)⟩⟩, h2, h3, h4⟩
section
variable {prog : Program} {w : World} {A : Around} {E : Value → Shared → Prop} {s : Shared} {K : Frag}
def noObjs (h : Heap) : Heap := { h with objs := #[] }
def ledger (h : Heap) (L d : Addr) : List (Addr × Obj) := (List.range h.objs.size).filterMap fun a => if a = L ∨ a = d then none else (h.get? a).map fun o => (a, o)
end
end Att
namespace L2
open PySem PySem.Spec PyProof.Rows
theorem vals_ints : ∀ {vs : List Value} {ns : List Int}, IntsAre vs ns → Vals (ns.map V.int) vs
  | _, _, .nil => .nil
  | _, _, .cons n t h => .cons ⟨t, rfl⟩ (vals_ints h)
def Only (H : Hp) : Prop := ∀ b, H b = none ∨ ∃ o xs, H b = some (.frz o (.lst xs))
theorem law_call {P : Program} {w : World} {K : PySem.W.Frag} {mg mb : Str → Option Value} {CX : CXT} {k : Nat} {fa a : Addr} {fd : FuncData} {x : Str} {sp : Sp} {s₁ : Shared} {vs : List Value} {ns : List Int}
    (KX : K.In s₁.heap) (hns : s₁.heap.Ns mainGlobals mg) (hb : s₁.heap.Ns builtinsNs mb) (hbb : ∀ x : Str, x ≠ "__name__" → mb x = bootBuiltins x) (hlim : s₁.heap.NoLimit) (hg : s₁.gens = #[])
    (ha : s₁.heap.get? a = some { cls := .type "list", data := .seq vs.toArray }) (hi : IntsAre vs ns) (hl : ns.length ≤ sizeLine) (hr : Room k callerA)
    (F : ∀ base : Heap, K.In base → base.Ns mainGlobals mg → FnOk P w K mg base CX k fa fd [x] sp) (hbind : ∀ (s : Shared) (u : Value), BindsTo s fd ⟨[u], []⟩ [(x, u)])
    (hsp : ∀ H : Hp, Only H → SqL K H a (ns.map V.int) → sp [.ref a] H (fun v _ => v = .bl true) fun _ _ _ => False)
    (hCX : ∀ H e s', CX [] H s₁ (fun _ _ _ => False) e s' → False) :
    codeAny (model P w) callerA (.call (.ref fa) ⟨[.ref a], []⟩) (fun r s' => r = .ok (.ret (.bool true)) ∧ OldK s₁.heap s'.heap ∧ s'.os = s₁.os ∧ AllBare s'.gens) s₁ := by
  have rv := vals_ints hi
  have lenV := hi.length
  have core : ∀ H : Hp, Only H → SqL K H a (ns.map V.int) → HOk P w H s₁.heap → (∀ b, H b ≠ none → b = a) → (H a ≠ none → K.lookup a = none) →
      codeAny (model P w) callerA (.call (.ref fa) ⟨[.ref a], []⟩) (fun r s' => r = .ok (.ret (.bool true)) ∧ OldK s₁.heap s'.heap ∧ s'.os = s₁.os ∧ AllBare s'.gens) s₁ := by
    intro H hO hS hok hA hK
    have base_of : ∀ {b : Addr} {o : Obj}, s₁.heap.get? b = some o → H b = none → (hidT s₁.heap H).get? b = some o := fun e n => hidT_get e n
    have noA : ∀ {b : Addr} {o : Obj} {es : Array DictEntry} {ep : Nat}, s₁.heap.get? b = some o → o.data = .dict es ep → H b = none := fun {b o es ep} e d => by
      cases q : H b with
      | none => rfl
      | some u =>
        have e' : b = a := hA b (by rw [q]; simp)
        subst e'
        rw [ha] at e; cases e
        have d' : Data.seq vs.toArray _ = Data.dict es ep := d
        cases d'
    have nsK : ∀ {b : Addr} {m : Str → Option Value}, s₁.heap.Ns b m → (hidT s₁.heap H).Ns b m := fun {b m} ⟨o, es, ep, e, d, r⟩ => ⟨o, es, ep, base_of e (noA e d), d, r⟩
    have hKb : K.In (hidT s₁.heap H) := fun b o e => base_of (KX b o e) (by
      cases q : H b with
      | none => rfl
      | some u =>
        have e' : b = a := hA b (by rw [q]; simp)
        subst e'
        rw [hK (by rw [q]; simp)] at e; cases e)
    have hM : Mod K mg (hidT s₁.heap H) := ⟨hKb, nsK hns, ⟨mb, nsK hb, hbb⟩, let ⟨mc, h1, h2⟩ := hlim; ⟨mc, nsK h1, h2⟩⟩
    have e0 : Env0 P w K mg (hidT s₁.heap H) callerA [] s₁ H := ⟨rfl, hM, fun b o e => of_hidT e, Nat.le_of_eq (hidT_size _ _), trivial, fun b hb => absurd (show b ∈ ([] : List Addr) from hb) (by simp), hok, .of_eq hg⟩
    refine codeAny_mono ((F _ hKb (nsK hns)).run callerA [] s₁ H ⟨[.ref a], []⟩ [.ref a] [.ref a] _ _ hr e0 (hbind s₁ (.ref a)) (.cons rfl .nil) (hsp H hO hS)) fun r s' h => ?_
    cases r with
    | error e => exact (hCX H e s' h).elim
    | ok fl =>
      cases fl with
      | next => exact False.elim h
      | brk => exact False.elim h
      | cont => exact False.elim h
      | ret u =>
        obtain ⟨v, H', os, bare, un, hok', r', q⟩ := h
        have q' : v = .bl true := q
        subst q'
        obtain rfl : u = Value.bool true := r'
        refine ⟨rfl, OldK.of_keep fun b o e => ?_, os, bare⟩
        cases q : H b with
        | none => exact un.keep b o e q (by intro z; exact absurd (show b ∈ ([] : List Addr) from z) (by simp)) (by simp)
        | some u =>
          rcases hO b with z | ⟨ob, xs, z⟩
          · rw [q] at z; cases z
          · have z2 := un.frzs b ob _ z
            obtain ⟨e1, _⟩ := hok b _ z
            obtain ⟨e2, _⟩ := hok' b _ z2
            rw [e] at e1; cases e1
            exact e2
  cases hk : K.lookup a with
  | some o =>
    have e := KX a o hk
    rw [ha] at e
    cases e
    refine core (fun _ => none) (fun _ => .inl rfl) (.inr ⟨_, vs.toArray, _, hk, rfl, rfl, rfl, by rw [List.size_toArray, lenV]; exact hl, by simpa using rv⟩) (fun b u z => by have z' : (none : Option HO) = some u := z; cases z') (fun b z => absurd rfl z) fun z => absurd rfl z
  | none =>
    refine core (fun b => if b = a then some (.frz { cls := .type "list", data := .seq vs.toArray } (.lst (ns.map V.int))) else none) (fun b => ?_) (.inl (.inr ⟨{ cls := .type "list", data := .seq vs.toArray }, if_pos rfl⟩)) (fun b u z => ?_) (fun b z => ?_) fun _ => hk
    · by_cases hb : b = a
      · exact .inr ⟨_, _, if_pos hb⟩
      · exact .inl (if_neg hb)
    · by_cases hb : b = a
      · have z' := (if_pos hb).symm.trans z
        cases z'
        subst hb
        exact ⟨ha, by rw [List.length_map]; exact hl, vs, _, rv, ha⟩
      · have z' := (if_neg hb).symm.trans z
        cases z'
    · by_cases hb : b = a
      · exact hb
      · exact absurd (if_neg hb) z
end L2
namespace L2
open PySem PySem.Spec PyProof.Rows
abbrev KOf {K : PySem.W.Frag} {h : Heap} (_ : K.In h) : PySem.W.Frag := K
theorem walk_of {l : PySem.W.OpenLaw} {n k : Nat} {q : Program} {loose : List Str} {XP : (Str → Option Value) → Heap → Prop} {YP : World → Heap → Prop} {d : DefRec} {K : Params → PySem.W.Frag} {CX : World → CXT} {sp : World → Sp} {x : Str}
    (hn : l.most = some n) (hn2 : n ≤ sizeLine) (hdf : d.params.defaults = []) (hr : Room k callerA)
    (hY : ∀ (w : World) (h : Heap), YP w h → (K w.params).In h)
    (F : ∀ (w : World) (mg : Str → Option Value) (fa : Addr) (h : Heap), (K w.params).In h → h.Ns mainGlobals mg → mg d.name = some (.ref fa) →
      ∃ fd : FuncData, (∀ (s : Shared) (u : Value), BindsTo s fd ⟨[u], []⟩ [(x, u)]) ∧
        ∀ base : Heap, (K w.params).In base → base.Ns mainGlobals mg → FnOk l.prog w (K w.params) mg base (CX w) k fa fd [x] (sp w))
    (hsp : ∀ (w : World) (H : Hp) (a : Addr) (ns : List Int), ns.length ≤ n → Only H → SqL (K w.params) H a (ns.map V.int) → sp w [.ref a] H (fun v _ => v = .bl true) fun _ _ _ => False)
    (hCX : ∀ (w : World) (H : Hp) (s : Shared) (e : Value) (s' : Shared), CX w [] H s (fun _ _ _ => False) e s' → False) :
    PySem.W.WalkO q loose XP YP l.row.toRowW d [] (fun f vs => PySem.call f vs) := by
  refine Att.attach_call hn hdf fun w s₀ s₁ mg mb fa o pm cd doc a vs ns G Y ho hd hcd hmg hobj hints hlen hg => ?_
  have KX := hY w _ Y
  obtain ⟨fd, hb, hF⟩ := F w mg fa _ KX G.T.g hmg
  exact law_call KX G.T.g G.T.b G.T.builtins G.T.nolimit hg hobj hints (Nat.le_trans hlen hn2) hr hF hb (fun H hO hS => hsp w H a ns hlen hO hS) fun H e s' => hCX w H s₁ e s'
end L2
namespace L2
open PySem PySem.Spec PyProof.Rows
def inClass (s : Stmt) (j : Nat) : Stmt := match s with
  | .ClassDef _ _ _ body _ _ _ _ _ _ _ => body.getD j (.Pass ⟨0, 0, 0, 0⟩)
  | _ => .Pass ⟨0, 0, 0, 0⟩
def defArgs (s : Stmt) : Arguments := match s with
  | .FunctionDef _ a _ _ _ _ _ _ _ _ => a
  | _ => { posonlyargs := [], args := [], vararg := none, kwonlyargs := [], kw_defaults := [], kwarg := none, defaults := [] }
def defBody (s : Stmt) : List Stmt := match s with
  | .FunctionDef _ _ b _ _ _ _ _ _ _ => b
  | _ => []
def defScope (s : Stmt) : Scope := match s with
  | .FunctionDef _ _ _ _ _ _ sc _ _ _ => sc
  | _ => { kind := .function, names := [], isGenerator := false, isCoroutine := false }
abbrev CX0 : CXT := fun _ _ _ _ _ _ => False
abbrev E0 : XK := fun _ _ _ => False
theorem pass0 {X : Cx} : Passes CX0 X E0 := fun _ _ _ _ _ _ _ h => h.elim
structure Fun (K : PySem.W.Frag) (x qual : Str) (st : Stmt) (f : Addr) (fd : FuncData) : Prop where
  ex : ∃ (oc : Value) (od : Option Addr) (kV doc pm : Value) (an : Option Addr) (cdv ct : Value) (osl : Array (Option Value)),
    fd = PySem.W.fnOf x qual (defArgs st) (defBody st) (defScope st) .none kV doc pm an cdv ct ∧ K.lookup f = some ⟨oc, od, .func fd, osl⟩ ∧ PySem.W.codeIn K cdv qual = true
  kp : PySem.W.keepIn K (.ref f) = true
section
variable {P : Program} {w : World} {K : PySem.W.Frag} {mg : Str → Option Value} {base : Heap}
theorem Fun.ok {x qual : Str} {st : Stmt} {f : Addr} {fd : FuncData} {N ps : List Str} {k : Nat} {sp : Sp} (F : Fun K x qual st f fd) (S : FnScope N ps (defScope st)) (len : ∀ vs H Q E, sp vs H Q E → vs.length = ps.length)
    (hbody : ∀ (cdv : Value) (A : Around) (outer : List Env) (s : Shared) (H : Hp) (vs : List V) (Q : VK) (E : XK), Room k (A.deeper (envOfC qual (defScope st) s.heap.objs.size f cdv)) → sp vs H Q E →
      ∃ t, PSs (cxOf CX0 P w K mg base N qual (defScope st) f cdv A outer s H E).nox (defBody st) t ∧ t { nx := fun _ H' => Q .non H', rt := Q } (start N vs) H) : FnOk P w K mg base CX0 (k + 1) f fd ps sp := by
  obtain ⟨oc, od, kV, doc, pm, an, cdv, ct, osl, rfl, lk, hcd⟩ := F.ex
  refine fn_of lk hcd S len fun A outer s H vs Q E hr hsp => ?_
  obtain ⟨t, h, q⟩ := hbody cdv A outer s H vs Q E hr hsp
  exact ⟨t, h.nox, q⟩
theorem Fun.binds {x qual : Str} {st : Stmt} {f : Addr} {fd : FuncData} {ps : List Str} (F : Fun K x qual st f fd)
    (h : ∀ (kV doc pm : Value) (an : Option Addr) (cdv ct : Value) (us : List Value), us.length = ps.length → bindArgs (PySem.W.fnOf x qual (defArgs st) (defBody st) (defScope st) .none kV doc pm an cdv ct) ⟨us, []⟩ = pure (ps.zip us)) : Binds K fd ps [] := by
  obtain ⟨oc, od, kV, doc, pm, an, cdv, ct, osl, rfl, lk, hcd⟩ := F.ex
  exact .all (h kV doc pm an cdv ct)
theorem fun_mk {x qual : Str} {st : Stmt} {f : Addr} {oc : Value} {od an : Option Addr} {osl : Array (Option Value)} {kV doc pm cdv ct : Value} (l : K.lookup f = some ⟨oc, od, .func (PySem.W.fnOf x qual (defArgs st) (defBody st) (defScope st) .none kV doc pm an cdv ct), osl⟩)
    (c : PySem.W.codeIn K cdv qual = true) (k : PySem.W.keepIn K (.ref f) = true) : Fun K x qual st f (PySem.W.fnOf x qual (defArgs st) (defBody st) (defScope st) .none kV doc pm an cdv ct) := ⟨⟨oc, od, kV, doc, pm, an, cdv, ct, osl, rfl, l, c⟩, k⟩
end
theorem hu_of {A : Around} {k : Nat} (hr : Room k A) : A.units + 1 < cLine := Nat.lt_of_le_of_lt (Nat.add_le_add_left (by decide : 1 ≤ 64) _) hr.units
theorem small1000 {n : Nat} (h : n ≤ 1000) : n < sizeLine := Nat.lt_of_le_of_lt h (by decide)
section
variable {X : Cx}
theorem pv (i : Nat) {x : Str} {pos : Pos} (hN : X.N[i]? = some x := by rfl) (hv : Vis X.env.scope x := by first | exact Or.inl rfl | exact Or.inr (Or.inl rfl) | exact Or.inr (Or.inr rfl)) (hd : (x == ("__debug__" : Str)) = false := by decide)
    (hcd : (x == ("__classdict__" : Str)) = false := by decide) : PE X (.Name x pos) (tVar i) := pe_var hN hv hd hcd
end
theorem iteF {A B : Prop} (h : B) : if false = true then A else B := by
  rw [if_neg Bool.false_ne_true]
  exact h
theorem iteT {A B : Prop} (h : A) : if true = true then A else B := by
  rw [if_pos rfl]
  exact h
theorem ite2 {c A B : Prop} [Decidable c] (h1 : c → A) (h2 : ¬ c → B) : if c then A else B := by
  by_cases h : c
  · rw [if_pos h]
    exact h1 h
  · rw [if_neg h]
    exact h2 h
theorem iteNS {c A B : Prop} [Decidable c] (hc : c) (h : B) : if (!decide c) = true then A else B := by
  rw [decide_eq_true hc]
  exact iteF h
def Same (H H' : Hp) : Prop := ∀ b o, H b = some o → H' b = some o
theorem Same.refl (H : Hp) : Same H H := fun _ _ h => h
theorem Same.trans {H H1 H2 : Hp} (a : Same H H1) (b : Same H1 H2) : Same H H2 := fun c o h => b c o (a c o h)
theorem Same.free {H H' : Hp} (e : Same H H') {l : Addr} (h : H' l = Option.none) : H l = Option.none := by
  cases q : H l with
  | none => rfl
  | some o =>
    rw [e l o q] at h
    cases h
theorem Same.seq {K : PySem.W.Frag} {H H' : Hp} {a : Addr} {xs : List V} (e : Same H H') (h : SqL K H a xs) : SqL K H' a xs := by
  rcases h with (h | ⟨o, h⟩) | h
  · exact .inl (.inl (e _ _ h))
  · exact .inl (.inr ⟨o, e _ _ h⟩)
  · exact .inr h
section
variable {κ : Type} [DecidableEq κ]
end
end L2
set_option Elab.async false
set_option linter.all false
set_option maxRecDepth 100000
namespace L2
open PySem PySem.Spec PyProof.Rows
theorem compLoop_gen {prog : Program} {w : World} {A : Around} {s : Shared} {elt target iter : Expr} {ifs : List Expr} {scope : Scope} {pos : Pos} {it acc : Value} {env : Env} {R : Result → Shared → Prop} (I : Nat → Shared → Prop)
    (turn : ∀ n s, I n s → wpAny (model prog w) A (pyNext it) (fun r s1 => match r with
      | none => R (.ok .next) s1
      | some v => wpAny (model prog w) A (letOwnedTupleGo target it v) (fun _ s1' => wpAny (model prog w) A (assign target env v) (fun _ s2 =>
          wpAny (model prog w) A (forIn ifs true fun c r => if r = true then do let ok ← isTrue c env (eval c env); pure (ForInStep.yield ok) else pure (ForInStep.yield r)) (fun ok s3 =>
            if ok = true then wpAny (model prog w) A (eval elt env) (fun x s4 =>
              wpAny (model prog w) A (call (.builtin "list.append") [acc, x]) (fun _ s5 => ∃ m, m < n ∧ I m s5) (fun _ _ => False) s4) (fun _ _ => False) s3
            else ∃ m, m < n ∧ I m s3) (fun _ _ => False) s2) (fun _ _ => False) s1') (fun _ _ => False) s1) (fun _ _ => False) s)
    (n : Nat) (h : I n s) : codeAny (model prog w) A (.compLoop (.ListComp elt [⟨target, iter, ifs, 0⟩] scope pos) 0 it acc env) R s := by
  have no : ∀ (x : Value) (s' : Shared), False → notedBy (model prog w) A env (fun e s' => R (.error e) s') x s' := fun _ _ z => z.elim
  refine codeAny_loop rfl I (fun n s hI => ?_) n h
  show wpAny _ A ((compTurn (.ListComp elt [⟨target, iter, ifs, 0⟩] scope pos) 0 it acc env).onRaise (fun x => do noteFrame x env; theTreesLotGoes x)) _ _ s
  refine wpAny_noted ?_
  rw [compTurn_list]
  refine wpAny_bind (wpAny_standAt (wpAny_bind (wpAny_mono (turn n s hI) (fun r s1 h1 => ?_) no)))
  cases r with
  | none => exact wpAny_pure h1
  | some v =>
    refine wpAny_bind (wpAny_mono h1 (fun _ s1' h1' => ?_) no)
    refine wpAny_bind (wpAny_mono h1' (fun _ s2 h2 => wpAny_bind (wpAny_mono h2 (fun ok s3 h3 => ?_) no)) no)
    cases ok with
    | false => exact wpAny_pure ⟨rfl, h3⟩
    | true =>
      exact wpAny_bind (wpAny_bind (wpAny_mono h3 (fun x s4 h4 => wpAny_bind (wpAny_mono h4 (fun _ s5 h5 => wpAny_pure (wpAny_pure ⟨rfl, h5⟩)) no)) no))
theorem ff_eq : (NameKind.free == NameKind.free) = true := rfl
def clOf (cells : List (Str × Addr)) : List (Str × NameKind) → List (Str × Addr) → List (Str × Addr)
  | [], acc => acc
  | (n, k) :: r, acc => if k == .free then clOf cells r ((n, (cells.lookup n).getD 0) :: acc) else clOf cells r acc
theorem forIn_cl {env : Env} : ∀ (names : List (Str × NameKind)) (acc : List (Str × Addr)), (∀ x ∈ names, x.2 = .free → (env.cells.lookup x.1).isSome = true) →
    (forIn names acc fun x (cs : List (Str × Addr)) => (match x with | (name, kind) => if (kind == NameKind.free) = true then do let c ← cellOf env name; pure (ForInStep.yield ((name, c) :: cs)) else pure (ForInStep.yield cs) : Sem (ForInStep (List (Str × Addr))))) = (pure (clOf env.cells names acc) : Sem (List (Str × Addr)))
  | [], acc, _ => by simp only [List.forIn_nil]; rfl
  | (n, k) :: r, acc, h => by
    have ih := fun a => forIn_cl (env := env) r a fun x hx => h x (List.mem_cons_of_mem _ hx)
    rw [List.forIn_cons]
    by_cases hk : k = .free
    · subst hk
      have q := h (n, .free) List.mem_cons_self rfl
      obtain ⟨c, hc⟩ := Option.isSome_iff_exists.mp q
      have e : cellOf env n = pure c := by unfold cellOf; rw [show env.cells.lookup n = some c from hc]
      simp only [beq_self_eq_true, if_true, e, pure_bind]
      rw [ih]
      show _ = pure (if (NameKind.free == NameKind.free) = true then clOf env.cells r ((n, (env.cells.lookup n).getD 0) :: acc) else _)
      rw [if_pos ff_eq, show env.cells.lookup n = some c from hc]
      rfl
    · have hb : (k == NameKind.free) = false := by simpa using hk
      simp only [hb, Bool.false_eq_true, if_false, pure_bind]
      rw [ih]
      show _ = pure (if (k == NameKind.free) = true then _ else clOf env.cells r acc)
      rw [hb]
      rfl
theorem closure_cl {scope : Scope} {env : Env} (h : ∀ x ∈ scope.names, x.2 = .free → (env.cells.lookup x.1).isSome = true) : closureFor scope env = pure (clOf env.cells scope.names []) := by
  unfold closureFor
  have e := forIn_cl (env := env) scope.names [] h
  simp only [bind_pure] at *
  exact e
theorem cl_sub {cells : List (Str × Addr)} : ∀ (names : List (Str × NameKind)) (acc : List (Str × Addr)), (∀ x ∈ names, x.2 = .free → (cells.lookup x.1).isSome = true) → (∀ x c, acc.lookup x = some c → cells.lookup x = some c) →
    ∀ x c, (clOf cells names acc).lookup x = some c → cells.lookup x = some c
  | [], acc, _, ha => ha
  | (n, k) :: r, acc, h, ha => by
    unfold clOf
    by_cases hk : k = .free
    · subst hk
      rw [if_pos ff_eq]
      refine cl_sub r _ (fun x hx => h x (List.mem_cons_of_mem _ hx)) fun x c e => ?_
      by_cases hx : x = n
      · subst hx
        rw [List.lookup_cons_self] at e
        obtain ⟨d, hd⟩ := Option.isSome_iff_exists.mp (h (x, .free) List.mem_cons_self rfl)
        have hd' : cells.lookup x = some d := hd
        rw [hd'] at e ⊢
        exact e
      · rw [List.lookup_cons, beq_eq_false_iff_ne.mpr hx] at e
        exact ha x c e
    · rw [if_neg (by simpa using hk)]
      exact cl_sub r _ (fun x hx => h x (List.mem_cons_of_mem _ hx)) ha
theorem cl_mono {cells : List (Str × Addr)} : ∀ (names : List (Str × NameKind)) (acc : List (Str × Addr)) (x : Str), (acc.lookup x).isSome = true → ((clOf cells names acc).lookup x).isSome = true
  | [], acc, _, ha => ha
  | (n, k) :: r, acc, x, ha => by
    unfold clOf
    split
    · refine cl_mono r _ x ?_
      rw [List.lookup_cons]
      split
      · rfl
      · exact ha
    · exact cl_mono r _ x ha
theorem cl_has {cells : List (Str × Addr)} : ∀ (names : List (Str × NameKind)) (acc : List (Str × Addr)) (x : Str), (x, NameKind.free) ∈ names → ((clOf cells names acc).lookup x).isSome = true
  | [], _, _, h => by simp at h
  | (n, k) :: r, acc, x, h => by
    unfold clOf
    rcases List.mem_cons.mp h with e | h
    · obtain ⟨e1, e2⟩ := Prod.mk.inj e
      subst e1 e2
      rw [if_pos ff_eq]
      refine cl_mono r _ _ ?_
      rw [List.lookup_cons_self]
      rfl
    · split
      · exact cl_has r _ x h
      · exact cl_has r _ x h
theorem lookup_relabel {env : Env} : ∀ {names : List (Str × NameKind)} {x : Str} {k : NameKind},
    (names.map fun (n, k) => if (k == NameKind.free && env.scope.kind == .function && env.kindOf n == some .cell) then (n, NameKind.cell) else (n, k)).lookup x = some k →
      names.lookup x = some k ∨ (k = .cell ∧ names.lookup x = some .free)
  | [], _, _, h => by simp at h
  | (n, k') :: r, x, k, h => by
    rw [List.map_cons] at h
    by_cases hx : x = n
    · subst hx
      rw [List.lookup_cons_self]
      by_cases hc : (k' == NameKind.free && env.scope.kind == .function && env.kindOf x == some .cell) = true
      · simp only [hc, if_true] at h
        rw [List.lookup_cons_self] at h
        have hk : k' = .free := by
          simp only [Bool.and_eq_true, beq_iff_eq] at hc
          exact hc.1.1
        exact .inr ⟨(Option.some.inj h).symm, by rw [hk]⟩
      · simp only [hc] at h
        rw [if_neg (by simp), List.lookup_cons_self] at h
        exact .inl h
    · have e : (x == n) = false := beq_eq_false_iff_ne.mpr hx
      have h' : (r.map fun (n, k) => if (k == NameKind.free && env.scope.kind == .function && env.kindOf n == some .cell) then (n, NameKind.cell) else (n, k)).lookup x = some k := by
        by_cases hc : (k' == NameKind.free && env.scope.kind == .function && env.kindOf n == some .cell) = true
        · simp only [hc, if_true] at h
          rw [List.lookup_cons, e] at h
          exact h
        · simp only [hc] at h
          rw [if_neg (by simp), List.lookup_cons, e] at h
          exact h
      have ih := @lookup_relabel env r x k h'
      rw [List.lookup_cons, e]
      exact ih
theorem relabel_free {env : Env} : ∀ {names : List (Str × NameKind)} {x : Str}, names.lookup x = some .free →
    (names.map fun (n, k) => if (k == NameKind.free && env.scope.kind == .function && env.kindOf n == some .cell) then (n, NameKind.cell) else (n, k)).lookup x = some .cell ∨
    (names.map fun (n, k) => if (k == NameKind.free && env.scope.kind == .function && env.kindOf n == some .cell) then (n, NameKind.cell) else (n, k)).lookup x = some .free
  | [], _, h => by simp at h
  | (n, k') :: r, x, h => by
    rw [List.map_cons]
    by_cases hx : x = n
    · subst hx
      rw [List.lookup_cons_self] at h
      cases h
      by_cases hc : (NameKind.free == NameKind.free && env.scope.kind == .function && env.kindOf x == some .cell) = true
      · simp only [hc, if_true]
        exact .inl List.lookup_cons_self
      · simp only [hc]
        rw [if_neg (by simp)]
        exact .inr List.lookup_cons_self
    · have e : (x == n) = false := beq_eq_false_iff_ne.mpr hx
      rw [List.lookup_cons, e] at h
      have ih := @relabel_free env r x h
      by_cases hc : (k' == NameKind.free && env.scope.kind == .function && env.kindOf n == some .cell) = true
      · simp only [hc, if_true]
        rw [List.lookup_cons, e]
        exact ih
      · simp only [hc]
        rw [if_neg (by simp), List.lookup_cons, e]
        exact ih
def blk (X : Cx) (scope : Scope) (own : List Str) (fr : List Nat) (s : Shared) (H : Hp) (ex : List Addr) : Cx where
  prog := X.prog
  w := X.w
  K := X.K
  mg := X.mg
  base := X.base
  A := X.A
  N := own ++ fr.map fun j => X.N.getD j (Str.ofString "")
  s₀ := s
  H₀ := H
  env := compEnvC scope (clOf X.env.cells scope.names []) s.heap.objs.size X.env
  outer := X.stack
  stack := X.stack
  ex := ex
  fn := fun _ => false
  calm := X.calm
  pn := []
  xe := fun _ _ => False
def blkS (own : List Str) (fr : List Nat) (σ : St) : St := own.map (fun _ => none) ++ fr.map fun j => (σ[j]?).join
structure CompOk (X : Cx) (scope : Scope) (fr : List Nat) : Prop where
  kind : scope.kind = .function
  nocell : ∀ y ∈ scope.names, y.2 ≠ .cell
  loc : ∀ y ∈ scope.names, y.2 = .local → scope.names.lookup y.1 = some .local
  frees : ∀ y ∈ scope.names, y.2 = .free → X.env.scope.names.lookup y.1 = some .cell ∨ X.env.scope.names.lookup y.1 = some .free
  fr : ∀ j ∈ fr, scope.names.lookup (X.N.getD j (Str.ofString "")) = some .free
theorem inv_blk {X : Cx} {scope : Scope} {own : List Str} {fr : List Nat} {pins : List (Addr × Obj)} {σ : St} {H : Hp} {s : Shared} {ex : List Addr} {h1 : Heap} {t1 : Nat} (I : Inv X pins σ H s) (O : CompOk X scope fr)
    (hex : ∀ b ∈ ex, FpOk X pins H b ∧ b < s.heap.objs.size) (hns : h1.Ns s.heap.objs.size fun _ => none) (hk : ∀ b o, s.heap.get? b = some o → h1.get? b = some o) :
    Inv (blk X scope own fr s H ex) [] (blkS own fr σ) H { s with heap := h1, toks := t1 } := by
  have hsome : ∀ x ∈ scope.names, x.2 = .free → (X.env.cells.lookup x.1).isSome = true := fun x hx e => by
    obtain ⟨c, hc⟩ := I.ok.has x.1 (O.frees x hx e)
    rw [hc]; rfl
  have sub : ∀ x c, (clOf X.env.cells scope.names []).lookup x = some c → X.env.cells.lookup x = some c := cl_sub scope.names [] hsome fun x c e => by simp at e
  have hasc : ∀ x, scope.names.lookup x = some .free → ∃ c, (clOf X.env.cells scope.names []).lookup x = some c := fun x e => Option.isSome_iff_exists.mp (cl_has scope.names [] x (PySem.mem_of_lookup e))
  have hcne : ∀ x c, X.env.cells.lookup x = some c → c < s.heap.objs.size := fun x c e => by
    obtain ⟨v, q⟩ := I.cell x c e
    exact q.lt
  have hN : σ.length = X.N.length := I.len
  refine ⟨⟨I.ok.mod, O.kind, I.ok.glob, I.ok.blt, Nat.le_refl _, fun x y c e1 e2 => I.ok.inj x y c (sub x c e1) (sub y c e2), fun x hx => ?_, fun x c z => absurd z (by simp [blk]), I.ok.hd, I.ok.frames, .inl rfl, fun b hb => ⟨Nat.ne_of_lt (hex b hb).2, fun x c e => (hex b hb).1.2.2.2.2.1 x c (sub x c e)⟩,
    fun b o e => I.bs b o e, Nat.le_trans I.ok.bsz I.sz, fun b o e hb => ?_, fun b hb z => ?_, I.stack, I.stkFree⟩,
    rfl, I.bare, Un.kept hk, ⟨_, hns, fun i x v e1 e2 e3 => ?_⟩, fun x c e => ?_, I.fresh, fun x c e => I.freeC x c (sub x c e), fun p hp => absurd hp (by simp [blk]), I.hok.kept hk, ?_⟩
  · have hx' : (relabel scope X.env).names.lookup x = some .cell ∨ (relabel scope X.env).names.lookup x = some .free := hx
    rcases hx' with hx | hx
    · rcases lookup_relabel hx with q | ⟨_, q⟩
      · exact absurd rfl (O.nocell _ (PySem.mem_of_lookup q))
      · exact hasc x q
    · rcases lookup_relabel hx with q | ⟨q, _⟩
      · exact hasc x q
      · cases q
  · rcases (hex b hb).1.2.2.2.1 with z | z
    · exact I.ok.noex b o e z
    · exact absurd (Nat.lt_of_lt_of_le (Heap.lt_size e) (Nat.le_trans I.ok.bsz z)) (Nat.lt_irrefl _)
  · obtain ⟨_, f1, f2, _⟩ := (hex b hb).1
    rcases List.mem_cons.mp (I.stkSub b z) with q | q
    · exact f1 q
    · exact f2 q
  · have e1' : (own ++ fr.map fun j => X.N.getD j (Str.ofString ""))[i]? = some x := e1
    unfold blkS at e2
    have hi : own.length ≤ i := by
      by_cases h : own.length ≤ i
      · exact h
      · rw [List.getElem?_append_left (by simpa using Nat.lt_of_not_le h), List.getElem?_map] at e2
        cases q : own[i]? with
        | none => rw [q] at e2; cases e2
        | some z => rw [q] at e2; cases e2
    rw [List.getElem?_append_right hi, List.getElem?_map] at e1'
    rw [List.getElem?_append_right (by simpa using hi), List.getElem?_map, List.length_map] at e2
    cases q : fr[i - own.length]? with
    | none => rw [q] at e2; cases e2
    | some j =>
      rw [q] at e1' e2
      have e1'' : X.N.getD j (Str.ofString "") = x := Option.some.inj e1'
      have e2' : (σ[j]?).join = some v := Option.some.inj e2
      have e2'' : σ[j]? = some (some v) := by
        cases z : σ[j]? with
        | none => rw [z] at e2'; cases e2'
        | some y => rw [z] at e2'; rw [← e2']; rfl
      have hj : j < X.N.length := by rw [← hN]; exact (List.getElem?_eq_some_iff.mp e2'').1
      have e3' : X.N[j]? = some x := by
        rw [List.getElem?_eq_getElem hj, ← e1'', List.getD_eq_getElem?_getD, List.getElem?_eq_getElem hj]
        rfl
      have hf := O.fr j (List.mem_of_getElem? q)
      rw [e1''] at hf
      have hv := O.frees _ (PySem.mem_of_lookup hf) rfl
      obtain ⟨m, _, hl⟩ := I.loc
      obtain ⟨u, ru, lk⟩ := hl j x v e3' e2'' (.inr hv)
      refine ⟨u, ru, .inr ⟨?_, ?_⟩⟩
      · exact relabel_free hf
      · obtain ⟨c, hc⟩ := hasc x hf
        refine ⟨c, hc, ?_⟩
        rcases lk with ⟨k, _⟩ | ⟨_, c', hc', z⟩
        · have k' : X.env.scope.names.lookup x = some .local := k
          rcases hv with hv | hv <;> · rw [k'] at hv; cases hv
        · have := sub x c hc
          rw [hc'] at this
          cases this
          obtain ⟨o, ho, hd⟩ := z
          exact ⟨o, hk _ _ ho, hd⟩
  · obtain ⟨v, o, ho, hd⟩ := I.cell x c (sub x c e)
    exact ⟨v, o, hk _ _ ho, hd⟩
  · show (blkS own fr σ).length = (own ++ fr.map fun j => X.N.getD j (Str.ofString "")).length
    unfold blkS
    rw [List.length_append, List.length_append, List.length_map, List.length_map, List.length_map]
theorem blk_back {X : Cx} {scope : Scope} {own : List Str} {fr : List Nat} {pins : List (Addr × Obj)} {σ σ' : St} {H H' : Hp} {s s' : Shared} {ex : List Addr} (I : Inv X pins σ H s) (hex : ∀ b ∈ ex, FpOk X pins H b ∧ b < s.heap.objs.size)
    (J : Inv (blk X scope own fr s H ex) [] σ' H' s') {h' : Heap} (hs : Heap.SameBut s.heap.objs.size s'.heap h') : Inv X pins σ H' { s' with heap := h' } := by
  have hC : H' s.heap.objs.size = none := J.free
  have u : Un (frs X.stack) ex H H' s.heap s'.heap := J.base
  have ne : ∀ b o, s.heap.get? b = some o → b ≠ s.heap.objs.size := fun b o e => Nat.ne_of_lt (Heap.lt_size e)
  have at' : ∀ b o, b ≠ s.heap.objs.size → s'.heap.get? b = some o → h'.get? b = some o := fun b o hb e => (hs.2 b hb).trans e
  refine I.call' (ch := ex) J.os ⟨fun b o e n hb hx => ?_, fun b o e n hb hx => ?_, u.free, fun b o e hx => ?_, u.tups, u.frzs, u.tbls⟩ (fun b o e => ?_) J.bare fun b hb => ?_
  · exact at' b o (ne b o e) (u.keep b o e n hb hx)
  · obtain ⟨sl, q⟩ := u.slot b o e n hb hx
    exact ⟨sl, at' b _ (ne b o e) q⟩
  · obtain ⟨o', q⟩ := u.there b o e hx
    exact ⟨o', at' b _ (ne b o e) q⟩
  · refine (J.hok b o e).stay (fun c v hc q => at' c v ?_ q) (fun _ q => q) fun _ _ q => q
    rintro z
    rcases hc with y | y
    · rw [y] at z; rw [z, hC] at e; cases e
    · rw [z, hC] at y; cases y
  · obtain ⟨f0, f1, f2, f3, f4, f5⟩ := (hex b hb).1
    exact ⟨f3, f1, f4, f5⟩
def PTs (X : Cx) (ifs : List Expr) (t : TT) : Prop :=
  ∀ (pins : List (Addr × Obj)) (s : Shared) (σ : St) (H : Hp) (Q : Bool → Hp → Prop), Inv X pins σ H s → t σ H Q →
    wpAny (model X.prog X.w) X.A (forIn ifs true fun c r => if r = true then do let ok ← isTrue c X.env (eval c X.env); pure (ForInStep.yield ok) else pure (ForInStep.yield r)) (TP X pins σ Q) X.xe s
def tYes : TT := fun _ H Q => Q true H
theorem pts_nil {X : Cx} : PTs X [] tYes := fun _ _ _ H _ I h => wpAny_tests_nil ⟨H, I, h⟩
def CompGo (J : It) (p : Addr) (g : TG) (tt : TT) (te : TE) (Q : VK) (σ : St) (H : Hp) : Prop := ∃ W : Nat → Nat → St → Hp → Prop, (∃ m, W 0 m σ H) ∧
  ∀ i m σ' H', W i m σ' H' → (J.stop i H' ∧ Q (.ref p) H') ∨ (J.go i H' ∧ ∃ N : St → Hp → Prop, (∀ σ3 H3, N σ3 H3 → ∃ m', m' < m ∧ W (i + 1) m' σ3 H3) ∧ ∀ x H2, J.yld i H' x H2 → g x σ' H2 fun σ3 H3 => tt σ3 H3 fun c H4 =>
    if c = true then te σ3 H4 fun y H5 => ∃ ys, H5 p = some (.lst ys) ∧ ys.length < sizeLine ∧ N σ3 (upd H5 p (.lst (ys ++ [y]))) else N σ3 H4)
def tComp (own : List Str) (fr : List Nat) (wi : TI) (g : TG) (tt : TT) (te : TE) : TE := fun σ H Q => wi σ H fun J H1 => ∀ p, H1 p = none → CompGo J p g tt te Q (blkS own fr σ) (upd H1 p (.lst []))
theorem comp_run {X : Cx} {scope : Scope} {own : List Str} {fr : List Nat} {elt tg iter : Expr} {ifs : List Expr} {pos : Pos} {wi : TI} {g : TG} {tt : TT} {te : TE} {use : Option (Value → Sem Unit)} (hc : X.calm = true) (O : CompOk X scope fr) (hi : PI X tg iter wi)
    (hb : ∀ s H ex, PG (blk X scope own fr s H ex) tg g ∧ PTs (blk X scope own fr s H ex) ifs tt ∧ PE (blk X scope own fr s H ex) elt te)
    (hs : ∀ x, foldedSetIterable iter X.env x = pure x) {pins : List (Addr × Obj)} {s : Shared} {σ : St} {H : Hp} {Q : VK} {R : Value → Shared → Prop} (I : Inv X pins σ H s) (h : tComp own fr wi g tt te σ H Q) (hx : ∀ e s', X.xe e s' ↔ False)
    (fin : ∀ (p C : Addr) (H' : Hp) (s' : Shared) (m : Str → Option Value), s'.heap.Ns C m → H' C = none → C ≠ X.env.locals → (∀ x c, X.env.cells.lookup x = some c → c ≠ C) → Inv X pins σ H' s' → (∀ h', Heap.SameBut C s'.heap h' → Inv X pins σ H' { s' with heap := h' }) → Q (.ref p) H' →
      compPost (model X.prog X.w) X.A X.xe use R (.ref p) C (.ok .next) s') :
    wpAny (model X.prog X.w) X.A (comprehension (.ListComp elt [⟨tg, iter, ifs, 0⟩] scope pos) scope X.env (firstIterPos [⟨tg, iter, ifs, 0⟩] pos) (newList []) false (eval iter X.env) use) R X.xe s := by
  have hsome : ∀ x ∈ scope.names, x.2 = .free → (X.env.cells.lookup x.1).isSome = true := fun x hx' e => by
    obtain ⟨c, hc⟩ := I.ok.has x.1 (O.frees x hx' e)
    rw [hc]; rfl
  have no : ∀ (E : Value → Shared → Prop) (x : Value) (s' : Shared), X.xe x s' → E x s' := fun E x s' z => ((hx x s').mp z).elim
  refine wpAny_comprehension_free (cl := clOf X.env.cells scope.names []) rfl hs (closure_cl hsome) O.kind O.loc ?_
  refine thn (hi pins s σ H _ I h) fun v s1 h1 => thn h1 fun itv s2 h2 => ?_
  obtain ⟨it, fp, tn, J, H2, e, I2, T, st2, f2, q2⟩ := h2
  subst e
  refine wpAny_newObj_type ?_
  have nw : H2 s2.heap.objs.size = none := I2.fresh
  obtain ⟨W, ⟨m0, w0⟩, turn⟩ := q2 _ nw
  generalize hp : s2.heap.objs.size = p at *
  have I3 : Inv X pins σ (upd H2 p (.lst [])) { s2 with heap := s2.heap.push { cls := .type "list", dict := none, data := .seq ([] : List Value).toArray } } := by
    have := I2.lnew (ys := []) (its := []) (t' := s2.toks) .nil (Nat.zero_le _)
    rw [hp] at this
    exact this
  have lt2 : ∀ b ∈ fp, b < s2.heap.objs.size := fun b hb => by
    obtain ⟨o, ho, _⟩ := T.obj _ _ st2 b hb
    exact Heap.lt_size ho
  have fpn : ∀ b ∈ fp, (upd H2 p (.lst [])) b = none := fun b hb => by
    rw [upd_ne (by rw [← hp]; exact Nat.ne_of_lt (lt2 b hb))]
    exact (f2 b hb).1
  generalize hs3 : ({ s2 with heap := s2.heap.push { cls := .type "list", dict := none, data := .seq ([] : List Value).toArray } } : Shared) = s3 at *
  have sz3 : s3.heap.objs.size = p + 1 := by
    rw [← hs3]
    show (s2.heap.push _).objs.size = _
    rw [Heap.size_push, hp]
  have st3 : tn 0 s3.heap := T.keep 0 _ _ st2 fun b hb o e => by
    rw [← hs3]
    exact Heap.get?_push_of_some _ e
  refine wpAny_newFunctionEnv O.nocell (by intro y hy; simp at hy) (fun h4 hns4 hsb4 => ?_) O.kind
  have k4 : ∀ b o, s3.heap.get? b = some o → h4.get? b = some o := fun b o e => hsb4.extBut b o (Nat.ne_of_lt (Heap.lt_size e)) (Heap.get?_push_of_some _ e)
  have hns4' : h4.Ns s3.heap.objs.size fun _ => none := by
    have z : (fun x : Str => ([] : List (Str × Value)).reverse.lookup x) = fun _ => none := by funext x; rfl
    rw [z] at hns4
    exact hns4
  have fo : ∀ b ∈ fp, FpOk X pins (upd H2 p (.lst [])) b ∧ b < s3.heap.objs.size := fun b hb => ⟨⟨fpn b hb, (f2 b hb).2⟩, by rw [sz3, ← hp]; exact Nat.lt_succ_of_lt (lt2 b hb)⟩
  have I4 := inv_blk (own := own) (fr := fr) (t1 := s3.toks + ([] : List (Str × Value)).length) I3 O fo hns4' k4
  have st4 : tn 0 h4 := T.keep 0 _ _ st3 fun b hb o e => k4 b o e
  obtain ⟨hg, ht, he⟩ := hb s3 (upd H2 p (.lst [])) fp
  have stat : ∀ {H' : Hp} {pn : List (Addr × Obj)} {s' : Shared} {σ' : St}, Inv (blk X scope own fr s3 (upd H2 p (.lst [])) fp) [] σ' H' s' → (∀ b ∈ fp, H' b = none) → ∀ b ∈ fp, FpOk (blk X scope own fr s3 (upd H2 p (.lst [])) fp) [] H' b := fun {H' pn s' σ'} J hn b hb' =>
    ⟨hn b hb', (J.ok.exf b hb').1, J.ok.exfs b hb', .inl hb', (J.ok.exf b hb').2, fun p hp => absurd hp (by simp [blk])⟩
  have nocells : ∀ x c, X.env.cells.lookup x = some c → c ≠ s3.heap.objs.size := fun x c e => by
    obtain ⟨v, q⟩ := I3.cell x c e
    exact Nat.ne_of_lt q.lt
  have loop : ∀ s5 : Shared, s5 = { s3 with heap := h4, toks := s3.toks + ([] : List (Str × Value)).length } →
      codeAny (model X.prog X.w) X.A (.compLoop (.ListComp elt [⟨tg, iter, ifs, 0⟩] scope pos) 0 (.ref it) (.ref p) (blk X scope own fr s3 (upd H2 p (.lst [])) fp).env) (compPost (model X.prog X.w) X.A X.xe use R (.ref p) s3.heap.objs.size) s5 := by
    rintro s5 rfl
    refine compLoop_gen (fun n s' => ∃ i σ' H', Inv (blk X scope own fr s3 (upd H2 p (.lst [])) fp) [] σ' H' s' ∧ tn i s'.heap ∧ (∀ b ∈ fp, H' b = none) ∧ W i n σ' H') ?_ m0 ⟨0, _, _, I4, st4, fpn, w0⟩
    rintro n s6 ⟨i, σ6, H6, I6, st6, fr6, w6⟩
    rcases turn i n σ6 H6 w6 with ⟨stop, qn⟩ | ⟨go, N, hN, step⟩
    · refine thn (T.done (blk X scope own fr s3 (upd H2 p (.lst [])) fp) rfl rfl rfl hc i [] s6 σ6 H6 _ I6 (stat (pn := []) I6 fr6) st6 stop) fun r s7 ⟨hr, I7⟩ => ?_
      subst hr
      obtain ⟨m, hm, _⟩ := I7.loc
      exact fin p _ H6 s7 m hm I7.free (Nat.ne_of_gt I3.lt) nocells (blk_back I3 fo I7 (Heap.SameBut.refl ..)) (fun h' hs' => blk_back I3 fo I7 hs') qn
    · refine thn (T.item (blk X scope own fr s3 (upd H2 p (.lst [])) fp) rfl rfl rfl hc i [] s6 σ6 H6 _ I6 (stat (pn := []) I6 fr6) st6 go) fun r s7 ⟨u, hr, h7⟩ => ?_
      subst hr
      refine thn h7 fun _ s8 ⟨x, H8, I8, r8, y8, st8, fr8⟩ => ?_
      have I8' := I8.pinned (stat (pn := []) I8 fr8) (T.obj _ _ st8)
      refine thn (hg _ s8 σ6 H8 x u _ I8' r8 (step x H8 y8)) fun _ s9 ⟨σ9, H9, I9, q9⟩ => ?_
      refine thn (ht _ s9 σ9 H9 _ I9 q9) fun ok s10 ⟨H10, I10, q10⟩ => ?_
      have again : ∀ {H11 : Hp} {s11 : Shared}, Inv (blk X scope own fr s3 (upd H2 p (.lst [])) fp) ([] ++ pinsAt fp s8.heap) σ9 H11 s11 → (∃ m', m' < n ∧ W (i + 1) m' σ9 H11) →
          ∃ m, m < n ∧ ∃ i σ' H', Inv (blk X scope own fr s3 (upd H2 p (.lst [])) fp) [] σ' H' s11 ∧ tn i s11.heap ∧ (∀ b ∈ fp, H' b = none) ∧ W i m σ' H' := fun {H11 s11} I11 ⟨m', hm, w11⟩ => by
        refine ⟨m', hm, i + 1, σ9, H11, I11.unpinned, T.keep _ _ _ st8 fun b hb' o e => (I11.pin (b, o) (List.mem_append_right _ (List.mem_append_right _ (mem_pinsAt hb' e)))).1, fun b hb' => ?_, w11⟩
        obtain ⟨o, e, d⟩ := T.obj _ _ st8 b hb'
        exact (I11.pin (b, o) (List.mem_append_right _ (List.mem_append_right _ (mem_pinsAt hb' e)))).2.1
      cases ok with
      | false =>
        rw [if_neg Bool.false_ne_true] at q10 ⊢
        exact again I10 (hN _ _ q10)
      | true =>
        rw [if_pos rfl] at q10 ⊢
        refine thn (he _ s10 σ9 H10 _ I10 q10) fun yv s11 ⟨y, H11, I11, r11, ys, hys, hlen, q11⟩ => ?_
        have ap := mt_append (X := blk X scope own fr s3 (upd H2 p (.lst [])) fp) ([] ++ pinsAt fp s8.heap) s11 σ9 H11 (.ref p) [y] (.ref p) [yv] (fun _ H12 => ∃ m', m' < n ∧ W (i + 1) m' σ9 H12) I11 rfl (.cons r11 .nil) ⟨p, ys, y, rfl, rfl, hys, hlen, hN _ _ q11⟩
        exact thn ap fun _ s12 ⟨_, H12, I12, _, q12⟩ => again I12 q12
  refine codeAny_compStart_list (loop _ rfl) (T.self X.A 0 _ _ _ st4 (loop _ rfl))
theorem pe_comp {X : Cx} {scope : Scope} {elt tg iter : Expr} {ifs : List Expr} {pos : Pos} {wi : TI} {g : TG} {tt : TT} {te : TE} (own : List Str) (fr : List Nat) (hc : X.calm = true) (O : CompOk X scope fr) (hi : PI X.nox tg iter wi)
    (hb : ∀ s H ex, PG (blk X.nox scope own fr s H ex) tg g ∧ PTs (blk X.nox scope own fr s H ex) ifs tt ∧ PE (blk X.nox scope own fr s H ex) elt te)
    (hs : ∀ x, foldedSetIterable iter X.env x = pure x := by intro _; rfl) : PE X.nox (.ListComp elt [⟨tg, iter, ifs, 0⟩] scope pos) (tComp own fr wi g tt te) := by
  intro pins s σ H Q I h
  rw [eval_ListComp]
  refine comp_run (X := X.nox) (use := none) (Q := Q) hc ⟨O.kind, O.nocell, O.loc, O.frees, O.fr⟩ hi hb hs I h (fun _ _ => Iff.rfl) fun p C H' s' m hm hC _ _ I' back q => ?_
  exact ⟨m, hm, fun h' hs' => ⟨.ref p, H', back h' hs', rfl, q⟩⟩
section
variable {p : Addr} {g : TG} {tt : TT} {te : TE} {σ : St} {H : Hp} {Q : VK}
theorem comp_by (J : It) (n : Nat) (Pv : Nat → St → Hp → Prop) (h0 : Pv 0 σ H) (stop : ∀ σ' H', Pv n σ' H' → J.stop n H') (go : ∀ i σ' H', i < n → Pv i σ' H' → J.go i H')
    (hs : ∀ i σ' H', i < n → Pv i σ' H' → ∀ x H2, J.yld i H' x H2 → g x σ' H2 fun σ3 H3 => tt σ3 H3 fun c H4 => if c = true then te σ3 H4 fun y H5 => ∃ ys, H5 p = some (.lst ys) ∧ ys.length < sizeLine ∧ Pv (i + 1) σ3 (upd H5 p (.lst (ys ++ [y]))) else Pv (i + 1) σ3 H4)
    (hd : ∀ σ' H', Pv n σ' H' → Q (.ref p) H') : CompGo J p g tt te Q σ H := by
  refine ⟨fun i m σ H => m = n - i ∧ i ≤ n ∧ Pv i σ H, ⟨n, by simp, Nat.zero_le _, h0⟩, ?_⟩
  rintro i m σ1 H1 ⟨rfl, hi, pv⟩
  by_cases hlt : i < n
  · exact .inr ⟨go i σ1 H1 hlt pv, Pv (i + 1), fun σ3 H3 q => ⟨n - (i + 1), by omega, rfl, hlt, q⟩, hs i σ1 H1 hlt pv⟩
  · have e : i = n := by omega
    subst e
    exact .inl ⟨stop σ1 H1 pv, hd σ1 H1 pv⟩
theorem comp_range {lo : Int} {n : Nat} (Pv : Nat → St → Hp → Prop) (h0 : Pv 0 σ H)
    (hs : ∀ i σ' H', i < n → Pv i σ' H' → g (.int (lo + i)) σ' H' fun σ3 H3 => tt σ3 H3 fun c H4 => if c = true then te σ3 H4 fun y H5 => ∃ ys, H5 p = some (.lst ys) ∧ ys.length < sizeLine ∧ Pv (i + 1) σ3 (upd H5 p (.lst (ys ++ [y]))) else Pv (i + 1) σ3 H4)
    (hd : ∀ σ' H', Pv n σ' H' → Q (.ref p) H') : CompGo (Itr lo n) p g tt te Q σ H :=
  comp_by (Itr lo n) n Pv h0 (fun _ _ _ => Nat.le_refl _) (fun i _ _ h _ => h) (fun i σ' H' h pv x H2 y => by
    obtain ⟨e1, e2⟩ := y
    subst e1 e2
    exact hs i σ' _ h pv) hd
theorem comp_tup {K : PySem.W.Frag} {a : Addr} {xs : List V} (Pv : Nat → St → Hp → Prop) (h0 : Pv 0 σ H) (hl : ∀ i σ' H', i ≤ xs.length → Pv i σ' H' → SqT K H' a xs)
    (hs : ∀ i x σ' H', xs[i]? = some x → Pv i σ' H' → g x σ' H' fun σ3 H3 => tt σ3 H3 fun c H4 => if c = true then te σ3 H4 fun y H5 => ∃ ys, H5 p = some (.lst ys) ∧ ys.length < sizeLine ∧ Pv (i + 1) σ3 (upd H5 p (.lst (ys ++ [y]))) else Pv (i + 1) σ3 H4)
    (hd : ∀ σ' H', Pv xs.length σ' H' → Q (.ref p) H') : CompGo (Itt K a) p g tt te Q σ H :=
  comp_by (Itt K a) xs.length Pv h0 (fun σ' H' pv => ⟨xs, hl _ σ' H' (Nat.le_refl _) pv, Nat.le_refl _⟩) (fun i σ' H' h pv => ⟨xs, xs[i], hl i σ' H' (Nat.le_of_lt h) pv, by simp [h]⟩) (fun i σ' H' h pv x H2 y => by
    obtain ⟨e1, e2⟩ := y
    subst e1
    exact hs i x σ' _ (e2 xs (hl i σ' _ (Nat.le_of_lt h) pv)) pv) hd
end
end L2
set_option Elab.async false
set_option linter.all false
set_option maxRecDepth 100000
namespace L2
open PySem PySem.Spec PyProof.Rows
inductive D where
  | int (i : Int) | str (x : Str) | tup (ds : List D)
mutual
def Held (H : Hp) : D → V → Prop
  | .int i, v => v = .int i
  | .str x, v => v = .str x
  | .tup ds, v => ∃ a xs, v = .ref a ∧ H a = some (.tup xs) ∧ HeldL H ds xs
def HeldL (H : Hp) : List D → List V → Prop
  | [], vs => vs = []
  | d :: ds, vs => ∃ v r, vs = v :: r ∧ Held H d v ∧ HeldL H ds r
end
mutual
theorem Held.mono {H H' : Hp} (e : Same H H') : ∀ {d : D} {v : V}, Held H d v → Held H' d v
  | .int i, v, h => by unfold Held at h ⊢; exact h
  | .str x, v, h => by unfold Held at h ⊢; exact h
  | .tup ds, v, h => by
    unfold Held at h ⊢
    obtain ⟨a, xs, e1, e2, e3⟩ := h
    exact ⟨a, xs, e1, e a _ e2, HeldL.mono e e3⟩
theorem HeldL.mono {H H' : Hp} (e : Same H H') : ∀ {ds : List D} {vs : List V}, HeldL H ds vs → HeldL H' ds vs
  | [], vs, h => by unfold HeldL at h ⊢; exact h
  | d :: ds, vs, h => by
    unfold HeldL at h ⊢
    obtain ⟨v, r, e1, e2, e3⟩ := h
    exact ⟨v, r, e1, Held.mono e e2, HeldL.mono e e3⟩
end
theorem held_int {H : Hp} {i : Int} : Held H (.int i) (.int i) := by unfold Held; rfl
theorem held_tup {H : Hp} {a : Addr} {xs : List V} {ds : List D} (e : H a = some (.tup xs)) (h : HeldL H ds xs) : Held H (.tup ds) (.ref a) := by unfold Held; exact ⟨a, xs, rfl, e, h⟩
theorem heldL_nil {H : Hp} : HeldL H [] [] := by unfold HeldL; rfl
theorem heldL_cons {H : Hp} {d : D} {ds : List D} {v : V} {r : List V} (h : Held H d v) (t : HeldL H ds r) : HeldL H (d :: ds) (v :: r) := by unfold HeldL; exact ⟨v, r, rfl, h, t⟩
theorem HeldL.length {H : Hp} : ∀ {ds : List D} {vs : List V}, HeldL H ds vs → ds.length = vs.length
  | [], vs, h => by unfold HeldL at h; subst h; rfl
  | d :: ds, vs, h => by
    unfold HeldL at h
    obtain ⟨v, r, e1, _, e3⟩ := h
    subst e1
    rw [List.length_cons, List.length_cons, HeldL.length e3]
theorem HeldL.get {H : Hp} : ∀ {ds : List D} {vs : List V} {j : Nat} {d : D}, HeldL H ds vs → ds[j]? = some d → ∃ v, vs[j]? = some v ∧ Held H d v
  | [], _, _, _, _, e => by simp at e
  | d :: ds, vs, 0, d', h, e => by
    unfold HeldL at h
    obtain ⟨v, r, e1, e2, e3⟩ := h
    simp at e; subst e e1
    exact ⟨v, rfl, e2⟩
  | d :: ds, vs, j + 1, d', h, e => by
    unfold HeldL at h
    obtain ⟨v, r, e1, e2, e3⟩ := h
    subst e1
    obtain ⟨w, h1, h2⟩ := HeldL.get (j := j) (d := d') e3 (by simpa using e)
    exact ⟨w, by simpa using h1, h2⟩
mutual
def D.depth : D → Nat
  | .int _ => 0
  | .str _ => 0
  | .tup ds => D.depthL ds + 1
def D.depthL : List D → Nat
  | [] => 0
  | d :: ds => max (D.depth d) (D.depthL ds)
end
section
variable {X : Cx} {pins : List (Addr × Obj)} {σ : St} {H : Hp} {s : Shared}
def LikeK (H : Hp) (n : Nat) (kvs kvs' : List (Key × V)) : Prop := kvs.length = kvs'.length ∧ ∀ k v, (k, v) ∈ kvs → ∃ v' d, valV kvs' k = some v' ∧ Held H d v ∧ Held H d v' ∧ d.depth ≤ n
end
section
variable {prog : Program} {w : World} {A : Around} {E : Value → Shared → Prop}
end
def gLst (K : PySem.W.Frag) (n : Nat) (t : TGs) : TG := fun v σ H Q => ∃ a xs, v = .ref a ∧ SqL K H a xs ∧ xs.length = n ∧ t xs σ H Q
theorem op_fdivB {X : Cx} : OpR X (binaryOp .FloorDiv) (rI (fun _ j => 0 < j ∧ j < 2 ^ 200) fun i j => .int (i / j)) := opI fun i j _ _ _ _ _ hc q => by
  refine floordiv_int (by omega) ?_ (.inl (PyProof.noPylong_of_log2 ?_))
  · rw [Int.fdiv_eq_ediv_of_nonneg _ (by omega)]
    exact q
  · have h0 : j.natAbs ≠ 0 := by omega
    exact Nat.lt_trans ((Nat.log2_lt h0).mpr (show j.natAbs < 2 ^ 200 by omega)) (by decide)
theorem call_all {X : Cx} (hc : X.calm = true) : CallR X (.builtin "all") (fun xs H Q => ∃ (p : Addr) (ys : List Bool), xs = [.ref p] ∧ SqL X.K H p (ys.map V.bl) ∧ Q (.bl (ys.all id)) H) := by
  intro pins s σ H xs us Q I r h
  obtain ⟨p, ys, rfl, hq, q⟩ := h
  obtain ⟨u, rfl, ru⟩ := vals1 r
  cases ru
  obtain ⟨its, rv, hp, hz⟩ := I.list hq
  refine call_all_walk (wpAny_pyIter_list hp.isList ?_)
  have hne : p ≠ s.heap.objs.size := by
    obtain ⟨o, ho, _⟩ := hp.isList
    exact Nat.ne_of_lt (Heap.lt_size ho)
  have hl := rv.length
  rw [List.length_map] at hl
  refine ⟨_, _, _, _, _, _, fun i => ys.getD i false, rfl, Walks.list (A := X.A.in1) (show X.A.in1.handled = none from I.ok.hd hc) s.heap.objs.size p hne its.toArray, ⟨⟨_, Heap.get?_push_size _ rfl, rfl, rfl⟩, hp.isList.at fun o e => Heap.get?_push_of_some _ e⟩, ?_, ?_⟩
  · intro i v s1 Q1 E1 hv hq1
    have hv' : its[i]? = some v := by simpa using hv
    have hi : i < its.length := (List.getElem?_eq_some_iff.mp hv').1
    have ey : (ys.map V.bl)[i]? = some (.bl (ys[i]'(by omega))) := by rw [List.getElem?_map, List.getElem?_eq_getElem (by omega)]; rfl
    obtain ⟨w, hw, rw'⟩ := rv.get ey
    rw [hv'] at hw; cases hw
    cases rw'
    have : ys.getD i false = ys[i]'(by omega) := by rw [List.getD_eq_getElem?_getD, List.getElem?_eq_getElem (by omega)]; rfl
    have hq2 : Q1 (ys.getD i false) s1 := hq1
    rw [this] at hq2
    exact wpAny_truthy_bool hq2
  · intro h' tk hk
    have e : ((List.range its.toArray.size).all fun i => ys.getD i false) = ys.all id := by
      have el : its.toArray.size = ys.length := by simp; omega
      rw [el]
      apply Bool.eq_iff_iff.mpr
      rw [List.all_eq_true, List.all_eq_true]
      constructor
      · intro h x hx
        obtain ⟨i, hi, rfl⟩ := List.mem_iff_getElem.mp hx
        have := h i (List.mem_range.mpr hi)
        rw [List.getD_eq_getElem?_getD, List.getElem?_eq_getElem hi] at this
        exact this
      · intro h i hi
        have hi := List.mem_range.mp hi
        rw [List.getD_eq_getElem?_getD, List.getElem?_eq_getElem hi]
        exact h _ (List.getElem_mem hi)
    rw [e]
    exact ⟨.bl (ys.all id), H, I.kept (t' := tk) fun b o e => hk b o (by simp; exact Nat.ne_of_lt (Heap.lt_size e)) (Heap.get?_push_of_some _ e), rfl, q⟩
theorem call_isinst {X : Cx} : CallR X (.builtin "isinstance") (fun xs H Q => ∃ x t T b, xs = [x, .ty T] ∧ TyOf X.K H x t ∧ PySem.W.kitOne X.K t (.type T) = some b ∧ Q (.bl b) H) := by
  intro pins s σ H xs us Q I r h
  obtain ⟨x, t, T, b, rfl, ty, e, q⟩ := h
  obtain ⟨u, v, rfl, ru, rv⟩ := vals2 r
  cases rv
  exact isinst_ok I ru ty e fun tk => ⟨.bl b, H, I.tok _, rfl, q⟩
theorem kit_tt (K : PySem.W.Frag) : PySem.W.kitOne K (.type "tuple") (.type "tuple") = some true := rfl
theorem kit_it (K : PySem.W.Frag) : PySem.W.kitOne K (.type "int") (.type "tuple") = some false := rfl
theorem kit_st (K : PySem.W.Frag) : PySem.W.kitOne K (.type "str") (.type "tuple") = some false := rfl
theorem kit_ii (K : PySem.W.Frag) : PySem.W.kitOne K (.type "int") (.type "int") = some true := rfl
theorem kit_si (K : PySem.W.Frag) : PySem.W.kitOne K (.type "str") (.type "int") = some false := rfl
theorem kit_ib (K : PySem.W.Frag) : PySem.W.kitOne K (.type "int") (.type "bool") = some false := rfl
theorem kit_ss (K : PySem.W.Frag) : PySem.W.kitOne K (.type "str") (.type "str") = some true := rfl
def plainE : Expr → Bool
  | .Starred _ _ => false
  | _ => true
theorem se_plain {e : Expr} (h : plainE e = true) (rest : List Expr) (env : Env) : starEach (e :: rest) env = (false, eval e env) :: starEach rest env := by
  cases e <;> first | rfl | cases h
theorem se_any (pos : Pos) (env : Env) : ∀ es : List Expr, es.all plainE = true → (backTo pos (starEach es env)).any (·.1) = false
  | [], _ => rfl
  | e :: es, h => by
    rw [List.all_cons, Bool.and_eq_true] at h
    rw [se_plain h.1]
    have ih := se_any pos env es h.2
    show (false || (backTo pos (starEach es env)).any (·.1)) = false
    rw [ih]
    rfl
theorem pa_c {X : Cx} {e : Expr} {es : List Expr} {te : TE} {t : TA} (ha : PE X e te) (hr : PA X es t) (hp : plainE e = true := by rfl) : PA X (e :: es) (tCons te t) := pa_cons ha hr (se_plain hp es X.env)
theorem pe_cB {X : Cx} {x : Str} {p pos : Pos} {e : Expr} {es : List Expr} {t : TA} {id : String} {r : List V → Hp → VK → Prop} (hc : CallR X (.builtin id) r) (hg : Gl X x) (hm : X.mg x = none) (hv : bootBuiltins x = some (.builtin id)) (ha : PA X (e :: es) t) (hp : (e :: es).all plainE = true := by rfl) (hn : x ≠ "__name__" := by decide) (hdb : (x == ("__debug__" : Str)) = false := by decide) :
    PE X (.Call (.Name x p) (e :: es) [] pos) (tCB r t) := by
  rw [List.all_cons, Bool.and_eq_true] at hp
  exact pe_callB hc hg hm hv ha hn hdb (se_plain hp.1 es X.env) (se_any pos X.env es hp.2)
theorem pe_cT {X : Cx} {x : Str} {p pos : Pos} {e : Expr} {es : List Expr} {t : TA} {T : String} {r : List V → Hp → VK → Prop} (hc : CallR X (.type T) r) (hg : Gl X x) (hm : X.mg x = none) (hv : bootBuiltins x = some (.type T)) (ha : PA X (e :: es) t) (hp : (e :: es).all plainE = true := by rfl) (hn : x ≠ "__name__" := by decide) (hdb : (x == ("__debug__" : Str)) = false := by decide) :
    PE X (.Call (.Name x p) (e :: es) [] pos) (tCB r t) := by
  rw [List.all_cons, Bool.and_eq_true] at hp
  exact pe_callTy hc hg hm hv ha hn hdb (se_plain hp.1 es X.env) (se_any pos X.env es hp.2)
structure Fn (P : Program) (w : World) (K : PySem.W.Frag) (mg : Str → Option Value) (base : Heap) (k : Nat) (x : Str) (ps : List Str) (sp : Sp) : Prop where
  ex : ∃ f fd, FnOk P w K mg base CX0 k f fd ps sp ∧ Binds K fd ps [] ∧ PySem.W.keepIn K (.ref f) = true ∧ mg x = some (.ref f)
theorem pe_fn {X : Cx} {k k' : Nat} {x : Str} {ps : List Str} {sp : Sp} {e : Expr} {es : List Expr} {t : TA} {p pos : Pos} (F : Fn X.prog X.w X.K X.mg X.base k x ps sp) (hr : Room k' X.A) (ha : PA X (e :: es) t) (hk : k ≤ k' := by decide) (hg : Gl X x := by rfl)
    (hd : (x == ("__debug__" : Str)) = false := by decide) (hp : (e :: es).all plainE = true := by rfl) : PE X (.Call (.Name x p) (e :: es) [] pos) (tCall sp [] E0 t) := by
  obtain ⟨f, fd, G, b, kp, m⟩ := F.ex
  rw [List.all_cons, Bool.and_eq_true] at hp
  exact pe_call G (hr.mono hk) hg m kp b .nil pass0 ha hd (se_plain hp.1 es X.env) (se_any pos X.env es hp.2)
theorem Fn.mk' {P : Program} {w : World} {K : PySem.W.Frag} {mg : Str → Option Value} {base : Heap} {k : Nat} {x : Str} {ps : List Str} {sp : Sp} {st : Stmt} {f : Addr} {fd : FuncData} (F : Fun K x x st f fd) (b : Binds K fd ps []) (m : mg x = some (.ref f)) (G : FnOk P w K mg base CX0 k f fd ps sp) : Fn P w K mg base k x ps sp := ⟨f, fd, G, b, F.kp, m⟩
theorem comp_ok {X : Cx} {scope : Scope} {fr : List Nat} {sc : Scope} {N : List Str} (h1 : X.env.scope = sc) (h2 : X.N = N) (h : scope.kind = .function ∧ (∀ y ∈ scope.names, y.2 ≠ .cell) ∧ (∀ y ∈ scope.names, y.2 = .local → scope.names.lookup y.1 = some .local) ∧
    (∀ y ∈ scope.names, y.2 = .free → sc.names.lookup y.1 = some .cell ∨ sc.names.lookup y.1 = some .free) ∧ ∀ j ∈ fr, scope.names.lookup (N.getD j (Str.ofString "")) = some .free) : CompOk X scope fr := by
  obtain ⟨a, b, c, d, e⟩ := h
  exact ⟨a, b, c, by rw [h1]; exact d, by rw [h2]; exact e⟩
theorem bt_len : bootBuiltins "len" = some (.builtin "len") := by decide +kernel
theorem bt_max : bootBuiltins "max" = some (.builtin "max") := by decide +kernel
theorem bt_min : bootBuiltins "min" = some (.builtin "min") := by decide +kernel
theorem bt_all : bootBuiltins "all" = some (.builtin "all") := by decide +kernel
theorem bt_isinstance : bootBuiltins "isinstance" = some (.builtin "isinstance") := by decide +kernel
theorem bt_sorted : bootBuiltins "sorted" = some (.builtin "sorted") := by decide +kernel
theorem bt_int : bootBuiltins "int" = some (.type "int") := by decide +kernel
theorem bt_str : bootBuiltins "str" = some (.type "str") := by decide +kernel
theorem bt_bool : bootBuiltins "bool" = some (.type "bool") := by decide +kernel
theorem bt_tuple : bootBuiltins "tuple" = some (.type "tuple") := by decide +kernel
theorem bt_list : bootBuiltins "list" = some (.type "list") := by decide +kernel
theorem bt_set : bootBuiltins "set" = some (.type "set") := by decide +kernel
structure Free0 (mg : Str → Option Value) : Prop where
  len_ : mg "len" = none
  max_ : mg "max" = none
  min_ : mg "min" = none
  all_ : mg "all" = none
  isinstance_ : mg "isinstance" = none
  abs_ : mg "abs" = none
  sorted_ : mg "sorted" = none
  int_ : mg "int" = none
  str_ : mg "str" = none
  bool_ : mg "bool" = none
  tuple_ : mg "tuple" = none
  list_ : mg "list" = none
  dict_ : mg "dict" = none
  range_ : mg "range" = none
  set_ : mg "set" = none
theorem ix_tupK {X : Cx} {K : PySem.W.Frag} (h : X.K = K := by rfl) : IxR X (rIxT K) := by subst h; exact ix_tup
structure QS (X : Cx) (st : Stmt) (t : TS) : Prop where
  h : PS X st t
structure QSs (X : Cx) (st : List Stmt) (t : TS) : Prop where
  h : PSs X st t
theorem qs {X : Cx} {st : Stmt} {t : TS} (h : PS X st t) : QS X st t := ⟨h⟩
end L2
set_option Elab.async false
set_option linter.all false
set_option maxRecDepth 100000
namespace L2
open PySem PySem.Spec PyProof.Rows
theorem Same.sqT {K : PySem.W.Frag} {H H' : Hp} {a : Addr} {xs : List V} (e : Same H H') (h : SqT K H a xs) : SqT K H' a xs := by
  rcases h with (h | ⟨o, h⟩) | h
  · exact .inl (.inl (e _ _ h))
  · exact .inl (.inr ⟨o, e _ _ h⟩)
  · exact .inr h
theorem ints_are : ∀ {ns : List Int} {its : List Value}, Vals (ns.map V.int) its → IntsAre its ns
  | [], _, r => by cases r; exact .nil
  | n :: ns, _, r => by
    cases r with
    | cons h r =>
      obtain ⟨t, rfl⟩ := h
      exact .cons n t (ints_are r)
theorem op_add_list {X : Cx} : OpR X (binaryOp .Add) (fun x y H Q => ∃ a b xs ys, x = .ref a ∧ y = .ref b ∧ SqL X.K H a xs ∧ SqL X.K H b ys ∧ xs.length + ys.length ≤ sizeLine ∧ ∀ l, H l = none → Q (.ref l) (upd H l (.lst (xs ++ ys)))) := by
  intro pins s σ H x y v u Q I rx ry h
  obtain ⟨a, b, xs, ys, rfl, rfl, ha, hb, hz, q⟩ := h
  cases rx; cases ry
  obtain ⟨its, rv, ⟨⟨c1, d1, t1, l1⟩, n1, o1, z1, z2, z3⟩, hz1⟩ := I.list ha
  obtain ⟨its2, rv2, ⟨⟨c2, d2, t2, l2⟩, n2, o2, y1, y2, y3⟩, hz2⟩ := I.list hb
  simp only at z1 z2 z3 y1 y2 y3
  subst z1 z2 z3 y1 y2 y3
  have h1 := rv.length
  have h2 := rv2.length
  refine concat_meets ⟨_, o1, rfl⟩ ⟨_, o2, rfl⟩ noFill_list_add seq_list_add PySem.F.slot_list_add PySem.F.entry_list_add (PySem.F.args_list_add_2 _ _)
    (list_addW a b its.toArray its2.toArray n1 n2 none none l1 l2 (by simp only [List.size_toArray]; omega)) ⟨o1, o2, ?_⟩
  have e : its.toArray ++ its2.toArray = (its ++ its2).toArray := by simp
  rw [e]
  refine ⟨.ref s.heap.objs.size, _, I.laid (t' := s.toks) (fun b u hb => Heap.get?_push_of_some _ hb) (Nat.le_refl _) (show ObjOk X.prog X.w _ _ _ (.lst (xs ++ ys)) from ⟨?_, its ++ its2, 0, rv.append rv2, Heap.get?_push_size _ rfl⟩), rfl, q _ (I.hok.fresh (Nat.le_refl _))⟩
  rw [List.length_append]
  exact hz
def TextKeys (kvs : List (Key × V)) : Prop := ∀ k v, (k, v) ∈ kvs → ∃ x, k = Sum.inr x
end L2
set_option Elab.async false
set_option linter.all false
set_option maxRecDepth 100000
namespace L2
open PySem PySem.Spec PyProof.Rows PySem.W
def cmpF (n : Nat) (f : Nat → Int) : Nat → Nat → (Bool → Shared → Prop) → Shared → Prop := fun i j C s => i < n ∧ j < n ∧ C (decide (f i < f j)) s
def OkP (N : Nat) (p : Array Nat) : Prop := p.toList.Perm (List.range N)
theorem OkP.size {N : Nat} {p : Array Nat} (h : OkP N p) : p.size = N := by
  have := h.length_eq
  rw [List.length_range] at this
  simpa using this
theorem OkP.lt {N : Nat} {p : Array Nat} (h : OkP N p) {i : Nat} (hi : i < N) : p.getD i 0 < N := by
  have hs := h.size
  have e : p.getD i 0 = p[i]'(by omega) := by simp [Array.getD, hs, hi]
  rw [e]
  exact List.mem_range.mp (h.mem_iff.mp (Array.getElem_mem_toList (by omega)))
theorem OkP.inj {N : Nat} {p : Array Nat} (h : OkP N p) {i j : Nat} (hi : i < N) (hj : j < N) (e : p.getD i 0 = p.getD j 0) : i = j := by
  have hs := h.size
  have nd : p.toList.Nodup := (h.nodup_iff).mpr List.nodup_range
  have e1 : p.getD i 0 = p.toList[i]'(by simp [hs, hi]) := by simp [Array.getD, hs, hi]
  have e2 : p.getD j 0 = p.toList[j]'(by simp [hs, hj]) := by simp [Array.getD, hs, hj]
  rw [e1, e2] at e
  have pw := List.pairwise_iff_getElem.mp nd
  rcases Nat.lt_trichotomy i j with h | h | h
  · exact absurd e (pw i j _ _ h)
  · exact h
  · exact absurd e.symm (pw j i _ _ h)
theorem OkP.start (N : Nat) : OkP N (List.toArray (List.range N)) := List.Perm.refl _
theorem OkP.of {N : Nat} {p q : Array Nat} (h : OkP N p) (e : q.Perm p) : OkP N q := (Array.perm_iff_toList_perm.mp e).trans h
section
variable {N : Nat} {f : Nat → Int} {p : Array Nat} {s : Shared}
def gk (f : Nat → Int) (p : Array Nat) (i : Nat) : Int := f (p.getD i 0)
def Asc (f : Nat → Int) (p : Array Nat) (n : Nat) : Prop := ∀ i j, i < j → j < n → gk f p i < gk f p j
def Desc (f : Nat → Int) (p : Array Nat) (n : Nat) : Prop := ∀ i j, i < j → j < n → gk f p j < gk f p i
def Inj (N : Nat) (f : Nat → Int) : Prop := ∀ i j, i < N → j < N → f i = f j → i = j
theorem Asc.grow {n : Nat} (h : Asc f p n) (h1 : 1 ≤ n) (e : gk f p (n - 1) < gk f p n) : Asc f p (n + 1) := fun i j hij hj => by
  rcases Nat.lt_or_ge j n with hj' | hj'
  · exact h i j hij hj'
  · have : j = n := by omega
    subst this
    rcases Nat.lt_or_ge i (j - 1) with hi | hi
    · exact Int.lt_trans (h i (j - 1) hi (by omega)) e
    · have : i = j - 1 := by omega
      subst this
      exact e
theorem Desc.grow {n : Nat} (h : Desc f p n) (h1 : 1 ≤ n) (e : gk f p n < gk f p (n - 1)) : Desc f p (n + 1) := fun i j hij hj => by
  rcases Nat.lt_or_ge j n with hj' | hj'
  · exact h i j hij hj'
  · have : j = n := by omega
    subst this
    rcases Nat.lt_or_ge i (j - 1) with hi | hi
    · exact Int.lt_trans e (h i (j - 1) hi (by omega))
    · have : i = j - 1 := by omega
      subst this
      exact e
end
end L2
set_option Elab.async false
set_option linter.all false
set_option maxRecDepth 100000
namespace L2
open PySem PySem.Spec PyProof.Rows PySem.W
def PairAt (h : Heap) (v : Value) (q : Int × Int) : Prop := ∃ (c : Addr) (o : Obj) (t u : Tok) (k : Nat), v = .ref c ∧ h.get? c = some o ∧ o.cls = .type "tuple" ∧ o.data = .seq #[.int q.1 t, .int q.2 u] k
theorem PairAt.kept {h h' : Heap} {v : Value} {q : Int × Int} (x : PairAt h v q) (k : ∀ b o, h.get? b = some o → o.cls = .type "tuple" → h'.get? b = some o) : PairAt h' v q := by
  obtain ⟨c, o, t, u, n, e1, e2, e3, e4⟩ := x
  exact ⟨c, o, t, u, n, e1, k c o e2 e3, e3, e4⟩
section
variable {prog : Program} {w : World} {A : Around} {E : Value → Shared → Prop} {s : Shared}
theorem ask_pairs {vs : List Value} {ps : List (Int × Int)} (hl : vs.length = ps.length) (hv : ∀ i (h : i < ps.length), PairAt s.heap (vs.getD i Value.none) ps[i]) (nd : (ps.map (·.1)).Nodup) {i j : Nat} {C : Bool → Shared → Prop} (hi : i < ps.length) (hj : j < ps.length)
    (h : C (decide ((ps.getD i (0, 0)).1 < (ps.getD j (0, 0)).1)) s) : kas_ask prog w A (tuples' true) vs i j C s := by
  unfold kas_ask
  obtain ⟨c, o, t, u, n, e1, e2, e3, e4⟩ := hv i hi
  obtain ⟨c', o', t', u', n', f1, f2, f3, f4⟩ := hv j hj
  rw [e1, f1]
  have gi : ps.getD i (0, 0) = ps[i] := by simp [hi]
  have gj : ps.getD j (0, 0) = ps[j] := by simp [hj]
  rw [gi, gj] at h
  refine kat_lt e2 e4 f2 f4 ?_
  refine kat_cons (wpAny_eqBool_int ?_)
  by_cases hij : i = j
  · subst hij
    rw [beq_self_eq_true]
    refine kat_yes (kat_cons (wpAny_eqBool_int ?_))
    rw [beq_self_eq_true]
    refine kat_yes (kat_nil ?_)
    rw [decide_eq_false (Int.lt_irrefl _)] at h
    exact h
  · have ne : ps[i].1 ≠ ps[j].1 := by
      have pw := List.pairwise_iff_getElem.mp nd
      rcases Nat.lt_or_ge i j with z | z
      · have := pw i j (by simpa using hi) (by simpa using hj) z
        simpa using this
      · have := pw j i (by simpa using hj) (by simpa using hi) (by omega)
        intro e
        exact this (by simpa using e.symm)
    rw [beq_eq_false_iff_ne.mpr ne]
    exact kat_no (oneLt_int h)
theorem pairs_tups {h : Heap} : ∀ {vs : List Value} {ps : List (Int × Int)}, vs.length = ps.length → (∀ i (hi : i < ps.length), PairAt h (vs.getD i Value.none) ps[i]) → ∃ fs, KatTups h vs fs ∧ fs.length = ps.length ∧ ∀ v ∈ fs, ∃ x t, v = Value.int x t
  | [], [], _, _ => ⟨[], KatTups.nil, rfl, fun v h => absurd h (by simp)⟩
  | v :: vs, q :: ps, hl, hv => by
    obtain ⟨fs, h1, h2, h3⟩ := pairs_tups (vs := vs) (ps := ps) (by simpa using hl) fun i hi => by
      have := hv (i + 1) (by simpa using hi)
      simpa using this
    obtain ⟨c, o, t, u, n, e1, e2, e3, e4⟩ := hv 0 (by simp)
    have e1' : v = .ref c := by simpa using e1
    subst e1'
    refine ⟨.int q.1 t :: fs, KatTups.cons e2 e3 e4 (by simp) h1, by simp [h2], fun v hv => ?_⟩
    rcases List.mem_cons.mp hv with rfl | hv
    · exact ⟨_, _, rfl⟩
    · exact h3 v hv
  | [], _ :: _, hl, _ => by simp at hl
  | _ :: _, [], hl, _ => by simp at hl
end
def PairsL (K : PySem.W.Frag) (H : Hp) (qs : List V) (ps : List (Int × Int)) : Prop := qs.length = ps.length ∧ ∀ i (h : i < ps.length), ∃ c, qs[i]? = some (.ref c) ∧ SqT K H c [.int ps[i].1, .int ps[i].2]
theorem PairsL.mono {K : PySem.W.Frag} {H H' : Hp} {qs : List V} {ps : List (Int × Int)} (e : Same H H') (h : PairsL K H qs ps) : PairsL K H' qs ps := ⟨h.1, fun i hi => by
  obtain ⟨c, e1, e2⟩ := h.2 i hi
  exact ⟨c, e1, e.sqT e2⟩⟩
end L2
set_option Elab.async false
set_option linter.all false
set_option maxRecDepth 100000
set_option maxHeartbeats 1000000
namespace PySem
open Sem (wp)
namespace F
end F
section
variable {prog : Program} {w : World} {A : Around} {E : Value → Shared → Prop} {h : Heap} {g : Array GenState} {d : Drawn} {t : Nat} {os : OsState} {a : Addr} {its : Array Value} {n : Nat} {sl : Array (Option Value)}
end
end PySem
namespace L2
open PySem PySem.Spec PyProof.Rows PySem.W
section
variable {prog : Program} {w : World} {A : Around} {E : Value → Shared → Prop} {R : Result → Shared → Prop}
end
end L2
set_option Elab.async false
set_option linter.all false
set_option maxRecDepth 100000
namespace L2
open PySem PySem.Spec PyProof.Rows PySem.W
theorem Inv.more {X : Cx} {pins : List (Addr × Obj)} {σ : St} {H H' : Hp} {s : Shared} {h' : Heap} {t' : Nat} (I : Inv X pins σ H s) (k : ∀ b u, s.heap.get? b = some u → h'.get? b = some u) (same : Same H H')
    (new : ∀ b o, H b = none → H' b = some o → s.heap.objs.size ≤ b ∧ ObjOk X.prog X.w H' h' b o) : Inv X pins σ H' { s with heap := h', toks := t' } := by
  refine I.un ⟨fun b u q _ _ _ => k b u q, fun b u q _ _ _ => ⟨u.slots, k b u q⟩, fun b u q n _ => ?_, fun b u q _ => ⟨u, k b u q⟩, fun b xs q => same _ _ q, fun b u xs q => same _ _ q, fun b ps q => ⟨#[], by rw [same _ _ q]; simp⟩⟩ fun b o e => ?_
  · cases e : H' b with
    | none => rfl
    | some o => exact absurd (Heap.lt_size q) (Nat.not_lt.mpr (new b o n e).1)
  · cases q : H b with
    | none => exact (new b o q e).2
    | some u =>
      have := same _ _ q
      rw [e] at this
      cases this
      exact (I.hok b o q).stay (fun c v _ q => k c v q) (fun c q => same _ _ q) fun c xs q => same _ _ q
abbrev viewOf (v d : Addr) : HO := .ext fun h => h.IsItemsView v d
abbrev pKV (ps : List (Int × Int)) : List (Key × V) := ps.map fun q => ((Sum.inl q.1 : Key), V.int q.2)
def pD (q : Int × Int) : D := .tup [.int q.1, .int q.2]
theorem pD_inv {H : Hp} {q : Int × Int} {v : V} (h : Held H (pD q) v) : ∃ c, v = .ref c ∧ H c = some (.tup [.int q.1, .int q.2]) := by
  unfold pD Held at h
  obtain ⟨a, xs, rfl, ha, h1⟩ := h
  unfold HeldL at h1
  obtain ⟨v1, r1, rfl, e1, h2⟩ := h1
  unfold HeldL at h2
  obtain ⟨v2, r2, rfl, e2, h3⟩ := h2
  unfold HeldL at h3
  unfold Held at e1 e2
  subst h3 e1 e2
  exact ⟨a, rfl, ha⟩
def itemsH (H : Hp) (l : Addr) (as : List Addr) (ps : List (Int × Int)) : Hp := fun b => if b = l then some (.lst (as.map V.ref)) else match as.findIdx? (fun a => decide (a = b)) with
  | some j => some (.tup [.int (ps.getD j (0, 0)).1, .int (ps.getD j (0, 0)).2])
  | none => H b
def rngV (lo : Int) (n : Nat) : List V := (List.range n).map fun (k : Nat) => V.int (lo + (k : Int))
theorem ints_map : ∀ (vs : List Value), (∀ v ∈ vs, ∃ x t, v = .int x t) → ∃ ns, IntsAre vs ns
  | [], _ => ⟨[], .nil⟩
  | v :: vs, h => by
    obtain ⟨x, t, rfl⟩ := h v List.mem_cons_self
    obtain ⟨ns, hn⟩ := ints_map vs fun u hu => h u (List.mem_cons_of_mem _ hu)
    exact ⟨x :: ns, .cons x t hn⟩
end L2
set_option Elab.async false
set_option linter.all false
set_option maxRecDepth 100000
namespace L2
open PySem PySem.Spec PyProof.Rows PySem.W
abbrev Up (xs : Array Nat) : Prop := xs.toList.Pairwise (· < ·)
structure TabOk (led : Bool) (t : SetTable) : Prop where
  led_ : t.led = led
  none_ : t.dummies = #[]
  up : Up t.place
theorem up_lt {xs : Array Nat} (h : Up xs) {i j : Nat} (hij : i < j) (hj : j < xs.size) : xs.getD i 0 < xs.getD j 0 := by
  have hi : i < xs.size := by omega
  have := List.pairwise_iff_getElem.mp h i j (by simpa using hi) (by simpa using hj) hij
  simpa [Array.getD, hi, hj] using this
theorem below_go {xs : Array Nat} (h : Up xs) (j : Nat) : ∀ (f lo hi : Nat), lo ≤ hi → hi ≤ xs.size → hi ≤ lo + f → (∀ i, i < lo → xs.getD i 0 < j) → (∀ i, hi ≤ i → i < xs.size → j ≤ xs.getD i 0) →
    (SetTable.below.go xs j f lo hi) ≤ xs.size ∧ (∀ i, i < SetTable.below.go xs j f lo hi → xs.getD i 0 < j) ∧ ∀ i, SetTable.below.go xs j f lo hi ≤ i → i < xs.size → j ≤ xs.getD i 0
  | 0, lo, hi, h1, h2, h3, a, b => by
    unfold SetTable.below.go
    exact ⟨by omega, a, fun i hi' => b i (by omega)⟩
  | f + 1, lo, hi, h1, h2, h3, a, b => by
    unfold SetTable.below.go
    by_cases e : lo < hi
    · rw [if_pos e]
      dsimp only
      have hm : (lo + hi) / 2 < xs.size := by omega
      have eg : xs.getD ((lo + hi) / 2) j = xs.getD ((lo + hi) / 2) 0 := by simp [Array.getD, hm]
      rw [eg]
      by_cases c : xs.getD ((lo + hi) / 2) 0 < j
      · rw [if_pos c]
        refine below_go h j f ((lo + hi) / 2 + 1) hi (by omega) h2 (by omega) (fun i hi' => ?_) b
        rcases Nat.lt_or_ge i ((lo + hi) / 2) with z | z
        · exact Nat.lt_trans (up_lt h z hm) c
        · have : i = (lo + hi) / 2 := by omega
          subst this
          exact c
      · rw [if_neg c]
        refine below_go h j f lo ((lo + hi) / 2) (by omega) (by omega) (by omega) a fun i hi' hs => ?_
        rcases Nat.lt_or_ge ((lo + hi) / 2) i with z | z
        · exact Nat.le_trans (Nat.le_of_not_lt c) (Nat.le_of_lt (up_lt h z hs))
        · have : i = (lo + hi) / 2 := by omega
          subst this
          exact Nat.le_of_not_lt c
    · rw [if_neg e]
      exact ⟨by omega, a, fun i hi' => b i (by omega)⟩
theorem below_ok {xs : Array Nat} (h : Up xs) (j : Nat) : SetTable.below xs j ≤ xs.size ∧ (∀ i, i < SetTable.below xs j → xs.getD i 0 < j) ∧ ∀ i, SetTable.below xs j ≤ i → i < xs.size → j ≤ xs.getD i 0 :=
  below_go h j xs.size 0 xs.size (Nat.zero_le _) (Nat.le_refl _) (by omega) (fun i h => by omega) fun i h1 h2 => by omega
theorem getD_lt {xs : Array Nat} {i : Nat} (h : i < xs.size) : xs[i]? = some (xs.getD i 0) := by simp [Array.getD, h]
theorem insert_up {xs : Array Nat} (h : Up xs) {j : Nat} (hj : xs[SetTable.below xs j]? ≠ some j) : Up (SetTable.insertAt xs (SetTable.below xs j) j) := by
  obtain ⟨b1, b2, b3⟩ := below_ok h j
  unfold Up
  rw [SetTable.toList_insertAt]
  have hd : ∀ x ∈ xs.toList.drop (SetTable.below xs j), j < x := fun x hx => by
    obtain ⟨i, hi, rfl⟩ := List.mem_iff_getElem.mp hx
    rw [List.length_drop] at hi
    rw [List.getElem_drop]
    have hs : SetTable.below xs j + i < xs.size := by simpa using (by omega : SetTable.below xs j + i < xs.toList.length)
    have e : xs.toList[SetTable.below xs j + i]'(by simpa using hs) = xs.getD (SetTable.below xs j + i) 0 := by simp [Array.getD, hs]
    rw [e]
    have ge := b3 (SetTable.below xs j + i) (by omega) hs
    rcases Nat.lt_or_ge j (xs.getD (SetTable.below xs j + i) 0) with z | z
    · exact z
    · have eq : xs.getD (SetTable.below xs j + i) 0 = j := by omega
      rcases Nat.eq_zero_or_pos i with rfl | hp
      · exact absurd (by rw [Nat.add_zero] at eq hs; rw [getD_lt hs, eq]) hj
      · have := up_lt h (i := SetTable.below xs j) (j := SetTable.below xs j + i) (by omega) hs
        have := b3 (SetTable.below xs j) (Nat.le_refl _) (by omega)
        omega
  have ht : ∀ x ∈ xs.toList.take (SetTable.below xs j), x < j := fun x hx => by
    obtain ⟨i, hi, rfl⟩ := List.mem_iff_getElem.mp hx
    rw [List.length_take] at hi
    rw [List.getElem_take]
    have hs : i < xs.size := by simpa using (by omega : i < xs.toList.length)
    have e : xs.toList[i]'(by simpa using hs) = xs.getD i 0 := by simp [Array.getD, hs]
    rw [e]
    exact b2 i (by omega)
  refine List.pairwise_append.mpr ⟨h.sublist (List.take_sublist _ _), List.pairwise_cons.mpr ⟨hd, h.sublist (List.drop_sublist _ _)⟩, fun x hx y hy => ?_⟩
  rcases List.mem_cons.mp hy with rfl | hy
  · exact ht x hx
  · exact Nat.lt_trans (ht x hx) (hd y hy)
theorem probe_go {led : Bool} {t : SetTable} (h : TabOk led t) {hashAt : Nat → Int} {hh : Int} (hne : ∀ i, (hashAt i == hh) = false) : ∀ (f : Nat) (p : SetTable.Probe) (m : SetTable.Met), p.dummy = none → SetTable.probe.go t hashAt hh f p = some m → ∃ j, m = .empty j none ∧ t.slot j = .empty
  | 0, p, m, _, e => by
    unfold SetTable.probe.go at e
    cases e
  | f + 1, p, m, hd, e => by
    unfold SetTable.probe.go at e
    cases hs : t.slot p.j with
    | empty =>
      rw [hs] at e
      cases e
      exact ⟨p.j, by rw [hd], hs⟩
    | dummy =>
      exfalso
      unfold SetTable.slot at hs
      dsimp only at hs
      rw [h.none_] at hs
      split at hs
      · cases hs
      · simp [SetTable.has] at hs
    | live i =>
      rw [hs] at e
      dsimp only at e
      rw [hne i] at e
      rw [if_neg Bool.false_ne_true] at e
      refine probe_go h hne f _ m ?_ e
      unfold SetTable.advance
      split
      · exact hd
      · exact hd
theorem free_ok {led : Bool} {t : SetTable} (h : TabOk led t) {hh : Int} {j : Nat} {d : Bool} (e : t.freeSlot hh = some (j, d)) : t.place[SetTable.below t.place j]? ≠ some j := by
  unfold SetTable.freeSlot at e
  cases hp : t.probe (fun _ => hh + 1) hh (t.probeStart hh) with
  | none => rw [hp] at e; cases e
  | some m =>
    obtain ⟨j', rfl, hs⟩ := probe_go h (fun _ => beq_eq_false_iff_ne.mpr (by omega)) _ _ m rfl (show SetTable.probe.go t (fun _ => hh + 1) hh _ _ = some m from hp)
    rw [hp] at e
    cases e
    unfold SetTable.slot at hs
    dsimp only at hs
    intro z
    split at hs
    · cases hs
    · next c =>
      refine c ?_
      have z' : t.place[SetTable.below t.place j']? = some j' := z
      rw [z']
      simp
theorem up_range (n : Nat) : Up (Array.range n) := by
  unfold Up
  rw [Array.toList_range]
  exact List.pairwise_lt_range
theorem stand_ok {led : Bool} {t : SetTable} (h : t.led = led) (n : Nat) : TabOk led (t.standIn n) := ⟨h, rfl, up_range n⟩
theorem put_ok {led : Bool} {t : SetTable} (h : TabOk led t) {j : Nat} (hj : t.place[SetTable.below t.place j]? ≠ some j) : TabOk led (t.put j).1 := by
  refine ⟨h.led_, ?_, insert_up h.up hj⟩
  unfold SetTable.put
  dsimp only
  rw [h.none_]
  split
  · simp [SetTable.eraseAt]
  · rfl
theorem layNew_ok {led : Bool} {t : SetTable} (h : TabOk led t) (es : Array (Int × Value)) (hh : Int) (x : Value) : TabOk led (layNew t es hh x).2.1 := by
  unfold layNew
  split
  · next slot d e =>
    dsimp only
    unfold SetTable.orStandIn
    split
    · exact put_ok h (free_ok h e)
    · exact stand_ok (put_ok h (free_ok h e)).led_ _
  · exact stand_ok h.led_ _
theorem laid_ok {mask finger moves : Nat} {led plain : Bool} {hashes : Array Int} {t : SetTable} {o : Array Nat} (h : SetTable.laid mask finger moves led plain hashes = some (t, o)) : TabOk led t := by
  unfold SetTable.laid at h
  cases hl : SetTable.layClean mask hashes with
  | none => rw [hl] at h; cases h
  | some owner =>
    rw [hl] at h
    cases h
    refine ⟨rfl, rfl, ?_⟩
    unfold Up
    dsimp only
    have key : ∀ l : List Nat, (l.filterMap fun j => (owner.getD j none).map (fun k => (j, k))).map (·.1) = l.filter fun j => (owner.getD j none).isSome := by
      intro l
      induction l with
      | nil => rfl
      | cons a l ih =>
        rw [List.filterMap_cons, List.filter_cons]
        cases owner.getD a none with
        | none => simpa using ih
        | some k =>
          show a :: List.map _ _ = _
          rw [ih]
          rfl
    show List.Pairwise _ (List.map _ _)
    rw [key]
    exact List.pairwise_lt_range.sublist List.filter_sublist
theorem relay_ok {led : Bool} {t : SetTable} (h : TabOk led t) (es : Array (Int × Value)) (n : Nat) : TabOk led (relayAll t es n).2.1 := by
  unfold relayAll
  split
  · next t' o e =>
    dsimp only
    split
    · have := laid_ok (show SetTable.laid _ _ _ _ _ _ = some (t', o) from e)
      rw [h.led_] at this
      exact this
    · exact stand_ok h.led_ _
  · exact stand_ok h.led_ _
theorem plain_off {led : Bool} {t : SetTable} (h : TabOk led t) : TabOk led { t with plain := false } := ⟨h.led_, h.none_, h.up⟩
end L2
set_option Elab.async false
set_option linter.all false
set_option maxRecDepth 100000
namespace L2
open PySem PySem.Spec PyProof.Rows PySem.W
def SetAt (prog : Program) (w : World) (h : Heap) (a : Addr) (led : Bool) (σ : List Int) : Prop := ∃ (es : Array (Int × Value)) (ep : Nat) (t : SetTable),
  h.get? a = some { cls := .type "set", dict := none, data := .set es ep t } ∧ ElemsOf (intKind prog w) es.toList ∧ (∃ l : List Int, IntsAre (es.toList.map (·.2)) l ∧ l.Perm σ) ∧ es.size < scanBound ∧ t.fits es.size = true ∧ TabOk led t
theorem SetAt.kept {prog : Program} {w : World} {h h' : Heap} {a : Addr} {led : Bool} {σ : List Int} (x : SetAt prog w h a led σ) (k : ∀ o, h.get? a = some o → h'.get? a = some o) : SetAt prog w h' a led σ := by
  obtain ⟨es, ep, t, e, r⟩ := x
  exact ⟨es, ep, t, k _ e, r⟩
theorem ints_mem {vs : List Value} {l : List Int} (h : IntsAre vs l) {v : Int} : v ∈ l ↔ ∃ t, Value.int v t ∈ vs := by
  induction h with
  | nil => simp
  | cons n t h ih =>
    constructor
    · intro hv
      rcases List.mem_cons.mp hv with rfl | hv
      · exact ⟨t, List.mem_cons_self⟩
      · obtain ⟨t', ht⟩ := ih.mp hv
        exact ⟨t', List.mem_cons_of_mem _ ht⟩
    · rintro ⟨t', ht⟩
      rcases List.mem_cons.mp ht with e | ht
      · cases e
        exact List.mem_cons_self
      · exact List.mem_cons_of_mem _ (ih.mpr ⟨t', ht⟩)
theorem ints_snoc : ∀ {vs : List Value} {l : List Int} {v : Int} {t : Tok}, IntsAre vs l → IntsAre (vs ++ [.int v t]) (l ++ [v])
  | _, _, v, t, .nil => .cons v t .nil
  | _, _, v, t, .cons n t' h => .cons n t' (ints_snoc h)
theorem ints_perm {vs vs' : List Value} {l : List Int} (h : IntsAre vs l) (p : vs'.Perm vs) : ∃ l', IntsAre vs' l' ∧ l'.Perm l := by
  obtain ⟨l', h'⟩ := ints_map vs' fun v hv => by
    have := p.mem_iff.mp hv
    obtain ⟨x, t, e⟩ := h.all v this
    exact ⟨x, t, e⟩
  refine ⟨l', h', ?_⟩
  have e1 := h.nums
  have e2 := h'.nums
  rw [← e1, ← e2]
  exact p.map _
section
variable {prog : Program} {w : World} {A : Around} {E : Value → Shared → Prop} {s : Shared}
theorem scan_mem {es : Array (Int × Value)} {l : List Int} (hI : IntsAre (es.toList.map (·.2)) l) {v : Int} : (∃ j, List.findIdx? (fun e => (intKind prog w).is v e.2) es.toList = some j) ↔ v ∈ l := by
  rw [ints_mem hI]
  constructor
  · rintro ⟨j, hj⟩
    obtain ⟨hlt, h1, _⟩ := List.findIdx?_eq_some_iff_getElem.mp hj
    obtain ⟨x, t, e⟩ := hI.all es.toList[j].2 (List.mem_map.mpr ⟨_, List.getElem_mem hlt, rfl⟩)
    have : v = x := by
      rw [e] at h1
      exact (intKind prog w).inj _ _ _ h1 (intKind_is _ _ _ _)
    subst this
    exact ⟨t, List.mem_map.mpr ⟨_, List.getElem_mem hlt, e⟩⟩
  · rintro ⟨t, ht⟩
    obtain ⟨e, he, e2⟩ := List.mem_map.mp ht
    cases hf : List.findIdx? (fun e => (intKind prog w).is v e.2) es.toList with
    | some j => exact ⟨j, rfl⟩
    | none =>
      have := List.findIdx?_eq_none_iff.mp hf e he
      rw [e2, intKind_is] at this
      cases this
theorem set_store {a : Addr} {led : Bool} {σ : List Int} {es es' : Array (Int × Value)} {ep : Nat} {t t' : SetTable} {h : Heap} (ho : h.get? a = some { cls := .type "set", dict := none, data := .set es ep t })
    (hel : ElemsOf (intKind prog w) es'.toList) (hl : ∃ l : List Int, IntsAre (es'.toList.map (·.2)) l ∧ l.Perm σ) (hb : es'.size < scanBound) (hf : t'.fits es'.size = true) (ht : TabOk led t') :
    (h.update a (Obj.putSet es' t')).get? a = some { cls := .type "set", dict := none, data := .set es' (ep + 1) t' } ∧ SetAt prog w (h.update a (Obj.putSet es' t')) a led σ := by
  have hg : (h.update a (Obj.putSet es' t')).get? a = some { cls := .type "set", dict := none, data := .set es' (ep + 1) t' } := by
    have := Heap.get?_update_self (Obj.putSet es' t') ho (by rw [putSet_of es' t' rfl]; rfl)
    rw [putSet_of es' t' rfl] at this
    exact this
  exact ⟨hg, es', ep + 1, t', hg, hel, hl, hb, hf, ht⟩
theorem set_add {a : Addr} {led : Bool} {σ : List Int} {v : Int} {tk : Tok} {Q : Bool → Shared → Prop} (hS : SetAt prog w s.heap a led σ) (hroom : σ.length + 1 < scanBound)
    (h : ∀ b h', Heap.SameBut a s.heap h' → SetAt prog w h' a led (if v ∈ σ then σ else σ ++ [v]) → Q b { s with heap := h' }) : wpAny (model prog w) A (setAddHashed a (.int v tk) ((intKind prog w).hash v)) Q E s := by
  obtain ⟨es, ep, t, ho, hel, ⟨l, hI, hp⟩, hb, hf, ht⟩ := hS
  have hsz : es.size = σ.length := by
    have h1 := hI.length
    have h2 := hp.length_eq
    rw [List.length_map, Array.length_toList] at h1
    omega
  unfold setAddHashed setAddHashedIn
  refine wpAny_holding (wpAny_bind (wpAny_setState_of ho rfl hf ?_))
  dsimp only
  rw [byScan_of (knd := intKind prog w) rfl hb hel]
  simp only [↓reduceIte]
  unfold setAddByScan
  refine wpAny_bind (wpAny_bind (wpAny_rule (wpAny_bind (wpAny_setScan_of (knd := intKind prog w) (intKind_is _ _ _ _) ho rfl hf hel ?_))))
  cases hr : List.findIdx? (fun e => (intKind prog w).is v e.2) es.toList with
  | some j =>
    have hv : v ∈ σ := hp.mem_iff.mp ((scan_mem hI).mp ⟨j, hr⟩)
    dsimp only
    refine wpAny_pure (wpAny_pure ?_)
    have := h false s.heap (Heap.SameBut.refl a s.heap) (by rw [if_pos hv]; exact ⟨es, ep, t, ho, hel, ⟨l, hI, hp⟩, hb, hf, ht⟩)
    exact this
  | none =>
    have hv : ¬ v ∈ σ := fun z => by
      obtain ⟨j, hj⟩ := (scan_mem (prog := prog) (w := w) hI).mpr (hp.mem_iff.mpr z)
      rw [hr] at hj
      cases hj
    rw [if_neg hv] at h
    dsimp only
    have gw : ∀ (b : Bool) {s₁ : Shared} {Q' : Unit → Shared → Prop}, Q' () s₁ → wpAny (model prog w) A (match b with | true => rule "set.scan.the-table-gave-way" | false => pure ()) Q' E s₁ := fun b s₁ Q' hq => by
      cases b
      · exact wpAny_pure hq
      · exact wpAny_rule hq
    have p1 := layNew_perm t es ((intKind prog w).hash v) (.int v tk)
    have f1 := layNew_fits t es ((intKind prog w).hash v) (.int v tk)
    have k1 := layNew_ok ht es ((intKind prog w).hash v) (.int v tk)
    generalize layNew t es ((intKind prog w).hash v) (.int v tk) = L at p1 f1 k1 ⊢
    obtain ⟨es1, t1, wd, gv⟩ := L
    dsimp only at p1 f1 k1 ⊢
    rw [Array.toList_push] at p1
    have hel1 : ElemsOf (intKind prog w) es1.toList := (hel.push (intKind_is _ _ _ _) rfl).perm p1
    have hI1 : ∃ l : List Int, IntsAre (es1.toList.map (·.2)) l ∧ l.Perm (σ ++ [v]) := by
      have pm := p1.map (·.2)
      rw [List.map_append] at pm
      obtain ⟨l', i1, i2⟩ := ints_perm (ints_snoc (t := tk) hI) pm
      exact ⟨l', i1, i2.trans (hp.append_right _)⟩
    have hs1 : es1.size = es.size + 1 := by
      have := p1.length_eq
      rw [List.length_append, Array.length_toList, Array.length_toList] at this
      simpa using this
    have hb1 : es1.size < scanBound := by omega
    refine wpAny_bind (gw _ ?_)
    have fin : ∀ t2 : SetTable, t2.fits es1.size = true → TabOk led t2 → wpAny (model prog w) A (do
        storeSet a es1 t2
        if (!wd && t2.tooFull) = true then do
            (match (relayAll t2 es1 (SetTable.grown es1.size)).2.2 with | true => rule "set.scan.the-table-gave-way" | false => pure () : Sem Unit)
            storeSet a (relayAll t2 es1 (SetTable.grown es1.size)).1 (relayAll t2 es1 (SetTable.grown es1.size)).2.1
            pure (some true)
          else pure (some true)) (fun a_1 s' => wpAny (model prog w) A (match a_1 with | some added => pure added | none => setAddHashedIn a (.int v tk) ((intKind prog w).hash v) 99999) Q E s') E s := by
      intro t2 f2 k2
      refine wpAny_bind (wpAny_storeSet_of ho rfl ?_ (fits_of_scanBound hb1))
      obtain ⟨ho1, hS1⟩ := set_store (prog := prog) (w := w) (σ := σ ++ [v]) ho hel1 hI1 hb1 f2 k2
      have sb1 := Heap.SameBut.update s.heap a (Obj.putSet es1 t2)
      split
      · have p2 := relayAll_perm t2 es1 (SetTable.grown es1.size)
        have f3 := relayAll_fits t2 es1 (SetTable.grown es1.size)
        have k3 := relay_ok k2 es1 (SetTable.grown es1.size)
        generalize relayAll t2 es1 (SetTable.grown es1.size) = L at p2 f3 k3 ⊢
        obtain ⟨es2, t3, gv2⟩ := L
        dsimp only at p2 f3 k3 ⊢
        have hs2 : es2.size = es1.size := by rw [← Array.length_toList, p2.length_eq, Array.length_toList]
        have hI2 : ∃ l : List Int, IntsAre (es2.toList.map (·.2)) l ∧ l.Perm (σ ++ [v]) := by
          obtain ⟨l1, i1, i2⟩ := hI1
          obtain ⟨l', j1, j2⟩ := ints_perm i1 (p2.map (·.2))
          exact ⟨l', j1, j2.trans i2⟩
        refine wpAny_bind (gw _ (wpAny_bind (wpAny_storeSet_of ho1 rfl ?_ (fits_of_scanBound (by omega)))))
        obtain ⟨_, hS2⟩ := set_store (prog := prog) (w := w) (σ := σ ++ [v]) ho1 (hel1.perm p2) hI2 (by omega) f3 k3
        exact wpAny_pure (wpAny_pure (h true _ (sb1.trans (Heap.SameBut.update _ a _)) hS2))
      · exact wpAny_pure (wpAny_pure (h true _ sb1 hS1))
    split
    · refine wpAny_bind ?_
      rw [hashByValue_scannable 8 rfl]
      refine wpAny_pure ?_
      refine fin _ ?_ ?_
      · split
        · exact f1
        · exact SetTable.fits_plain_off f1
      · split
        · exact k1
        · exact plain_off k1
    · refine wpAny_bind (wpAny_pure ?_)
      simp only [↓reduceIte]
      exact fin _ f1 k1
end
end L2
set_option Elab.async false
set_option linter.all false
set_option maxRecDepth 100000
namespace L2
open PySem PySem.Spec PyProof.Rows PySem.W
abbrev ledOf (w : World) : Bool := !(w.params.followText "set-order")
def dedup (ns : List Int) : List Int := ns.foldl (fun σ v => if v ∈ σ then σ else σ ++ [v]) []
theorem dedup_snoc (ns : List Int) (v : Int) : dedup (ns ++ [v]) = if v ∈ dedup ns then dedup ns else dedup ns ++ [v] := by unfold dedup; rw [List.foldl_append]; rfl
theorem dedup_ok (ns : List Int) : (dedup ns).Nodup ∧ (dedup ns).length ≤ ns.length ∧ ∀ x, x ∈ dedup ns ↔ x ∈ ns := by
  have key : ∀ (l : List Int), (dedup l.reverse).Nodup ∧ (dedup l.reverse).length ≤ l.reverse.length ∧ ∀ x, x ∈ dedup l.reverse ↔ x ∈ l.reverse := by
    intro l
    induction l with
    | nil => exact ⟨List.nodup_nil, Nat.le_refl _, fun x => Iff.rfl⟩
    | cons v l ih =>
      rw [List.reverse_cons, dedup_snoc]
      obtain ⟨h1, h2, h3⟩ := ih
      split
      · next h =>
        refine ⟨h1, by rw [List.length_append]; omega, fun x => ?_⟩
        rw [List.mem_append, h3]
        constructor
        · exact .inl
        · rintro (z | z)
          · exact z
          · rw [List.mem_singleton.mp z]
            exact (h3 v).mp h
      · next h =>
        refine ⟨?_, by rw [List.length_append, List.length_append]; simp; simpa using h2, fun x => by rw [List.mem_append, List.mem_append, h3]⟩
        rw [List.nodup_append]
        refine ⟨h1, by simp, fun x hx y hy e => ?_⟩
        rw [List.mem_singleton] at hy
        subst hy e
        exact h hx
  have := key ns.reverse
  rw [List.reverse_reverse] at this
  exact this
section
variable {prog : Program} {w : World} {A : Around} {E : Value → Shared → Prop} {R : Result → Shared → Prop}
theorem set_loop {S it l : Addr} {led : Bool} {its : List Value} {ns : List Int} (hh : A.handled = none) (hI : IntsAre its ns) (hSl : S ≠ l) (hSi : S ≠ it) (hli : l ≠ it) (hz : ns.length + 1 < scanBound) :
    ∀ (k i : Nat) (s : Shared), i + k = ns.length → s.heap.IsListIter it l i → s.heap.IsList l its.toArray → SetAt prog w s.heap S led (dedup (ns.take i)) →
      (∀ h' tk, (∀ b o, b ≠ S → b ≠ it → s.heap.get? b = some o → h'.get? b = some o) → SetAt prog w h' S led (dedup ns) → R (.ok (.ret .none)) { s with heap := h', toks := tk }) →
      codeAny (model prog w) A (.builtin "set.update.loop" ⟨[.ref S, .ref it], []⟩) R s := by
  intro k
  induction k with
  | zero =>
    intro i s hk hit ht hS hR
    have hl := hI.length
    refine codeAny_builtin F.entry_set_update_loop ?_
    rw [Around.under_plainId F.plain_set_update_loop _]
    show wpAny _ A.in1 (pyNext (.ref it) >>= _) _ _ s
    refine wpAny_bind (wpAny_pyNext_list_end (A := A.in1) hh hit ht (by simp; omega) fun h1 he1 => ?_)
    show wpAny _ A.in1 (ret Value.none) _ _ _
    refine wpAny_pure ?_
    rw [show ns.take i = ns from List.take_of_length_le (by omega)] at hS
    exact hR h1 s.toks (fun b o _ hb e => he1 b o hb e) (hS.kept fun o e => he1 S o hSi e)
  | succ k ih =>
    intro i s hk hit ht hS hR
    have hl := hI.length
    have hlt : i < ns.length := by omega
    have hgi : its.toArray[i]? = some its[i] := by simp [hl, hlt]
    obtain ⟨t, et⟩ := IntsAre.int_at hI i its[i] (by simp [hl, hlt])
    have eg : ns.getD i 0 = ns[i] := by simp [hlt]
    rw [eg] at et
    refine codeAny_builtin F.entry_set_update_loop ?_
    rw [Around.under_plainId F.plain_set_update_loop _]
    show wpAny _ A.in1 (pyNext (.ref it) >>= _) _ _ s
    refine wpAny_bind (wpAny_pyNext_list_item hit ht hgi fun h1 hit1 hs1 => ?_)
    have ht1 : h1.IsList l its.toArray := ht.extBut hs1.extBut hli
    have hS1 : SetAt prog w h1 S led (dedup (ns.take i)) := hS.kept fun o e => (hs1.2 S hSi).trans e
    rw [et]
    show wpAny _ A.in1 (holding [Value.int ns[i] t] (setAdd S (.int ns[i] t)) >>= _) _ _ _
    refine wpAny_bind (wpAny_holding ?_)
    unfold setAdd
    refine wpAny_holding ?_
    refine wpAny_bind ((intKind prog w).pyHash (k := ns[i]) (intKind_is _ _ _ _) ?_)
    have hroom : (dedup (ns.take i)).length + 1 < scanBound := by
      have := (dedup_ok (ns.take i)).2.1
      rw [List.length_take] at this
      omega
    refine set_add (s := { s with heap := h1, toks := s.toks + 1 }) hS1 hroom fun b h2 hs2 hS2 => ?_
    have e2 : dedup (ns.take (i + 1)) = if ns[i] ∈ dedup (ns.take i) then dedup (ns.take i) else dedup (ns.take i) ++ [ns[i]] := by
      rw [List.take_succ, List.getElem?_eq_getElem hlt]
      exact dedup_snoc _ _
    rw [← e2] at hS2
    have hb2 : ∀ b o, b ≠ S → h1.get? b = some o → h2.get? b = some o := fun b o hb e => (hs2.2 b hb).trans e
    refine wpAny_pure ⟨plainId_quiet F.plain_set_update_loop _, ih (i + 1) _ (by omega) ?_ ?_ hS2 fun h' tk hk' hS' => hR h' tk (fun b o b1 b2 e => hk' b o b1 b2 (hb2 b o b1 ((hs1.2 b b2).trans e))) hS'⟩
    · obtain ⟨oi, z1, z2⟩ := hit1
      exact ⟨oi, hb2 it oi hSi.symm z1, z2⟩
    · obtain ⟨oi, z1, z2⟩ := ht1
      exact ⟨oi, hb2 l oi hSl.symm z1, z2⟩
end
end L2
namespace PySem
section
variable {prog : Program} {w : World} {A : Around} {E : Value → Shared → Prop} {s : Shared}
theorem set_new_led (a : Value) {Q₁ : Value → Shared → Prop}
    (h : Q₁ (.ref s.heap.objs.size) { s with heap := s.heap.push { cls := .type "set", dict := none, data := .set #[] 0 (.fresh 0 0 (L2.ledOf w)) } }) :
    codeAny (model prog w) A (.call (.builtin "set.__new__") ⟨[.type "set", a], []⟩) (wants Q₁ E) s := by
  refine codeAny_of_tree ?_
  show wpAny _ A.in1 (do checkBuiltinCall "set.__new__" ⟨[.type "set", a], []⟩; again (.builtin "set.__new__" ⟨[.type "set", a], []⟩)) _ _ s
  refine wpAny_bind (wpAny_of_eq (F.newCall_set_1 a) (wpAny_pure ⟨plainId_quiet F.plain_set_new _, codeAny_builtin F.entry_set_new ?_⟩))
  rw [Around.under_plainId F.plain_set_new _]
  unfold Builtin.«set.__new__» Builtin.Frozenset.newClass
  have hsub := sub_set_self
  obtain ⟨hp, g, d, tk, os⟩ := s
  dsimp only
  wp_walk
  refine wpAny_askSetting (wpAny_pure ?_)
  dsimp only
  simp only [newObj]
  refine wpAny_bind (wpAny_alloc (wpAny_pure ?_))
  exact wpAny_pure h
set_option maxHeartbeats 3200000 in
theorem set_of_list {l : Addr} {its : List Value} {ns : List Int} {nl : Nat} {sl : Array (Option Value)} {dd : Option Addr} {Q : Value → Shared → Prop} (hh : A.handled = none) (hol : s.heap.get? l = some { cls := .type "list", dict := dd, data := .seq its.toArray nl, slots := sl }) (hi : PyProof.Rows.IntsAre its ns) (hb : ns.length + 1 < scanBound)
    (h : ∀ (h' : Heap) (tk : Nat), L2.SetAt prog w h' s.heap.objs.size (L2.ledOf w) (L2.dedup ns) → (∀ b o, s.heap.get? b = some o → h'.get? b = some o) → Q (.ref s.heap.objs.size) { s with heap := h', toks := tk }) :
    wpAny (model prog w) A (call (.type "set") [.ref l]) Q E s := by
  obtain ⟨c, tl, hmro⟩ := F.called_set.mro
  have hmade := F.called_set.made
  have hsub := F.called_set.sub
  refine wpAny_call (codeAny_of_tree ?_)
  show wpAny _ _ (callAny (.type "set") _) _ _ _
  refine wpAny_pure ⟨Code.quiet_builtin _ (by decide +kernel), codeAny_builtin F.entry_type_call ?_⟩
  rw [Around.under_plain (weight_type_call_type "set" [.ref l] []) rfl]
  have h1 := F.called_set.notType
  have h2 := F.called_set.canCreate
  have hct := F.typeCall_set_1 (.ref l)
  repeat (any_goals (first | assumption | wp_step))
  refine codeAny_mono (set_new_led (.ref l) (E := E) (Q₁ := fun obj s₁ => obj = .ref s.heap.objs.size ∧ s₁ = { s with heap := s.heap.push { cls := .type "set", dict := none, data := .set #[] 0 (.fresh 0 0 (L2.ledOf w)) } }) ⟨rfl, rfl⟩) fun r s₁ hr => ?_
  cases r with
  | error e => exact hr
  | ok fl =>
    cases fl with
    | ret obj =>
      obtain ⟨rfl, rfl⟩ := hr
      have hS : (s.heap.push { cls := .type "set", dict := none, data := .set #[] 0 (.fresh 0 0 (L2.ledOf w)) }).get? s.heap.objs.size = some { cls := .type "set", dict := none, data := .set #[] 0 (.fresh 0 0 (L2.ledOf w)) } := Heap.get?_push_size _ rfl
      have hT : Shared.TypeIs { s with heap := s.heap.push { cls := .type "set", dict := none, data := .set #[] 0 (.fresh 0 0 (L2.ledOf w)) } } (.ref s.heap.objs.size) "set" := ⟨_, hS, rfl⟩
      have hli := F.called_set.init.lookup
      have hbi := F.called_set.init.bind (.ref s.heap.objs.size)
      repeat (any_goals (first | assumption | wp_step))
      refine codeAny_mono (codeAny_call_builtin (R := wants (fun r s₂ => r = .none ∧ ∃ h' tk, s₂ = { s with heap := h', toks := tk } ∧ L2.SetAt prog w h' s.heap.objs.size (L2.ledOf w) (L2.dedup ns) ∧
          (∀ b o, s.heap.get? b = some o → h'.get? b = some o)) E) F.called_set.init.plain F.entry_set_init (check_set_init_1 hT ?_)) fun r₂ s₂ hr₂ => ?_
      · have hol' : (s.heap.push { cls := .type "set", dict := none, data := .set #[] 0 (.fresh 0 0 (L2.ledOf w)) }).get? l = some { cls := .type "list", dict := dd, data := .seq its.toArray nl, slots := sl } := Heap.get?_push_of_some _ hol
        have hsls := F.sub_list_set
        have hslf := F.sub_list_frozenset
        have hne : (Value.type "list" == Value.type "dict") = false := by decide
        have hl1 : (s.heap.push { cls := .type "set", dict := none, data := .set #[] 0 (.fresh 0 0 (L2.ledOf w)) }).IsList l its.toArray := ⟨_, hol', rfl, nl, rfl⟩
        unfold Builtin.«set.__init__» noKeywords Builtin.Frozenset.updateFrom
        generalize hPI : pyIter = PI
        wp_walk
        subst hPI
        refine wpAny_pyIter_list hl1 ?_
        refine wpAny_bind (wpAny_runValue ?_)
        have hlS : l < s.heap.objs.size := Heap.lt_size hol
        have hh3 : A.in1.in1.handled = none := by simp [hh]
        have lt1 : s.heap.objs.size < (s.heap.push { cls := .type "set", dict := none, data := .set #[] 0 (.fresh 0 0 (L2.ledOf w)) }).objs.size := Heap.lt_size hS
        refine L2.set_loop (its := its) (ns := ns) (led := L2.ledOf w) hh3 hi (Nat.ne_of_gt hlS) (Nat.ne_of_lt lt1) (Nat.ne_of_lt (Nat.lt_trans hlS lt1)) hb ns.length 0 _ (by omega) ?_ ?_ ?_ ?_
        · exact ⟨_, Heap.get?_push_size _ rfl, rfl, rfl⟩
        · exact hl1.push _
        · refine ⟨#[], 0, .fresh 0 0 (L2.ledOf w), ?_, fun e he => by simp at he, ⟨[], .nil, .nil⟩, by decide, rfl, ⟨rfl, rfl, List.Pairwise.nil⟩⟩
          exact Heap.get?_push_of_some _ hS
        · intro h' tk hk hS'
          show wpAny _ _ _ _ _ _
          refine wpAny_pure ?_
          show wpAny _ _ (ret Value.none) _ _ _
          refine wpAny_pure ⟨rfl, h', tk, rfl, hS', fun b o e => ?_⟩
          have hb0 := Heap.lt_size e
          exact hk b o (Nat.ne_of_lt hb0) (Nat.ne_of_lt (Nat.lt_trans hb0 lt1)) (Heap.get?_push_of_some _ (Heap.get?_push_of_some _ e))
      · cases r₂ with
        | error e => exact hr₂
        | ok fl₂ =>
          cases fl₂ with
          | ret r =>
            obtain ⟨rfl, h', tk, rfl, hS', hk'⟩ := hr₂
            repeat (any_goals (first | assumption | wp_step))
            exact h _ _ hS' hk'
          | _ => exact hr₂.elim
    | _ => exact hr.elim
end
end PySem
set_option Elab.async false
set_option linter.all false
set_option maxRecDepth 100000
namespace PySem
namespace F
theorem slot_seti_next : Slot "set_iterator" "__next__" "set_iterator.__next__" :=
  .of (owner := "set_iterator") (n := "__next__") (by rw [typeLookup_type, builtinLookup_eq_fast]; kernel_rfl) (by decide +kernel) (by decide +kernel) (by decide +kernel)
    (by first | exact .inl (by decide +kernel) | exact .inr (by decide +kernel)) (by rw [isSubtype_type]; kernel_rfl)
theorem entry_seti_next : entryFor table "set_iterator.__next__" = some Builtin.«set_iterator.__next__» := entryFor_of_tree (by kernel_rfl)
theorem args_seti_next (a : Value) : argsOk "set_iterator.__next__" ⟨[a], []⟩ := by unfold argsOk; kernel_rfl
theorem entry_set_iter' : entryFor table "set.__iter__" = some Builtin.«frozenset.__iter__» := entryFor_alias (id' := "frozenset.__iter__") (by kernel_rfl) (by first | rfl | decide +kernel) (by decide +kernel) (by kernel_rfl)
end F
end PySem
namespace L2
open PySem PySem.Spec PyProof.Rows PySem.W
abbrev setObj (es : Array (Int × Value)) (ep : Nat) (t : SetTable) : Obj := { cls := .type "set", dict := none, data := .set es ep t }
abbrev itObj (first : Value) (i : Nat) (a : Addr) (n ep : Nat) : Obj := { cls := .type "set_iterator", data := .fields #[first, .int i 0, .ref a, .int n 0, .int ep 0] }
def drawnB (es : Array (Int × Value)) (t : SetTable) : Bool := !t.plain && decide (es.size > 1)
section
variable {prog : Program} {w : World} {A : Around} {E : Value → Shared → Prop} {s : Shared}
theorem choose_any {src : Source} {n : Nat} {Q : Nat → Shared → Prop} (hn : n ≠ 0) (h : ∀ i d', i < n → Q i { s with drawn := d' }) : wpAny (model prog w) A (choose src n) Q E s := by
  intro Γ p hΓ
  show Sem.wp _ _ (.choose src n .pure) _ _ _ _
  rw [Sem.wp_choose]
  exact ⟨hn, h _ _ (Nat.mod_lt _ (Nat.pos_of_ne_zero hn))⟩
theorem erase_perm {α : Type} : ∀ {l : List α} {i : Nat} {x : α}, l[i]? = some x → (x :: l.eraseIdx i).Perm l
  | [], i, x, e => by simp at e
  | a :: l, 0, x, e => by
    simp at e
    subst e
    exact List.Perm.refl _
  | a :: l, i + 1, x, e => by
    simp at e
    have ih := erase_perm (l := l) (i := i) (x := x) e
    show (x :: a :: l.eraseIdx i).Perm (a :: l)
    exact (List.Perm.swap a x _).trans (ih.cons a)
theorem draw_order {α : Type} : ∀ (n : Nat) (xs : List α) (s : Shared) (Q : List α → Shared → Prop), xs.length = n → (∀ ys d', ys.Perm xs → Q ys { s with drawn := d' }) → wpAny (model prog w) A (drawOrder n xs) Q E s
  | 0, xs, s, Q, hl, h => by
    have : xs = [] := List.length_eq_zero_iff.mp hl
    subst this
    unfold drawOrder
    exact wpAny_pure (h [] s.drawn (List.Perm.refl _))
  | n + 1, [], s, Q, hl, h => by simp at hl
  | n + 1, x :: xs, s, Q, hl, h => by
    unfold drawOrder
    refine wpAny_bind (choose_any (by simp) fun i d' hi => ?_)
    have hg : (x :: xs)[i]? = some (x :: xs)[i] := List.getElem?_eq_getElem hi
    rw [hg]
    dsimp only
    refine wpAny_bind (draw_order n _ _ _ (by rw [List.length_eraseIdx, if_pos hi]; omega) fun ys d2 hp => ?_)
    exact wpAny_pure (h _ d2 ((hp.cons _).trans (erase_perm hg)))
theorem pick_perm {α : Type} (next : Nat → Nat) (xs : Array α) : (pickOrder next xs).toList.Perm xs.toList := by
  have key : ∀ (f k : Nat) (left : List α) (out : Array α), left.length = f → (pickOrder.go next f k left out).toList.Perm (out.toList ++ left) := by
    intro f
    induction f with
    | zero =>
      intro k left out h
      have : left = [] := List.length_eq_zero_iff.mp h
      subst this
      unfold pickOrder.go
      rw [List.append_nil]
    | succ f ih =>
      intro k left out h
      unfold pickOrder.go
      have hm : next k % left.length < left.length := Nat.mod_lt _ (by omega)
      have hg : left[next k % left.length]? = some (left[next k % left.length]'hm) := List.getElem?_eq_getElem hm
      rw [hg]
      dsimp only
      refine (ih (k + 1) _ _ (by rw [List.length_eraseIdx, if_pos hm]; omega)).trans ?_
      rw [Array.toList_push, List.append_assoc]
      exact (erase_perm hg).append_left _
  have := key xs.size 0 xs.toList #[] (by simp)
  simpa [pickOrder] using this
theorem next_of {I a : Addr} {first : Value} {i : Nat} {es : Array (Int × Value)} {ep : Nat} {t : SetTable} {Q : Option Value → Shared → Prop} (hI : s.heap.get? I = some (itObj first i a es.size ep)) (ha : s.heap.get? a = some (setObj es ep t)) (hf : t.fits es.size = true)
    (h : wpAny (model prog w) A.in1 (if let .int slot _ := first then
      (do match ← setNext a slot.toNat i ep with
        | some (x, next) =>
          setField (.ref I) 0 (rawInt next)
          setField (.ref I) 1 (rawInt ((i : Int) + 1))
          ret x
        | none => setField (.ref I) 2 .none; raiseNew (← newExc (.type "StopIteration") []) : Sem Fin)
      else (do
        let some places ← seqItems? first | unsupported "internal:set_iterator"
        match places[i]? with
        | some (.int place _) =>
          let x ← setNextDrawn a place.toNat ep
          setField (.ref I) 1 (rawInt ((i : Int) + 1))
          ret x
        | some _ => unsupported "internal:set_iterator"
        | none => setField (.ref I) 0 (rawInt 0); setField (.ref I) 2 .none; raiseNew (← newExc (.type "StopIteration") []) : Sem Fin))
      (fun fin s' => ∃ v, fin = .done (.ret v) ∧ Q (some v) s') (fun e s' => ∃ c o, e = .ref c ∧ s'.heap.get? c = some o ∧ o.cls = .type "StopIteration" ∧ Q none s') s) : wpAny (model prog w) A (pyNext (.ref I)) Q E s := by
  have hT : s.TypeIs (.ref I) "set_iterator" := ⟨_, hI, rfl⟩
  unfold pyNext
  refine wpAny_bind (wpAny_attempt (wpAny_callSpecial?_slot (name := Str.ofString "__next__") hT F.slot_seti_next
    (wpAny_call_entry F.slot_seti_next hT F.entry_seti_next ?_ (F.args_seti_next _))))
  unfold Builtin.«set_iterator.__next__»
  refine wpAny_bind (wpAny_pure (wpAny_bind (wpAny_fieldsOf hI rfl ?_)))
  dsimp only
  refine wpAny_bind ?_
  unfold setEntries
  refine wpAny_bind (wpAny_setState_of ha rfl hf (wpAny_pure ?_))
  rw [if_neg (by simp)]
  simp only [Int.toNat_natCast]
  refine wpAny_mono h (fun fin s' x => ?_) fun e s' x => ?_
  · obtain ⟨v, rfl, q⟩ := x
    exact ⟨v, rfl, wpAny_pure q⟩
  · obtain ⟨c, o, rfl, e1, e2, q⟩ := x
    refine wpAny_bind (wpAny_isInstance (T := "StopIteration") ⟨o, e1, e2⟩ isSubtype_stop ?_)
    rw [if_pos rfl]
    exact wpAny_pure q
def ItSt (w : World) (h : Heap) (I a : Addr) (es : Array (Int × Value)) (ep : Nat) (t : SetTable) (vals : List Value) (i : Nat) : Prop := h.get? a = some (setObj es ep t) ∧
  ((w.params.followText "set-order" = true ∧ h.get? I = some (itObj (.int 0 0) i a es.size ep) ∧ vals = (pickOrder (w.params.setOrder a ep) es).toList.map (·.2)) ∨
   (w.params.followText "set-order" = false ∧ ∃ (T : Addr) (ps : List Nat), h.get? I = some (itObj (.ref T) i a es.size ep) ∧ h.get? T = some { cls := .type "tuple", data := .seq (ps.map fun (p : Nat) => rawInt p).toArray } ∧ T ≠ I ∧ (∀ p ∈ ps, p < es.size) ∧ vals = ps.map fun p => (es.getD p (0, .none)).2) ∨
   (w.params.followText "set-order" = false ∧ drawnB es t = false ∧ ∃ slot : Nat, h.get? I = some (itObj (.int slot 0) i a es.size ep) ∧ SetTable.below t.place slot = i ∧ vals = es.toList.map (·.2)))
theorem stop_it {I : Addr} {o : Obj} {vs : Array Value} {k : Nat} {x : Value} {Q : Option Value → Shared → Prop} (hh : A.handled = none) (hI : s.heap.get? I = some o) (hd : o.data = .fields vs) (hk : k < vs.size) (h : ∀ h', (∀ b u, b ≠ I → s.heap.get? b = some u → h'.get? b = some u) → Q none { s with heap := h' }) :
    wpAny (model prog w) A.in1 (do setField (.ref I) k x; raiseNew (← newExc (.type "StopIteration") []) : Sem Fin) (fun fin s' => ∃ v, fin = .done (.ret v) ∧ Q (some v) s') (fun e s' => ∃ c o, e = .ref c ∧ s'.heap.get? c = some o ∧ o.cls = .type "StopIteration" ∧ Q none s') s := by
  refine wpAny_bind (wpAny_setField hI hd hk ?_)
  refine wpAny_bind ?_
  simp only [newExc, newTuple]
  refine wpAny_bind (wpAny_newObj_type ?_ (by size_fits))
  refine wpAny_bind (m := firstArgMember _ _) (wpAny_of_eq (a := Value.none) (by first | rfl | (simp only [firstArgMember]; rfl)) ?_)
  refine wpAny_newObj_type ?_ (by size_fits)
  simp only [raiseNew]
  refine wpAny_bind (wpAny_handled ?_)
  rw [show A.in1.handled = none from hh]
  refine wpAny_bind (wpAny_pure (wpAny_throw ?_))
  refine ⟨_, _, rfl, Heap.get?_push_size _ rfl, rfl, h _ fun b u hb e => ?_⟩
  exact Heap.get?_push_of_some _ (Heap.get?_push_of_some _ ((Heap.get?_update_ne _ _ _ _ hb).trans e))
theorem by_text {Q : Bool → Shared → Prop} (h : Q (w.params.followText "set-order") s) : wpAny (model prog w) A setsByText Q E s := by
  unfold setsByText
  exact wpAny_bind (wpAny_askSetting (wpAny_pure h))
theorem set_it {I : Addr} {first : Value} {i : Nat} {a : Addr} {n ep k : Nat} {x : Value} {Q : Unit → Shared → Prop} (hI : s.heap.get? I = some (itObj first i a n ep)) (hk : k < 5)
    (h : ∀ h', h'.get? I = some { cls := .type "set_iterator", data := .fields (#[first, .int i 0, .ref a, .int n 0, .int ep 0].setIfInBounds k x) } → (∀ b u, b ≠ I → s.heap.get? b = some u → h'.get? b = some u) → Q () { s with heap := h' }) : wpAny (model prog w) A (setField (.ref I) k x) Q E s :=
  wpAny_setField_rec hI hk fun h' e sb => h h' e fun b u hb e => (sb.2 b hb).trans e
theorem next_item {I a : Addr} {es : Array (Int × Value)} {ep : Nat} {t : SetTable} {vals : List Value} {i : Nat} {Q : Option Value → Shared → Prop} (hf : t.fits es.size = true) (ht : TabOk (ledOf w) t) (hIa : a ≠ I) (hst : ItSt w s.heap I a es ep t vals i) (hi : i < vals.length)
    (h : ∀ h', ItSt w h' I a es ep t vals (i + 1) → (∀ b u, b ≠ I → s.heap.get? b = some u → h'.get? b = some u) → Q (some (vals.getD i Value.none)) { s with heap := h' }) : wpAny (model prog w) A (pyNext (.ref I)) Q E s := by
  obtain ⟨ha, hm⟩ := hst
  rcases hm with ⟨hb, hI, hv⟩ | ⟨hb, T, ps, hI, hT, hTI, hps, hv⟩ | ⟨hb, hd, slot, hI, hs, hv⟩
  · refine next_of hI ha hf ?_
    show wpAny _ _ (setNext a (Int.toNat 0) i ep >>= _) _ _ _
    refine wpAny_bind ?_
    unfold setNext
    refine wpAny_bind (wpAny_setState_of ha rfl hf (wpAny_bind (by_text ?_)))
    dsimp only
    rw [hb, if_pos rfl, if_neg (by simp)]
    refine wpAny_bind ?_
    unfold setWalk
    refine wpAny_bind (wpAny_setState_of ha rfl hf (wpAny_bind (by_text ?_)))
    rw [hb, if_pos rfl]
    refine wpAny_bind (wpAny_askSetting (wpAny_pure (wpAny_pure ?_)))
    have hg : (pickOrder (w.params.setOrder a ep) es)[i]? = some ((pickOrder (w.params.setOrder a ep) es)[i]'(by rw [hv] at hi; simpa using hi)) := Array.getElem?_eq_getElem _
    have hvi : vals.getD i Value.none = ((pickOrder (w.params.setOrder a ep) es)[i]'(by rw [hv] at hi; simpa using hi)).2 := by
      subst hv
      have hi' : i < (pickOrder (w.params.setOrder a ep) es).size := by simpa using hi
      simp [hi']
    show wpAny _ _ (match ((pickOrder (w.params.setOrder a ep) es)[i]?).map fun e => (e.2, Int.toNat 0) with | some (x, next) => _ | none => _) _ _ _
    rw [hg]
    dsimp only [Option.map]
    refine wpAny_bind (set_it hI (by decide) fun h1 e1 k1 => ?_)
    refine wpAny_bind (set_it (s := { s with heap := h1 }) (first := .int 0 0) e1 (by decide) fun h2 e2 k2 => wpAny_pure ⟨_, rfl, ?_⟩)
    rw [← hvi]
    refine h h2 ⟨k2 _ _ hIa (k1 _ _ hIa ha), .inl ⟨hb, ?_, hv⟩⟩ fun b u hb e => k2 _ _ hb (k1 _ _ hb e)
    exact e2
  · refine next_of hI ha hf ?_
    show wpAny _ _ (seqItems? (.ref T) >>= _) _ _ _
    refine wpAny_bind (wpAny_seqItems hT rfl ?_)
    have hi' : i < ps.length := by rw [hv, List.length_map] at hi; exact hi
    have hg : (List.map (fun (p : Nat) => rawInt p) ps).toArray[i]? = some (rawInt ps[i]) := by simp [hi']
    dsimp only
    rw [hg]
    have hpl := hps _ (List.getElem_mem hi')
    show wpAny _ _ (setNextDrawn a (Int.toNat (ps[i] : Nat)) ep >>= _) _ _ _
    rw [Int.toNat_natCast]
    refine wpAny_bind ?_
    unfold setNextDrawn
    refine wpAny_bind (wpAny_setState_of ha rfl hf ?_)
    dsimp only
    rw [if_neg (by simp), Array.getElem?_eq_getElem hpl]
    refine wpAny_pure ?_
    refine wpAny_bind (set_it hI (by decide) fun h1 e1 k1 => wpAny_pure ⟨_, rfl, ?_⟩)
    have hvi : vals.getD i Value.none = es[ps[i]].2 := by
      subst hv
      simp [hi', hpl]
    show Q (some es[ps[i]].2) _
    rw [← hvi]
    refine h h1 ⟨k1 _ _ hIa ha, .inr (.inl ⟨hb, T, ps, ?_, k1 _ _ hTI hT, hTI, hps, hv⟩)⟩ k1
    exact e1
  · refine next_of hI ha hf ?_
    show wpAny _ _ (setNext a (Int.toNat (slot : Nat)) i ep >>= _) _ _ _
    rw [Int.toNat_natCast]
    refine wpAny_bind ?_
    unfold setNext
    refine wpAny_bind (wpAny_setState_of ha rfl hf (wpAny_bind (by_text ?_)))
    dsimp only
    rw [hb, if_neg Bool.false_ne_true]
    have hi' : i < es.size := by rw [hv, List.length_map, Array.length_toList] at hi; exact hi
    have hled : t.led = true := by rw [ht.led_]; unfold ledOf; rw [hb]; rfl
    have hpz : t.place.size = es.size := by
      simp only [SetTable.fits, Bool.and_eq_true, beq_iff_eq] at hf
      exact hf.1
    show wpAny _ _ (if drawnB es t = true then _ else _) _ _ _
    rw [hd, if_neg Bool.false_ne_true]
    refine wpAny_bind ?_
    show wpAny _ _ (if (!t.led && !es.isEmpty) = true then _ else _) _ _ _
    rw [hled, if_neg (by simp)]
    refine wpAny_pure (wpAny_pure ?_)
    rw [hs, Array.getElem?_eq_getElem hi', Array.getElem?_eq_getElem (by omega)]
    dsimp only
    refine wpAny_bind (set_it hI (by decide) fun h1 e1 k1 => ?_)
    refine wpAny_bind (set_it (s := { s with heap := h1 }) (first := .int ((t.place[i]'(by omega) + 1 : Nat) : Int) 0) e1 (by decide) fun h2 e2 k2 => wpAny_pure ⟨_, rfl, ?_⟩)
    have hvi : vals.getD i Value.none = es[i].2 := by
      subst hv
      simp [hi']
    rw [← hvi]
    refine h h2 ⟨k2 _ _ hIa (k1 _ _ hIa ha), .inr (.inr ⟨hb, hd, t.place[i]'(by omega) + 1, ?_, ?_, hv⟩)⟩ fun b u hb e => k2 _ _ hb (k1 _ _ hb e)
    · exact e2
    · obtain ⟨b1, b2, b3⟩ := below_ok ht.up (t.place[i]'(by omega) + 1)
      have eg : t.place.getD i 0 = t.place[i]'(by omega) := by
        have hlt : i < t.place.size := by omega
        simp [Array.getD, hlt]
      have h1 : i < SetTable.below t.place (t.place[i]'(by omega) + 1) := by
        rcases Nat.lt_or_ge i (SetTable.below t.place (t.place[i]'(by omega) + 1)) with z | z
        · exact z
        · have := b3 i z (by omega)
          omega
      rcases Nat.lt_or_ge (i + 1) (SetTable.below t.place (t.place[i]'(by omega) + 1)) with z | z
      · have h2 := b2 (i + 1) z
        have h3 := up_lt ht.up (i := i) (j := i + 1) (by omega) (by omega)
        omega
      · omega
theorem next_end {I a : Addr} {es : Array (Int × Value)} {ep : Nat} {t : SetTable} {vals : List Value} {i : Nat} {Q : Option Value → Shared → Prop} (hh : A.handled = none) (hf : t.fits es.size = true) (ht : TabOk (ledOf w) t) (hIa : a ≠ I) (hst : ItSt w s.heap I a es ep t vals i) (hi : i = vals.length)
    (h : ∀ h', (∀ b u, b ≠ I → s.heap.get? b = some u → h'.get? b = some u) → Q none { s with heap := h' }) : wpAny (model prog w) A (pyNext (.ref I)) Q E s := by
  obtain ⟨ha, hm⟩ := hst
  rcases hm with ⟨hb, hI, hv⟩ | ⟨hb, T, ps, hI, hT, hTI, hps, hv⟩ | ⟨hb, hd, slot, hI, hs, hv⟩
  · refine next_of hI ha hf ?_
    show wpAny _ _ (setNext a (Int.toNat 0) i ep >>= _) _ _ _
    refine wpAny_bind ?_
    unfold setNext
    refine wpAny_bind (wpAny_setState_of ha rfl hf (wpAny_bind (by_text ?_)))
    dsimp only
    rw [hb, if_pos rfl, if_neg (by simp)]
    refine wpAny_bind ?_
    unfold setWalk
    refine wpAny_bind (wpAny_setState_of ha rfl hf (wpAny_bind (by_text ?_)))
    rw [hb, if_pos rfl]
    refine wpAny_bind (wpAny_askSetting (wpAny_pure (wpAny_pure ?_)))
    have hg : (pickOrder (w.params.setOrder a ep) es)[i]? = none := by
      rw [hi, hv]
      simp
    show wpAny _ _ (match ((pickOrder (w.params.setOrder a ep) es)[i]?).map fun e => (e.2, Int.toNat 0) with | some (x, next) => _ | none => _) _ _ _
    rw [hg]
    exact stop_it hh hI rfl (by simp) h
  · refine next_of hI ha hf ?_
    show wpAny _ _ (seqItems? (.ref T) >>= _) _ _ _
    refine wpAny_bind (wpAny_seqItems hT rfl ?_)
    have hg : (List.map (fun (p : Nat) => rawInt p) ps).toArray[i]? = none := by
      rw [hi, hv]
      simp
    dsimp only
    rw [hg]
    dsimp only
    refine wpAny_bind (set_it hI (by decide) fun h1 e1 k1 => ?_)
    exact stop_it (s := { s with heap := h1 }) hh e1 rfl (by simp) fun h' k => h h' fun b u hb e => k _ _ hb (k1 _ _ hb e)
  · refine next_of hI ha hf ?_
    show wpAny _ _ (setNext a (Int.toNat (slot : Nat)) i ep >>= _) _ _ _
    rw [Int.toNat_natCast]
    refine wpAny_bind ?_
    unfold setNext
    refine wpAny_bind (wpAny_setState_of ha rfl hf (wpAny_bind (by_text ?_)))
    dsimp only
    rw [hb, if_neg Bool.false_ne_true]
    have hled : t.led = true := by rw [ht.led_]; unfold ledOf; rw [hb]; rfl
    show wpAny _ _ (if drawnB es t = true then _ else _) _ _ _
    rw [hd, if_neg Bool.false_ne_true]
    refine wpAny_bind ?_
    show wpAny _ _ (if (!t.led && !es.isEmpty) = true then _ else _) _ _ _
    rw [hled, if_neg (by simp)]
    refine wpAny_pure (wpAny_pure ?_)
    have hg : es[i]? = none := by
      rw [hi, hv]
      simp
    rw [hs, hg]
    dsimp only
    exact stop_it hh hI rfl (by simp) h
end
end L2
set_option Elab.async false
set_option linter.all false
set_option maxRecDepth 100000
namespace L2
open PySem PySem.Spec PyProof.Rows PySem.W
section
variable {prog : Program} {w : World} {A : Around} {E : Value → Shared → Prop} {s : Shared}
theorem ItSt.kept {h h' : Heap} {I a : Addr} {es : Array (Int × Value)} {ep : Nat} {t : SetTable} {vals : List Value} {i : Nat} (x : ItSt w h I a es ep t vals i) (k : ∀ b o, h.get? b = some o → o.cls ≠ .type "list" → h'.get? b = some o) : ItSt w h' I a es ep t vals i := by
  obtain ⟨ha, hm⟩ := x
  refine ⟨k _ _ ha (by simp), ?_⟩
  rcases hm with ⟨hb, hI, hv⟩ | ⟨hb, T, ps, hI, hT, r⟩ | ⟨hb, hd, slot, hI, r⟩
  · exact .inl ⟨hb, k _ _ hI (by simp), hv⟩
  · exact .inr (.inl ⟨hb, T, ps, k _ _ hI (by simp), k _ _ hT (by simp), r⟩)
  · exact .inr (.inr ⟨hb, hd, slot, k _ _ hI (by simp), r⟩)
theorem iter_set {a : Addr} {es : Array (Int × Value)} {ep : Nat} {t : SetTable} {Q : Value → Shared → Prop} (ha : s.heap.get? a = some (setObj es ep t)) (hf : t.fits es.size = true) (ht : TabOk (ledOf w) t) (hz : es.size ≤ 1000)
    (h : ∀ I h' d' vals, s.heap.objs.size ≤ I → ItSt w h' I a es ep t vals 0 → vals.Perm (es.toList.map (·.2)) → (∀ b o, s.heap.get? b = some o → h'.get? b = some o) → Q (.ref I) { s with heap := h', drawn := d' }) : wpAny (model prog w) A (pyIter (.ref a)) Q E s := by
  have hT : s.TypeIs (.ref a) "set" := ⟨_, ha, rfl⟩
  refine wpAny_pyIter_slot hT PySem.F.slot_set_iter (wpAny_call_entry PySem.F.slot_set_iter hT PySem.F.entry_set_iter' ?_ (PySem.F.args_set_iter_1 _))
  unfold Builtin.«frozenset.__iter__»
  refine wpAny_bind (wpAny_pure (wpAny_bind ?_))
  unfold Builtin.Frozenset.sizeOf setEntries
  refine wpAny_bind (wpAny_bind (wpAny_setState_of ha rfl hf (wpAny_pure (wpAny_pure ?_))))
  refine wpAny_bind ?_
  unfold setDrawn
  refine wpAny_bind (wpAny_setState_of ha rfl hf (wpAny_bind (by_text (wpAny_pure ?_))))
  dsimp only
  show wpAny _ _ (if (!(w.params.followText "set-order") && drawnB es t) = true then _ else _) _ _ _
  have fin : ∀ (first : Value) (s1 : Shared) (vals : List Value), s1.heap.get? a = some (setObj es ep t) → vals.Perm (es.toList.map (·.2)) → (∀ b o, s.heap.get? b = some o → s1.heap.get? b = some o) → s1.gens = s.gens → s1.toks = s.toks → s1.os = s.os → s.heap.objs.size ≤ s1.heap.objs.size →
      (∀ h' I, (∀ b o, s1.heap.get? b = some o → h'.get? b = some o) → s1.heap.objs.size = I → h'.get? I = some (itObj first 0 a es.size ep) → ItSt w h' I a es ep t vals 0) →
      wpAny (model prog w) A.in1 (do let e ← setEpoch a; let i ← newFields "set_iterator" [first, rawInt 0, .ref a, rawInt es.size, rawInt e]; ret i) (fun fin s' => ∃ v, fin = Fin.done (Flow.ret v) ∧ ∃ T' r, s'.TypeIs v T' ∧ typeLookup (.type T') "__next__" = pure (some r) ∧ Q v s') E s1 := by
    intro first s1 vals h1 hp hk eg et eo hle hst
    refine wpAny_bind (wpAny_setEpoch_of h1 rfl hf ?_)
    refine wpAny_bind (wpAny_newObj_type (wpAny_pure ⟨_, rfl, "set_iterator", _, ⟨_, Heap.get?_push_size _ rfl, rfl⟩, PySem.F.slot_seti_next.lookup, ?_⟩))
    obtain ⟨hp1, g1, d1, t1, o1⟩ := s1
    dsimp only at eg et eo
    subst eg et eo
    exact h _ _ d1 vals hle (hst _ _ (fun b o e => Heap.get?_push_of_some _ e) rfl (Heap.get?_push_size _ rfl)) hp fun b o e => Heap.get?_push_of_some _ (hk b o e)
  cases hb : w.params.followText "set-order" with
  | true =>
    rw [if_neg (by simp)]
    refine wpAny_bind (wpAny_pure ?_)
    refine fin (rawInt 0) s ((pickOrder (w.params.setOrder a ep) es).toList.map (·.2)) ha ((pick_perm _ _).map _) (fun _ _ e => e) rfl rfl rfl (Nat.le_refl _) fun h' I k _ hI => ?_
    exact ⟨k _ _ ha, .inl ⟨hb, hI, rfl⟩⟩
  | false =>
    cases hd : drawnB es t with
    | true =>
      rw [if_pos (by simp)]
      refine wpAny_bind (draw_order es.size (List.range es.size) s _ (by simp) fun ps d' hp => ?_)
      refine wpAny_bind (wpAny_newObj_type ?_ (by show (List.map _ ps).length ≤ _; rw [List.length_map, hp.length_eq, List.length_range]; exact Nat.le_of_lt (small1000 hz)))
      have hps : ∀ p ∈ ps, p < es.size := fun p h => List.mem_range.mp (hp.mem_iff.mp h)
      have hvp : (ps.map fun p => (es.getD p (0, .none)).2).Perm (es.toList.map (·.2)) := by
        have h1 := hp.map fun p => (es.getD p (0, .none)).2
        have e : ((List.range es.size).map fun p => (es.getD p (0, Value.none)).2) = es.toList.map (·.2) := by
          apply List.ext_getElem
          · simp
          · intro i h1 h2
            have hi : i < es.size := by simpa using h1
            simp [hi]
        rw [e] at h1
        exact h1
      have lt : ∀ o : Obj, s.heap.objs.size < (s.heap.push o).objs.size := fun o => by rw [size_push']; exact Nat.lt_succ_self _
      refine fin (.ref s.heap.objs.size) _ (ps.map fun p => (es.getD p (0, .none)).2) (Heap.get?_push_of_some _ ha) hvp (fun b o e => Heap.get?_push_of_some _ e) rfl rfl rfl (Nat.le_of_lt (lt _)) fun h' I k eI hI => ?_
      refine ⟨k _ _ (Heap.get?_push_of_some _ ha), .inr (.inl ⟨hb, s.heap.objs.size, ps, hI, k _ _ (Heap.get?_push_size _ rfl), ?_, hps, rfl⟩)⟩
      rw [← eI]
      exact Nat.ne_of_lt (lt _)
    | false =>
      rw [if_neg (by simp)]
      refine wpAny_bind (wpAny_pure ?_)
      refine fin (rawInt 0) s (es.toList.map (·.2)) ha (List.Perm.refl _) (fun _ _ e => e) rfl rfl rfl (Nat.le_refl _) fun h' I k _ hI => ?_
      refine ⟨k _ _ ha, .inr (.inr ⟨hb, hd, 0, hI, ?_, rfl⟩)⟩
      obtain ⟨b1, b2, b3⟩ := below_ok ht.up 0
      rcases Nat.eq_zero_or_pos (SetTable.below t.place 0) with z | z
      · exact z
      · exact absurd (b2 0 z) (Nat.not_lt_zero _)
theorem ext_loop {S I a : Addr} {es : Array (Int × Value)} {ep : Nat} {t : SetTable} {vals : List Value} {res : Value} {R : Result → Shared → Prop} (hh : A.handled = none) (hf : t.fits es.size = true) (ht : TabOk (ledOf w) t) (hIa : a ≠ I) (hSI : S ≠ I) (hz : vals.length ≤ 1000) :
    ∀ (k i : Nat) (s : Shared) (c : Nat), i + k = vals.length → ItSt w s.heap I a es ep t vals i → s.heap.get? S = some { cls := .type "list", dict := none, data := .seq (vals.take i).toArray c, slots := #[] } →
      (∀ h' c', h'.get? S = some { cls := .type "list", dict := none, data := .seq vals.toArray c', slots := #[] } → (∀ b o, b ≠ S → b ≠ I → s.heap.get? b = some o → h'.get? b = some o) → R (.ok (.ret res)) { s with heap := h' }) →
      codeAny (model prog w) A (.builtin "list.extend.loop" ⟨[.ref S, .ref I, res], []⟩) R s := by
  intro k
  induction k with
  | zero =>
    intro i s c hk hst hS hR
    have hi : i = vals.length := by omega
    refine codeAny_builtin PySem.F.entry_extend_loop ?_
    rw [Around.under_plainId PySem.F.plain_extend_loop _]
    show wpAny _ A.in1 (pyNext (.ref I) >>= _) _ _ s
    refine wpAny_bind (next_end (A := A.in1) hh hf ht hIa hst hi fun h1 k1 => ?_)
    refine wpAny_pure ?_
    rw [hi, List.take_length] at hS
    exact hR h1 c (k1 _ _ hSI hS) fun b o _ hb e => k1 _ _ hb e
  | succ k ih =>
    intro i s c hk hst hS hR
    have hi : i < vals.length := by omega
    refine codeAny_builtin PySem.F.entry_extend_loop ?_
    rw [Around.under_plainId PySem.F.plain_extend_loop _]
    show wpAny _ A.in1 (pyNext (.ref I) >>= _) _ _ s
    refine wpAny_bind (next_item (A := A.in1) hf ht hIa hst hi fun h1 st1 k1 => ?_)
    dsimp only
    have hS1 := k1 _ _ hSI hS
    refine wpAny_bind ?_
    show wpAny _ _ (updateSeq S (·.push (vals.getD i Value.none))) _ _ _
    refine wpAny_updateSeq hS1 rfl ?_ (by simp only [List.size_toArray, List.length_take]; exact Nat.le_of_lt (small1000 (by omega))) (by simp only [Array.size_push, List.size_toArray, List.length_take]; exact Nat.le_succ_of_le (Nat.le_of_lt (small1000 (by omega))))
    refine wpAny_pure ⟨plainId_quiet PySem.F.plain_extend_loop _, ?_⟩
    obtain ⟨c2, hS2⟩ : ∃ c2, (h1.update S (Obj.mapSeq (·.push (vals.getD i Value.none)))).get? S = some (seqObj "list" ((vals.take i).toArray.push (vals.getD i Value.none)) c2) := ⟨_, get?_update_seq hS1 _⟩
    have oth : ∀ b o, b ≠ S → h1.get? b = some o → (h1.update S (Obj.mapSeq (·.push (vals.getD i Value.none)))).get? b = some o := fun b o hb e => (Heap.get?_update_other _ _ (Ne.symm hb)).trans e
    have et : ((vals.take i).toArray.push (vals.getD i Value.none)) = (vals.take (i + 1)).toArray := by
      rw [List.take_succ, List.getElem?_eq_getElem hi]
      simp [hi]
    rw [et] at hS2
    refine ih (i + 1) _ c2 (by omega) (st1.kept fun b o e hc => oth b o (fun z => ?_) e) hS2 fun h' c' e1 e2 => hR h' c' e1 fun b o hb hb2 e => e2 b o hb hb2 (oth b o hb (k1 _ _ hb2 e))
    rw [z, hS1] at e
    cases e
    exact hc rfl
end
end L2
set_option Elab.async false
set_option linter.all false
set_option maxRecDepth 100000
namespace L2
open PySem PySem.Spec PySem.Calls PyProof.Rows PySem.W
section
variable {prog : Program} {w : World} {A : Around} {E : Value → Shared → Prop} {s : Shared}
theorem hint_set {r : Addr} {Q : Bool → Shared → Prop} (hT : s.TypeIs (.ref r) "set") (h : Q false s) : wpAny (model prog w) A (Builtin.List.listLengthHint (.ref r)) Q E s := by
  unfold Builtin.List.listLengthHint
  refine wpAny_bind (wpAny_specialOf hT PySem.F.slot_set_len.lookup ?_)
  generalize hid : ("set.__len__" : String) = id0
  wp_delta
  rw [show splitId id0 = some ("set", "__len__") from by subst hid; decide +kernel]
  subst hid
  refine wpAny_bind (wpAny_isInstance (T := "set") (b := true) hT (by rw [isSubtype_type]; kernel_rfl) ?_)
  refine wpAny_ite_split (fun hab => absurd hab (by decide)) (fun _ => ?_)
  refine wpAny_ite_split (fun _ => ?_) (fun hab => absurd (by decide +kernel) hab)
  exact wpAny_bind (wpAny_typeOf hT (wpAny_pure h))
theorem collect_set {a : Addr} {es : Array (Int × Value)} {ep : Nat} {t : SetTable} {R : List Value → Shared → Prop} (hh : A.handled = none) (ha : s.heap.get? a = some (setObj es ep t)) (hf : t.fits es.size = true) (ht : TabOk (ledOf w) t) (hz : es.size ≤ 1000)
    (h : ∀ h' d' vals, vals.Perm (es.toList.map (·.2)) → (∀ b o, s.heap.get? b = some o → h'.get? b = some o) → R vals { s with heap := h', drawn := d' }) : wpAny (model prog w) A (collect (.ref a)) R E s := by
  have haS : a < s.heap.objs.size := Heap.lt_size ha
  unfold collect
  refine wpAny_bind (wpAny_runValue (codeAny_builtin entry_proto_collect' ?_))
  rw [Around.under_plainId PySem.F.plain_proto_collect _]
  show wpAny _ A.in1 (newList [] >>= fun l => again (.builtin "list.__iadd__" ⟨[l, .ref a], []⟩)) _ _ s
  refine wpAny_bind (wpAny_newObj_type ?_)
  refine wpAny_pure ⟨plainId_quiet PySem.F.plain_list_iadd _, codeAny_builtin entry_list_iadd' ?_⟩
  rw [Around.under_plainId PySem.F.plain_list_iadd _]
  show wpAny _ A.in1 (Builtin.List.listExtendWith (.ref s.heap.objs.size) (.ref a) (.ref s.heap.objs.size)) _ _ _
  have hS : (s.heap.push { cls := .type "list", data := .seq ([] : List Value).toArray }).get? s.heap.objs.size = some { cls := .type "list", data := .seq #[] } := Heap.get?_push_size _ rfl
  have ha1 : (s.heap.push { cls := .type "list", data := .seq ([] : List Value).toArray }).get? a = some (setObj es ep t) := Heap.get?_push_of_some _ ha
  have old1 : ∀ b o, s.heap.get? b = some o → (s.heap.push { cls := .type "list", data := .seq ([] : List Value).toArray }).get? b = some o := fun b o e => Heap.get?_push_of_some _ e
  have sz1 : s.heap.objs.size < (s.heap.push { cls := .type "list", data := .seq ([] : List Value).toArray }).objs.size := Heap.lt_size hS
  generalize (s.heap.push { cls := .type "list", data := .seq ([] : List Value).toArray }) = h1 at *
  unfold Builtin.List.listExtendWith
  refine wpAny_bind (wpAny_typeOf (T := "set") ⟨_, ha1, rfl⟩ ?_)
  have e1 : Builtin.List.listSameRef (.ref s.heap.objs.size) (.ref a) = false := by
    have : s.heap.objs.size ≠ a := Nat.ne_of_gt haS
    simp [Builtin.List.listSameRef, this]
  rw [if_neg (by rw [e1]; decide)]
  refine wpAny_bind (iter_set (A := A.in1) (s := { s with heap := h1 }) ha1 hf ht hz fun I h2 d2 vals hI st hp old2 => ?_)
  have ha2 := old2 _ _ ha1
  have hS2 := old2 _ _ hS
  have hSI : s.heap.objs.size ≠ I := Nat.ne_of_lt (Nat.lt_of_lt_of_le sz1 hI)
  have hIa : a ≠ I := Nat.ne_of_lt (Nat.lt_of_lt_of_le (Nat.lt_trans haS sz1) hI)
  have hvz : vals.length ≤ 1000 := by
    rw [hp.length_eq, List.length_map, Array.length_toList]
    exact hz
  refine wpAny_bind (wpAny_holding (hint_set ⟨_, ha2, rfl⟩ ?_))
  refine wpAny_ite_split (fun _ => ?_) (fun _ => ?_)
  · refine wpAny_bind (wpAny_rule (wpAny_bind ?_))
    show wpAny _ _ (updateSeq s.heap.objs.size (·.push .none) >>= fun _ => updateSeq s.heap.objs.size (·.pop)) _ _ _
    refine wpAny_bind (wpAny_updateSeq hS2 rfl ?_ (by decide) (by show 1 ≤ sizeLine + 1; omega))
    obtain ⟨c3, hS3⟩ : ∃ c3, (h2.update s.heap.objs.size (Obj.mapSeq (·.push Value.none))).get? s.heap.objs.size = some (seqObj "list" (#[].push Value.none) c3) := ⟨_, get?_update_seq hS2 _⟩
    refine wpAny_updateSeq hS3 rfl ?_ (by show 1 ≤ sizeLine; rw [sizeLine_eq]; decide) (by show 0 ≤ sizeLine + 1; omega)
    obtain ⟨c4, hS4⟩ : ∃ c4, ((h2.update s.heap.objs.size (Obj.mapSeq (·.push Value.none))).update s.heap.objs.size (Obj.mapSeq (·.pop))).get? s.heap.objs.size = some (seqObj "list" ((#[].push Value.none).pop) c4) := ⟨_, get?_update_seq hS3 _⟩
    have oth : ∀ b o, b ≠ s.heap.objs.size → h2.get? b = some o → ((h2.update s.heap.objs.size (Obj.mapSeq (·.push Value.none))).update s.heap.objs.size (Obj.mapSeq (·.pop))).get? b = some o := fun b o hb e => (Heap.get?_update_other _ _ (Ne.symm hb)).trans ((Heap.get?_update_other _ _ (Ne.symm hb)).trans e)
    refine wpAny_pure ⟨plainId_quiet PySem.F.plain_extend_loop _, ext_loop hh hf ht hIa hSI hvz vals.length 0 _ c4 (by omega) (st.kept fun b o e hc => oth b o (fun z => ?_) e) hS4 fun h' c' e k => ?_⟩
    · rw [z, hS2] at e
      cases e
      exact hc rfl
    · show wpAny _ A (load s.heap.objs.size >>= _) _ _ _
      refine wpAny_bind (wpAny_load e (wpAny_pure ?_))
      refine h h' d2 vals hp fun b o q => ?_
      have hb := Heap.lt_size q
      exact k b o (Nat.ne_of_lt hb) (Nat.ne_of_lt (Nat.lt_of_lt_of_le (Nat.lt_trans hb sz1) hI)) (oth b o (Nat.ne_of_lt hb) (old2 _ _ (old1 _ _ q)))
  · refine wpAny_pure ⟨plainId_quiet PySem.F.plain_extend_loop _, ext_loop hh hf ht hIa hSI hvz vals.length 0 _ _ (by omega) st hS2 fun h' c' e k => ?_⟩
    show wpAny _ A (load s.heap.objs.size >>= _) _ _ _
    refine wpAny_bind (wpAny_load e (wpAny_pure ?_))
    refine h h' d2 vals hp fun b o q => ?_
    have hb := Heap.lt_size q
    exact k b o (Nat.ne_of_lt hb) (Nat.ne_of_lt (Nat.lt_of_lt_of_le (Nat.lt_trans hb sz1) hI)) (old2 _ _ (old1 _ _ q))
end
abbrev setH (X : Cx) (v : Addr) (σ : List Int) : HO := .ext fun h => SetAt X.prog X.w h v (ledOf X.w) σ
theorem Inv.drawn {X : Cx} {pins : List (Addr × Obj)} {σ : St} {H : Hp} {s : Shared} {h' : Heap} {d' : Drawn} (I : Inv X pins σ H s) (k : ∀ b u, s.heap.get? b = some u → h'.get? b = some u) : Inv X pins σ H { s with heap := h', drawn := d' } :=
  I.call (g' := s.gens) (t' := s.toks) (d' := d') (ch := []) (Un.kept k) (I.hok.kept k) I.bare fun _ z => nomatch z
theorem call_set_ints {X : Cx} (hc : X.calm = true) : CallR X (.type "set") (fun xs H Q => ∃ (p : Addr) (ns : List Int), xs = [.ref p] ∧ SqL X.K H p (ns.map V.int) ∧ ns.length ≤ 1000 ∧ ∀ v, H v = none → Q (.ref v) (upd H v (setH X v (dedup ns)))) := by
  intro pins s σ H xs us Q I r h
  obtain ⟨p, ns, rfl, hq, hz, q⟩ := h
  obtain ⟨u, rfl, rx⟩ := vals1 r
  cases rx
  obtain ⟨its, rv, ⟨⟨c1, d1, t1, l1⟩, n1, o1, z1, z2, z3⟩, hz1⟩ := I.list hq
  simp only at z1 z2 z3
  subst z1 z2 z3
  refine PySem.set_of_list (I.ok.hd hc) o1 (ints_are rv) (by unfold scanBound; omega) fun h' tk hS hk => ?_
  have hS' := hS
  obtain ⟨es, ep, t, e, _⟩ := hS'
  refine ⟨.ref s.heap.objs.size, _, I.laid (t' := tk) hk (Nat.le_refl _) (show ObjOk X.prog X.w _ _ _ (setH X s.heap.objs.size (dedup ns)) from ⟨hS, ⟨_, e⟩, fun h1 h2 x k => x.kept k⟩), rfl, q _ (I.hok.fresh (Nat.le_refl _))⟩
end L2
set_option Elab.async false
set_option linter.all false
set_option maxRecDepth 100000
namespace L2
open PySem PySem.Spec PyProof.Rows PySem.W
abbrev setP (P : Program) (w : World) (v : Addr) (σ : List Int) : HO := .ext fun h => SetAt P w h v (ledOf w) σ
theorem call_set_intsP {X : Cx} {P : Program} {w : World} (hc : X.calm = true) (h1 : X.prog = P := by rfl) (h2 : X.w = w := by rfl) : CallR X (.type "set") (fun xs H Q => ∃ (p : Addr) (ns : List Int), xs = [.ref p] ∧ SqL X.K H p (ns.map V.int) ∧ ns.length ≤ 1000 ∧ ∀ v, H v = none → Q (.ref v) (upd H v (setP P w v (dedup ns)))) := by
  subst h1 h2
  exact call_set_ints hc
end L2
set_option Elab.async false
set_option linter.all false
set_option maxRecDepth 100000
namespace L2
open PySem PySem.Spec PyProof.Rows PySem.W
theorem comp_run2 {X : Cx} {scope : Scope} {own : List Str} {fr : List Nat} {elt tg iter : Expr} {ifs : List Expr} {pos : Pos} {wi : TI} {g : TG} {tt : TT} {te : TE} {use : Option (Value → Sem Unit)} (hc : X.calm = true) (O : CompOk X scope fr) (hi : PI X tg iter wi)
    (hb : ∀ s H ex, PG (blk X scope own fr s H ex) tg g ∧ PTs (blk X scope own fr s H ex) ifs tt ∧ PE (blk X scope own fr s H ex) elt te)
    (hs : ∀ x, foldedSetIterable iter X.env x = pure x) {pins : List (Addr × Obj)} {s : Shared} {σ : St} {H : Hp} {Q : VK} {R : Value → Shared → Prop} (I : Inv X pins σ H s) (h : tComp own fr wi g tt te σ H Q) (hx : ∀ e s', X.xe e s' ↔ False)
    (fin : ∀ (p C : Addr) (H' : Hp) (s' : Shared) (m : Str → Option Value), s'.heap.Ns C m → H' C = none → C ≠ X.env.locals → (∀ x c, X.env.cells.lookup x = some c → c ≠ C) → X.s₀.heap.objs.size ≤ C → (∀ p ∈ X.pn ++ pins, p.1 ≠ C) → Inv X pins σ H' s' → (∀ h', Heap.SameBut C s'.heap h' → Inv X pins σ H' { s' with heap := h' }) → Q (.ref p) H' →
      compPost (model X.prog X.w) X.A X.xe use R (.ref p) C (.ok .next) s') :
    wpAny (model X.prog X.w) X.A (comprehension (.ListComp elt [⟨tg, iter, ifs, 0⟩] scope pos) scope X.env (firstIterPos [⟨tg, iter, ifs, 0⟩] pos) (newList []) false (eval iter X.env) use) R X.xe s := by
  have hsome : ∀ x ∈ scope.names, x.2 = .free → (X.env.cells.lookup x.1).isSome = true := fun x hx' e => by
    obtain ⟨c, hc⟩ := I.ok.has x.1 (O.frees x hx' e)
    rw [hc]; rfl
  have no : ∀ (E : Value → Shared → Prop) (x : Value) (s' : Shared), X.xe x s' → E x s' := fun E x s' z => ((hx x s').mp z).elim
  refine wpAny_comprehension_free (cl := clOf X.env.cells scope.names []) rfl hs (closure_cl hsome) O.kind O.loc ?_
  refine thn (hi pins s σ H _ I h) fun v s1 h1 => thn h1 fun itv s2 h2 => ?_
  obtain ⟨it, fp, tn, J, H2, e, I2, T, st2, f2, q2⟩ := h2
  subst e
  refine wpAny_newObj_type ?_
  have nw : H2 s2.heap.objs.size = none := I2.fresh
  obtain ⟨W, ⟨m0, w0⟩, turn⟩ := q2 _ nw
  generalize hp : s2.heap.objs.size = p at *
  have I3 : Inv X pins σ (upd H2 p (.lst [])) { s2 with heap := s2.heap.push { cls := .type "list", dict := none, data := .seq ([] : List Value).toArray } } := by
    have := I2.lnew (ys := []) (its := []) (t' := s2.toks) .nil (Nat.zero_le _)
    rw [hp] at this
    exact this
  have lt2 : ∀ b ∈ fp, b < s2.heap.objs.size := fun b hb => by
    obtain ⟨o, ho, _⟩ := T.obj _ _ st2 b hb
    exact Heap.lt_size ho
  have fpn : ∀ b ∈ fp, (upd H2 p (.lst [])) b = none := fun b hb => by
    rw [upd_ne (by rw [← hp]; exact Nat.ne_of_lt (lt2 b hb))]
    exact (f2 b hb).1
  generalize hs3 : ({ s2 with heap := s2.heap.push { cls := .type "list", dict := none, data := .seq ([] : List Value).toArray } } : Shared) = s3 at *
  have sz3 : s3.heap.objs.size = p + 1 := by
    rw [← hs3]
    show (s2.heap.push _).objs.size = _
    rw [Heap.size_push, hp]
  have st3 : tn 0 s3.heap := T.keep 0 _ _ st2 fun b hb o e => by
    rw [← hs3]
    exact Heap.get?_push_of_some _ e
  refine wpAny_newFunctionEnv O.nocell (by intro y hy; simp at hy) (fun h4 hns4 hsb4 => ?_) O.kind
  have k4 : ∀ b o, s3.heap.get? b = some o → h4.get? b = some o := fun b o e => hsb4.extBut b o (Nat.ne_of_lt (Heap.lt_size e)) (Heap.get?_push_of_some _ e)
  have hns4' : h4.Ns s3.heap.objs.size fun _ => none := by
    have z : (fun x : Str => ([] : List (Str × Value)).reverse.lookup x) = fun _ => none := by funext x; rfl
    rw [z] at hns4
    exact hns4
  have fo : ∀ b ∈ fp, FpOk X pins (upd H2 p (.lst [])) b ∧ b < s3.heap.objs.size := fun b hb => ⟨⟨fpn b hb, (f2 b hb).2⟩, by rw [sz3, ← hp]; exact Nat.lt_succ_of_lt (lt2 b hb)⟩
  have I4 := inv_blk (own := own) (fr := fr) (t1 := s3.toks + ([] : List (Str × Value)).length) I3 O fo hns4' k4
  have st4 : tn 0 h4 := T.keep 0 _ _ st3 fun b hb o e => k4 b o e
  obtain ⟨hg, ht, he⟩ := hb s3 (upd H2 p (.lst [])) fp
  have stat : ∀ {H' : Hp} {pn : List (Addr × Obj)} {s' : Shared} {σ' : St}, Inv (blk X scope own fr s3 (upd H2 p (.lst [])) fp) [] σ' H' s' → (∀ b ∈ fp, H' b = none) → ∀ b ∈ fp, FpOk (blk X scope own fr s3 (upd H2 p (.lst [])) fp) [] H' b := fun {H' pn s' σ'} J hn b hb' =>
    ⟨hn b hb', (J.ok.exf b hb').1, J.ok.exfs b hb', .inl hb', (J.ok.exf b hb').2, fun p hp => absurd hp (by simp [blk])⟩
  have nocells : ∀ x c, X.env.cells.lookup x = some c → c ≠ s3.heap.objs.size := fun x c e => by
    obtain ⟨v, q⟩ := I3.cell x c e
    exact Nat.ne_of_lt q.lt
  have loop : ∀ s5 : Shared, s5 = { s3 with heap := h4, toks := s3.toks + ([] : List (Str × Value)).length } →
      codeAny (model X.prog X.w) X.A (.compLoop (.ListComp elt [⟨tg, iter, ifs, 0⟩] scope pos) 0 (.ref it) (.ref p) (blk X scope own fr s3 (upd H2 p (.lst [])) fp).env) (compPost (model X.prog X.w) X.A X.xe use R (.ref p) s3.heap.objs.size) s5 := by
    rintro s5 rfl
    refine compLoop_gen (fun n s' => ∃ i σ' H', Inv (blk X scope own fr s3 (upd H2 p (.lst [])) fp) [] σ' H' s' ∧ tn i s'.heap ∧ (∀ b ∈ fp, H' b = none) ∧ W i n σ' H') ?_ m0 ⟨0, _, _, I4, st4, fpn, w0⟩
    rintro n s6 ⟨i, σ6, H6, I6, st6, fr6, w6⟩
    rcases turn i n σ6 H6 w6 with ⟨stop, qn⟩ | ⟨go, N, hN, step⟩
    · refine thn (T.done (blk X scope own fr s3 (upd H2 p (.lst [])) fp) rfl rfl rfl hc i [] s6 σ6 H6 _ I6 (stat (pn := []) I6 fr6) st6 stop) fun r s7 ⟨hr, I7⟩ => ?_
      subst hr
      obtain ⟨m, hm, _⟩ := I7.loc
      exact fin p _ H6 s7 m hm I7.free (Nat.ne_of_gt I3.lt) nocells I3.sz (fun p hp => Nat.ne_of_lt (Heap.lt_size (I3.pin p hp).1)) (blk_back I3 fo I7 (Heap.SameBut.refl ..)) (fun h' hs' => blk_back I3 fo I7 hs') qn
    · refine thn (T.item (blk X scope own fr s3 (upd H2 p (.lst [])) fp) rfl rfl rfl hc i [] s6 σ6 H6 _ I6 (stat (pn := []) I6 fr6) st6 go) fun r s7 ⟨u, hr, h7⟩ => ?_
      subst hr
      refine thn h7 fun _ s8 ⟨x, H8, I8, r8, y8, st8, fr8⟩ => ?_
      have I8' := I8.pinned (stat (pn := []) I8 fr8) (T.obj _ _ st8)
      refine thn (hg _ s8 σ6 H8 x u _ I8' r8 (step x H8 y8)) fun _ s9 ⟨σ9, H9, I9, q9⟩ => ?_
      refine thn (ht _ s9 σ9 H9 _ I9 q9) fun ok s10 ⟨H10, I10, q10⟩ => ?_
      have again : ∀ {H11 : Hp} {s11 : Shared}, Inv (blk X scope own fr s3 (upd H2 p (.lst [])) fp) ([] ++ pinsAt fp s8.heap) σ9 H11 s11 → (∃ m', m' < n ∧ W (i + 1) m' σ9 H11) →
          ∃ m, m < n ∧ ∃ i σ' H', Inv (blk X scope own fr s3 (upd H2 p (.lst [])) fp) [] σ' H' s11 ∧ tn i s11.heap ∧ (∀ b ∈ fp, H' b = none) ∧ W i m σ' H' := fun {H11 s11} I11 ⟨m', hm, w11⟩ => by
        refine ⟨m', hm, i + 1, σ9, H11, I11.unpinned, T.keep _ _ _ st8 fun b hb' o e => (I11.pin (b, o) (List.mem_append_right _ (List.mem_append_right _ (mem_pinsAt hb' e)))).1, fun b hb' => ?_, w11⟩
        obtain ⟨o, e, d⟩ := T.obj _ _ st8 b hb'
        exact (I11.pin (b, o) (List.mem_append_right _ (List.mem_append_right _ (mem_pinsAt hb' e)))).2.1
      cases ok with
      | false =>
        rw [if_neg Bool.false_ne_true] at q10 ⊢
        exact again I10 (hN _ _ q10)
      | true =>
        rw [if_pos rfl] at q10 ⊢
        refine thn (he _ s10 σ9 H10 _ I10 q10) fun yv s11 ⟨y, H11, I11, r11, ys, hys, hlen, q11⟩ => ?_
        have ap := mt_append (X := blk X scope own fr s3 (upd H2 p (.lst [])) fp) ([] ++ pinsAt fp s8.heap) s11 σ9 H11 (.ref p) [y] (.ref p) [yv] (fun _ H12 => ∃ m', m' < n ∧ W (i + 1) m' σ9 H12) I11 rfl (.cons r11 .nil) ⟨p, ys, y, rfl, rfl, hys, hlen, hN _ _ q11⟩
        exact thn ap fun _ s12 ⟨_, H12, I12, _, q12⟩ => again I12 q12
  refine codeAny_compStart_list (loop _ rfl) (T.self X.A 0 _ _ _ st4 (loop _ rfl))
theorem ps_setcomp {X : Cx} {scope : Scope} {elt tg iter : Expr} {ifs : List Expr} {pos : Pos} {wi : TI} {g : TG} {tt : TT} {te : TE} {i : Nat} {y : Str} {py spos : Pos} (hN : X.N.Nodup) (hi' : X.N[i]? = some y) (hy : Loc X.env.scope y) (own : List Str) (fr : List Nat) (hc : X.calm = true) (O : CompOk X scope fr) (hi : PI X.nox tg iter wi)
    (hb : ∀ s H ex, PG (blk X.nox scope own fr s H ex) tg g ∧ PTs (blk X.nox scope own fr s H ex) ifs tt ∧ PE (blk X.nox scope own fr s H ex) elt te)
    (hs : ∀ x, foldedSetIterable iter X.env x = pure x := by intro _; rfl)
    (hsw : swapsWith (.ListComp elt [⟨tg, iter, ifs, 0⟩] scope pos) (some (.Name y py)) spos.line X.env = pure true := by rfl)
    (hf : X.fn y = true ∨ X.env.scope.names.lookup y = some .local := by first | exact .inl rfl | exact .inr rfl | assumption) :
    PS X.nox (.Assign [.Name y py] (.ListComp elt [⟨tg, iter, ifs, 0⟩] scope pos) spos) (tAsg (tComp own fr wi g tt te) (gName i)) := by
  intro pins s σ H D I h
  rw [exec_Assign_Name_used _ _ _ _ hsw]
  refine wpAny_bind (wpAny_standAt (wpAny_bind ?_))
  show wpAny _ _ (do let _ ← comprehension (.ListComp elt [⟨tg, iter, ifs, 0⟩] scope pos) scope X.nox.env _ (newList []) false (eval iter X.nox.env) (some (assign (.Name y py) X.nox.env))) _ _ s
  refine wpAny_bind (wpAny_mono (comp_run2 (X := X.nox) (use := some (assign (.Name y py) X.nox.env)) (R := fun _ s' => SP X.nox pins D .next s') hc ⟨O.kind, O.nocell, O.loc, O.frees, O.fr⟩ hi hb hs I h (fun _ _ => Iff.rfl)
    fun p C H' s' m hm hC hL hcs hz hpn I' back q => ?_) (fun _ s' hq => wpAny_pure (wpAny_pure hq)) fun _ _ e => e)
  show wpAny _ _ (assign (.Name y py) X.nox.env (.ref p)) _ _ _
  refine wpAny_assign_Name (store_ok2 (v := .ref p) I' hN hi' hy rfl (fun s2 I2 hsb => ?_) hf)
  obtain ⟨a, hsa, ha⟩ := hsb
  have hCa : C ≠ a := by
    rcases ha with rfl | e
    · exact hL
    · exact fun z => hcs _ _ e z.symm
  refine ⟨m, hm.sameBut hsa hCa, fun h' hs' => ?_⟩
  exact ⟨_, H', I2.turned (t' := s2.toks) (fun b o hb e => (hs'.2 b hb).trans e) hC hL (.inr hz) hcs hpn, q⟩
end L2
set_option Elab.async false
set_option linter.all false
set_option maxRecDepth 100000
namespace Tim
open PySem PyProof.Rows
def gallop' : Bool → Keyed → Array Keyed → Nat → Nat → Nat → StateT SortSt Sem (Option Nat) := sortPriv% PySem.Builtin.gallop
def setMinGallop' : Nat → StateT SortSt Sem Unit := sortPriv% PySem.Builtin.setMinGallop
def beyond' (left : Bool) (key : Keyed) (arr : Array Keyed) (base : Nat) (i : Nat) : StateT SortSt Sem (Option Bool) := do
  let x ← elem' arr (base + i)
  if left then lt' x key else return (← lt' key x).map (!·)
abbrev GT : Type := Option (Option Nat) × Nat × Nat
def gtail (left : Bool) (key : Keyed) (arr : Array Keyed) (base n lo hi : Nat) : StateT SortSt Sem (Option Nat) := do
  let r ← forIn [0:n] ((none, lo, hi) : GT) fun _ c =>
    if c.2.1 ≥ c.2.2 then pure (.done (none, c.2.1, c.2.2)) else do
      match ← beyond' left key arr base (c.2.1 + (c.2.2 - c.2.1) / 2) with
      | some yes => if yes = true then pure (.yield (none, c.2.1 + (c.2.2 - c.2.1) / 2 + 1, c.2.2)) else pure (.yield (none, c.2.1, c.2.1 + (c.2.2 - c.2.1) / 2))
      | _ => pure (.done (some none, c.2.1, c.2.2))
  match r.1 with
  | some r => pure r
  | none => pure (some r.2.2)
def gup (left : Bool) (key : Keyed) (arr : Array Keyed) (base n hint : Nat) : StateT SortSt Sem (Option Nat) := do
  let r ← forIn [0:n] ((none, 0, 1) : GT) fun _ c =>
    if c.2.2 ≥ n - hint then pure (.done (none, c.2.1, c.2.2)) else do
      match ← beyond' left key arr base (hint + c.2.2) with
      | some yes => if (!yes) = true then pure (.done (none, c.2.1, c.2.2)) else pure (.yield (none, c.2.2, 2 * c.2.2 + 1))
      | _ => pure (.done (some none, c.2.1, c.2.2))
  match r.1 with
  | some r => pure r
  | none => gtail left key arr base n (hint + r.2.1 + 1) (hint + min r.2.2 (n - hint))
def gdown (left : Bool) (key : Keyed) (arr : Array Keyed) (base n hint : Nat) : StateT SortSt Sem (Option Nat) := do
  let r ← forIn [0:n] ((none, 0, 1) : GT) fun _ c =>
    if c.2.2 ≥ hint + 1 then pure (.done (none, c.2.1, c.2.2)) else do
      match ← beyond' left key arr base (hint - c.2.2) with
      | some yes => if yes = true then pure (.done (none, c.2.1, c.2.2)) else pure (.yield (none, c.2.2, 2 * c.2.2 + 1))
      | _ => pure (.done (some none, c.2.1, c.2.2))
  match r.1 with
  | some r => pure r
  | none => gtail left key arr base n (hint + 1 - min r.2.2 (hint + 1)) (hint - r.2.1)
theorem gallop'_eq (left : Bool) (key : Keyed) (arr : Array Keyed) (base n hint : Nat) : gallop' left key arr base n hint = (beyond' left key arr base hint >>= fun o => match o with
    | some right => if right = true then gup left key arr base n hint else gdown left key arr base n hint
    | _ => pure none) := by
  have e0 : gallop' left key arr base n hint = (beyond' left key arr base hint >>= (_ : Option Bool → StateT SortSt Sem (Option Nat))) := rfl
  rw [e0]
  congr 1
  funext o
  cases o with
  | none => rfl
  | some right =>
    dsimp only
    congr 1
    · unfold gup
      congr 1
      funext c
      obtain ⟨c1, c2, c3⟩ := c
      cases c1 with
      | some r => rfl
      | none =>
        dsimp only
        unfold gtail
        congr 1
        funext d
        obtain ⟨d1, d2, d3⟩ := d
        cases d1 <;> rfl
    · unfold gdown
      congr 1
      funext c
      obtain ⟨c1, c2, c3⟩ := c
      cases c1 with
      | some r => rfl
      | none =>
        dsimp only
        unfold gtail
        congr 1
        funext d
        obtain ⟨d1, d2, d3⟩ := d
        cases d1 <;> rfl
section
variable {prog : Program} {w : World} {A : Around} {E : Value → Shared → Prop} {s : Shared} {κ : KeyKind}
def kq (κ : KeyKind) (p : Keyed) : κ.α := (κ.keyOf p.1).getD κ.dflt
def HasKey (κ : KeyKind) (p : Keyed) : Prop := ∃ a, κ.keyOf p.1 = some a
theorem wpS_lt {st : SortSt} {x y : Keyed} {Q : Option Bool → SortSt → Prop} (hO : κ.OneLt) (hk : kindOf st = oneType') (hx : HasKey κ x) (hy : HasKey κ y) (h : Q (some (κ.blt (kq κ x) (kq κ y))) st) : wpS (model prog w) A E s (lt' x y) Q st := by
  obtain ⟨a, ha⟩ := hx
  obtain ⟨b, hb⟩ := hy
  rw [lt'_eq]
  refine wpS_bind (wpS_get ?_)
  rw [hk, keyLt'_oneType]
  have e1 : kq κ x = a := by unfold kq; rw [ha]; rfl
  have e2 : kq κ y = b := by unfold kq; rw [hb]; rfl
  rw [e1, e2] at h
  refine wpS_bind (wpS_lift (wpAny_attempt (hO prog w A _ s x.1 y.1 a b ha hb ⟨rfl, ?_⟩)))
  exact wpS_pure h
def bey (κ : KeyKind) (left : Bool) (key x : Keyed) : Bool := if left then κ.blt (kq κ x) (kq κ key) else !(κ.blt (kq κ key) (kq κ x))
theorem wpS_beyond {st : SortSt} {left : Bool} {key : Keyed} {arr : Array Keyed} {base i : Nat} {Q : Option Bool → SortSt → Prop} (hO : κ.OneLt) (hk : kindOf st = oneType') (hx : HasKey κ key) (hi : base + i < arr.size) (hy : HasKey κ arr[base + i])
    (h : Q (some (bey κ left key arr[base + i])) st) : wpS (model prog w) A E s (beyond' left key arr base i) Q st := by
  unfold beyond'
  rw [elem'_eq, getElem?_pos arr (base + i) hi]
  refine wpS_bind (wpS_pure ?_)
  cases left with
  | true =>
    simp only [if_true]
    exact wpS_lt hO hk hy hx h
  | false =>
    simp only [Bool.false_eq_true, if_false]
    refine wpS_bind (wpS_lt hO hk hx hy ?_)
    exact wpS_pure h
def Turn (b : Nat → Bool) (n k : Nat) : Prop := k ≤ n ∧ (∀ i, i < k → b i = true) ∧ ∀ i, k ≤ i → i < n → b i = false
theorem wpS_gallop {st : SortSt} {left : Bool} {key : Keyed} {arr : Array Keyed} {base n hint : Nat} {Q : Option Nat → SortSt → Prop} (hO : κ.OneLt) (hk : kindOf st = oneType') (hx : HasKey κ key) (hn : base + n ≤ arr.size) (hh : hint < n) (hy : ∀ i (h : i < arr.size), HasKey κ arr[i])
    (b : Nat → Bool) (hb : ∀ i (h : base + i < arr.size), i < n → b i = bey κ left key arr[base + i]) (mono : ∀ i j, i ≤ j → j < n → b j = true → b i = true) (h : ∀ k, Turn b n k → Q (some k) st) : wpS (model prog w) A E s (gallop' left key arr base n hint) Q st := by
  have ask : ∀ {Q : Option Bool → SortSt → Prop} (i : Nat), i < n → Q (some (b i)) st → wpS (model prog w) A E s (beyond' left key arr base i) Q st := fun {Q} i hi q =>
    wpS_beyond hO hk hx (by omega) (hy _ (by omega)) (by rw [← hb i (by omega) hi]; exact q)
  have fin3 : ∀ (lo hi : Nat), lo ≤ hi → hi ≤ n → (∀ i, i < lo → b i = true) → (∀ i, hi ≤ i → i < n → b i = false) →
      wpS (model prog w) A E s (gtail left key arr base n lo hi) Q st := by
    intro lo hi h1 h2 h3 h4
    unfold gtail
    refine wpS_bind (wpS_mono (wpS_forRange (I := fun x c st' => st' = st ∧ ∃ l r, c = (none, l, r) ∧ l ≤ r ∧ r ≤ n ∧ r - l ≤ n - x ∧ (∀ i, i < l → b i = true) ∧ (∀ i, r ≤ i → i < n → b i = false))
      (Q := fun c st' => st' = st ∧ ∃ r, c = (none, r, r) ∧ Turn b n r) ?step ?fin ⟨rfl, lo, hi, rfl, h1, h2, by omega, h3, h4⟩) ?post)
    case fin =>
      rintro c st' ⟨rfl, l, r, rfl, g1, g2, g3, g4, g5⟩
      have : l = r := by omega
      subst this
      exact ⟨rfl, l, rfl, g2, g4, g5⟩
    case step =>
      rintro x c st' _ hxn ⟨rfl, l, r, rfl, g1, g2, g3, g4, g5⟩
      dsimp only
      by_cases hge : l ≥ r
      · rw [if_pos hge]
        have : l = r := by omega
        subst this
        exact wpS_pure ⟨rfl, l, rfl, g2, g4, g5⟩
      · rw [if_neg hge]
        refine wpS_bind (ask (l + (r - l) / 2) (by omega) ?_)
        dsimp only
        cases hbo : b (l + (r - l) / 2) with
        | true =>
          simp only [if_true]
          exact wpS_pure ⟨rfl, _, _, rfl, by omega, g2, by omega, fun i hi => mono i _ (by omega) (by omega) hbo, g5⟩
        | false =>
          simp only [Bool.false_eq_true, if_false]
          refine wpS_pure ⟨rfl, _, _, rfl, by omega, by omega, by omega, g4, fun i hi hin => ?_⟩
          cases e : b i with
          | false => rfl
          | true =>
            have := mono (l + (r - l) / 2) i hi hin e
            rw [hbo] at this
            cases this
    case post =>
      rintro c st' ⟨rfl, r, rfl, g⟩
      exact wpS_pure (h r g)
  rw [gallop'_eq]
  refine wpS_bind (ask hint hh ?_)
  dsimp only
  cases hbh : b hint with
  | true =>
    simp only [if_true]
    unfold gup
    refine wpS_bind (wpS_mono (wpS_forRange (I := fun x c st' => st' = st ∧ ∃ l o, c = (none, l, o) ∧ l < o ∧ x + 1 ≤ o ∧ hint + l < n ∧ b (hint + l) = true)
      (Q := fun c st' => st' = st ∧ ∃ l o, c = (none, l, o) ∧ l < o ∧ hint + l < n ∧ b (hint + l) = true ∧ (n ≤ hint + o ∨ b (hint + o) = false)) ?step ?fin ⟨rfl, 0, 1, rfl, by omega, by omega, by omega, hbh⟩) ?post)
    case fin =>
      rintro c st' ⟨rfl, l, o, rfl, h1, h2, h3, h4⟩
      exact ⟨rfl, l, o, rfl, h1, h3, h4, .inl (by omega)⟩
    case step =>
      rintro x c st' _ hxn ⟨rfl, l, o, rfl, h1, h2, h3, h4⟩
      dsimp only
      by_cases hge : o ≥ n - hint
      · rw [if_pos hge]
        exact wpS_pure ⟨rfl, l, o, rfl, h1, h3, h4, .inl (by omega)⟩
      · rw [if_neg hge]
        refine wpS_bind (ask (hint + o) (by omega) ?_)
        dsimp only
        cases hbo : b (hint + o) with
        | true =>
          simp only [Bool.not_true, Bool.false_eq_true, if_false]
          exact wpS_pure ⟨rfl, o, 2 * o + 1, rfl, by omega, by omega, by omega, hbo⟩
        | false =>
          simp only [Bool.not_false, if_true]
          exact wpS_pure ⟨rfl, l, o, rfl, h1, h3, h4, .inr hbo⟩
    case post =>
      rintro c st' ⟨rfl, l, o, rfl, h1, h3, h4, h5⟩
      dsimp only
      refine fin3 (hint + l + 1) (hint + min o (n - hint)) (by omega) (by omega) (fun i hi => mono i (hint + l) (by omega) (by omega) h4) (fun i hi hin => ?_)
      rcases h5 with h5 | h5
      · omega
      · cases e : b i with
        | false => rfl
        | true =>
          have := mono (hint + o) i (by omega) hin e
          rw [h5] at this
          cases this
  | false =>
    simp only [Bool.false_eq_true, if_false]
    unfold gdown
    refine wpS_bind (wpS_mono (wpS_forRange (I := fun x c st' => st' = st ∧ ∃ l o, c = (none, l, o) ∧ l < o ∧ x + 1 ≤ o ∧ l ≤ hint ∧ b (hint - l) = false)
      (Q := fun c st' => st' = st ∧ ∃ l o, c = (none, l, o) ∧ l < o ∧ l ≤ hint ∧ b (hint - l) = false ∧ (hint < o ∨ b (hint - o) = true)) ?step ?fin ⟨rfl, 0, 1, rfl, by omega, by omega, by omega, hbh⟩) ?post)
    case fin =>
      rintro c st' ⟨rfl, l, o, rfl, h1, h2, h3, h4⟩
      exact ⟨rfl, l, o, rfl, h1, h3, h4, .inl (by omega)⟩
    case step =>
      rintro x c st' _ hxn ⟨rfl, l, o, rfl, h1, h2, h3, h4⟩
      dsimp only
      by_cases hge : o ≥ hint + 1
      · rw [if_pos hge]
        exact wpS_pure ⟨rfl, l, o, rfl, h1, h3, h4, .inl (by omega)⟩
      · rw [if_neg hge]
        refine wpS_bind (ask (hint - o) (by omega) ?_)
        dsimp only
        cases hbo : b (hint - o) with
        | true =>
          simp only [if_true]
          exact wpS_pure ⟨rfl, l, o, rfl, h1, h3, h4, .inr hbo⟩
        | false =>
          simp only [Bool.false_eq_true, if_false]
          exact wpS_pure ⟨rfl, o, 2 * o + 1, rfl, by omega, by omega, by omega, hbo⟩
    case post =>
      rintro c st' ⟨rfl, l, o, rfl, h1, h3, h4, h5⟩
      dsimp only
      refine fin3 (hint + 1 - min o (hint + 1)) (hint - l) (by omega) (by omega) (fun i hi => ?_) (fun i hi hin => ?_)
      · rcases h5 with h5 | h5
        · omega
        · exact mono i (hint - o) (by omega) (by omega) h5
      · cases e : b i with
        | false => rfl
        | true =>
          have := mono (hint - l) i (by omega) hin e
          rw [h4] at this
          cases this
end
end Tim
set_option Elab.async false
set_option linter.all false
set_option maxRecDepth 100000
namespace Tim
open PySem PyProof.Rows
def mergeLo' : Array Keyed → Array Keyed → StateT SortSt Sem (Array Keyed) := sortPriv% PySem.Builtin.mergeLo
def mergeHi' : Array Keyed → Array Keyed → StateT SortSt Sem (Array Keyed) := sortPriv% PySem.Builtin.mergeHi
abbrev setG (st : SortSt) (g : Nat) : SortSt := SortSt.mk' (kindOf st) (arrOf st) (pendingOf st) g (failedOf st)
theorem setMinGallop'_eq (g : Nat) : setMinGallop' g = modify fun s => setG s g := rfl
abbrev SL (κ : KeyKind) (l : List Keyed) : Prop := l.Pairwise fun p q => κ.kle (kq κ p) (kq κ q)
abbrev Le (κ : KeyKind) (p q : Keyed) : Prop := κ.kle (kq κ p) (kq κ q)
section
variable {κ : KeyKind} {A B L : List Keyed} {ia ib : Nat}
structure LoI (κ : KeyKind) (A B L : List Keyed) (ia ib : Nat) : Prop where
  perm : L.Perm (A.take ia ++ B.take ib)
  srt : SL κ L
  ba : ∀ x ∈ L, ∀ y ∈ A.drop ia, Le κ x y
  bb : ∀ x ∈ L, ∀ y ∈ B.drop ib, Le κ x y
theorem drop_cons' {l : List Keyed} {i : Nat} (h : i < l.length) : l.drop i = l[i] :: l.drop (i + 1) := List.drop_eq_getElem_cons h
theorem LoI.pushA (I : LoI κ A B L ia ib) (sa : SL κ A) (hi : ia < A.length) (h : ∀ y ∈ B.drop ib, Le κ A[ia] y) : LoI κ A B (L ++ [A[ia]]) (ia + 1) ib := by
  have hm : A[ia] ∈ A.drop ia := by rw [drop_cons' hi]; exact List.mem_cons_self
  refine ⟨?_, ?_, fun x hx y hy => ?_, fun x hx y hy => ?_⟩
  · rw [List.take_succ, List.getElem?_eq_getElem hi]
    refine (I.perm.append_right _).trans ?_
    show (A.take ia ++ B.take ib ++ [A[ia]]).Perm (A.take ia ++ [A[ia]] ++ B.take ib)
    rw [List.append_assoc, List.append_assoc]
    exact List.perm_append_comm.append_left _
  · exact List.pairwise_append.mpr ⟨I.srt, List.pairwise_singleton _ _, fun x hx y hy => by
      cases List.mem_singleton.mp hy
      exact I.ba x hx _ hm⟩
  · rcases List.mem_append.mp hx with hx | hx
    · exact I.ba x hx y (by rw [drop_cons' hi]; exact List.mem_cons_of_mem _ hy)
    · cases List.mem_singleton.mp hx
      have := sa.drop (i := ia)
      rw [drop_cons' hi] at this
      exact (List.pairwise_cons.mp this).1 y hy
  · rcases List.mem_append.mp hx with hx | hx
    · exact I.bb x hx y hy
    · cases List.mem_singleton.mp hx
      exact h y hy
theorem LoI.swap (I : LoI κ A B L ia ib) : LoI κ B A L ib ia := ⟨I.perm.trans List.perm_append_comm, I.srt, I.bb, I.ba⟩
theorem LoI.pushB (I : LoI κ A B L ia ib) (sb : SL κ B) (hi : ib < B.length) (h : ∀ y ∈ A.drop ia, Le κ B[ib] y) : LoI κ A B (L ++ [B[ib]]) ia (ib + 1) := (I.swap.pushA sb hi h).swap
theorem LoI.runA (I : LoI κ A B L ia ib) (sa : SL κ A) : ∀ k, ia + k ≤ A.length → (∀ i (h : i < A.length), ia ≤ i → i < ia + k → ∀ y ∈ B.drop ib, Le κ A[i] y) → LoI κ A B (L ++ (A.drop ia).take k) (ia + k) ib
  | 0, _, _ => by
    rw [List.take_zero, List.append_nil]
    exact I
  | k + 1, hk, h => by
    have ih := LoI.runA I sa k (by omega) fun i hi h1 h2 => h i hi h1 (by omega)
    have hi : ia + k < A.length := by omega
    have := ih.pushA sa hi (h _ hi (by omega) (by omega))
    rw [List.append_assoc] at this
    rw [List.take_succ, List.getElem?_drop, List.getElem?_eq_getElem hi]
    exact this
theorem LoI.runB (I : LoI κ A B L ia ib) (sb : SL κ B) (k : Nat) (hk : ib + k ≤ B.length) (h : ∀ i (h : i < B.length), ib ≤ i → i < ib + k → ∀ y ∈ A.drop ia, Le κ B[i] y) : LoI κ A B (L ++ (B.drop ib).take k) ia (ib + k) := (I.swap.runA sb k hk h).swap
def MGood (κ : KeyKind) (A B M : List Keyed) : Prop := M.Perm (A ++ B) ∧ SL κ M
theorem LoI.done (I : LoI κ A B L ia ib) (sa : SL κ A) (sb : SL κ B) (h : ∀ x ∈ A.drop ia, ∀ y ∈ B.drop ib, Le κ x y) : MGood κ A B (L ++ A.drop ia ++ B.drop ib) := by
  refine ⟨?_, ?_⟩
  · have e1 := List.take_append_drop ia A
    have e2 := List.take_append_drop ib B
    have h1 : (L ++ A.drop ia ++ B.drop ib).Perm ((A.take ia ++ B.take ib) ++ (A.drop ia ++ B.drop ib)) := by
      rw [List.append_assoc]
      exact I.perm.append_right _
    refine h1.trans ?_
    have h2 : ((A.take ia ++ B.take ib) ++ (A.drop ia ++ B.drop ib)).Perm ((A.take ia ++ A.drop ia) ++ (B.take ib ++ B.drop ib)) := by
      rw [List.append_assoc, List.append_assoc]
      refine List.Perm.append_left _ ?_
      rw [← List.append_assoc, ← List.append_assoc]
      exact List.perm_append_comm.append_right _
    rw [e1, e2] at h2
    exact h2
  · refine List.pairwise_append.mpr ⟨List.pairwise_append.mpr ⟨I.srt, sa.drop, I.ba⟩, sb.drop, fun x hx y hy => ?_⟩
    rcases List.mem_append.mp hx with hx | hx
    · exact I.bb x hx y hy
    · exact h x hx y hy
theorem LoI.last (I : LoI κ A B L ia ib) (sa : SL κ A) (sb : SL κ B) (h : ∀ x ∈ B.drop ib, ∀ y ∈ A.drop ia, Le κ x y) : MGood κ A B (L ++ B.drop ib ++ A.drop ia) := by
  obtain ⟨h1, h2⟩ := I.swap.done sb sa h
  exact ⟨h1.trans List.perm_append_comm, h2⟩
end
theorem ext_list {a : Array Keyed} {i j : Nat} : (a.extract i j).toList = (a.toList.drop i).take (j - i) := by
  simp
theorem ext_all {a : Array Keyed} {i : Nat} : (a.extract i a.size).toList = a.toList.drop i := by
  rw [ext_list, List.take_of_length_le (by rw [List.length_drop]; simp)]
abbrev LoT : Type := Option (Array Keyed) × Array Keyed × Nat × Nat × Nat × Nat × Nat
abbrev doneLo (a b out : Array Keyed) (ia ib : Nat) : Array Keyed := out ++ a.extract ia a.size ++ b.extract ib b.size
abbrev lastLo (a b out : Array Keyed) (ia ib : Nat) : Array Keyed := out ++ b.extract ib b.size ++ a.extract ia a.size
def loEnd (a b out : Array Keyed) (ia ib mg ac bc : Nat) : StateT SortSt Sem (ForInStep LoT) := do
  let x ← elem' a ia
  if ia + 1 + 1 == a.size then return .done (some (lastLo a b (out.push x) (ia + 1) ib), out.push x, ia + 1, ib, mg, ac, bc)
  else if (decide (ac < 7) && decide (bc < 7)) = true then return .done (none, out.push x, ia + 1, ib, mg, ac, bc)
  else return .yield (none, out.push x, ia + 1, ib, mg, ac, bc)
def loMid2 (a b out : Array Keyed) (ia ib mg ac k : Nat) : StateT SortSt Sem (ForInStep LoT) :=
  if k > 0 then
    if ib + k == b.size then return .done (some (doneLo a b (out ++ b.extract ib (ib + k)) ia (ib + k)), out ++ b.extract ib (ib + k), ia, ib + k, mg, ac, k)
    else loEnd a b (out ++ b.extract ib (ib + k)) ia (ib + k) mg ac k
  else loEnd a b out ia ib mg ac k
def loMid1 (a b out : Array Keyed) (ia ib mg ac bc : Nat) : StateT SortSt Sem (ForInStep LoT) := do
  let y ← elem' b ib
  if ib + 1 == b.size then return .done (some (doneLo a b (out.push y) ia (ib + 1)), out.push y, ia, ib + 1, mg, ac, bc)
  else do
    let x ← elem' a ia
    let r ← gallop' true x b (ib + 1) (b.size - (ib + 1)) 0
    match r with
    | some k => loMid2 a b (out.push y) ia (ib + 1) mg ac k
    | _ => return .done (some (doneLo a b (out.push y) ia (ib + 1)), out.push y, ia, ib + 1, mg, ac, bc)
def loGal (a b out : Array Keyed) (ia ib mg ac bc : Nat) : StateT SortSt Sem (ForInStep LoT) := do
  setMinGallop' mg
  let y ← elem' b ib
  let r ← gallop' false y a ia (a.size - ia) 0
  match r with
  | some k =>
    if k > 0 then
      if ia + k + 1 == a.size then return .done (some (lastLo a b (out ++ a.extract ia (ia + k)) (ia + k) ib), out ++ a.extract ia (ia + k), ia + k, ib, mg, k, bc)
      else if ia + k == a.size then return .done (some (doneLo a b (out ++ a.extract ia (ia + k)) (ia + k) ib), out ++ a.extract ia (ia + k), ia + k, ib, mg, k, bc)
      else loMid1 a b (out ++ a.extract ia (ia + k)) (ia + k) ib mg k bc
    else loMid1 a b out ia ib mg k bc
  | _ => return .done (some (doneLo a b out ia ib), out, ia, ib, mg, ac, bc)
abbrev LoT1 : Type := Option (Array Keyed) × Array Keyed × Nat × Nat × Nat × Nat
def loOne (a b : Array Keyed) (mg : Nat) (c : LoT1) : StateT SortSt Sem (ForInStep LoT1) := do
  let y ← elem' b c.2.2.2.1
  let x ← elem' a c.2.2.1
  let r ← lt' y x
  match r with
  | some bWins =>
    if bWins = true then do
      let y ← elem' b c.2.2.2.1
      if c.2.2.2.1 + 1 == b.size then return .done (some (doneLo a b (c.2.1.push y) c.2.2.1 (c.2.2.2.1 + 1)), c.2.1.push y, c.2.2.1, c.2.2.2.1 + 1, 0, c.2.2.2.2.2 + 1)
      else if c.2.2.2.2.2 + 1 ≥ mg then return .done (none, c.2.1.push y, c.2.2.1, c.2.2.2.1 + 1, 0, c.2.2.2.2.2 + 1)
      else return .yield (none, c.2.1.push y, c.2.2.1, c.2.2.2.1 + 1, 0, c.2.2.2.2.2 + 1)
    else do
      let x ← elem' a c.2.2.1
      if c.2.2.1 + 1 + 1 == a.size then return .done (some (lastLo a b (c.2.1.push x) (c.2.2.1 + 1) c.2.2.2.1), c.2.1.push x, c.2.2.1 + 1, c.2.2.2.1, c.2.2.2.2.1 + 1, 0)
      else if c.2.2.2.2.1 + 1 ≥ mg then return .done (none, c.2.1.push x, c.2.2.1 + 1, c.2.2.2.1, c.2.2.2.2.1 + 1, 0)
      else return .yield (none, c.2.1.push x, c.2.2.1 + 1, c.2.2.2.1, c.2.2.2.2.1 + 1, 0)
  | _ => return .done (some (doneLo a b c.2.1 c.2.2.1 c.2.2.2.1), c.2.1, c.2.2.1, c.2.2.2.1, c.2.2.2.2.1, c.2.2.2.2.2)
abbrev LoT0 : Type := Option (Array Keyed) × Array Keyed × Nat × Nat × Nat
def loTurn (a b : Array Keyed) (c : LoT0) : StateT SortSt Sem (ForInStep LoT0) := do
  let d ← forIn [0:a.size + b.size] ((none, c.2.1, c.2.2.1, c.2.2.2.1, 0, 0) : LoT1) fun _ d => loOne a b c.2.2.2.2 d
  match d.1 with
  | some r => return .done (some r, d.2.1, d.2.2.1, d.2.2.2.1, c.2.2.2.2)
  | none => do
    rule "list.sort.gallop"
    let e ← forIn [0:a.size + b.size] ((none, d.2.1, d.2.2.1, d.2.2.2.1, c.2.2.2.2 + 1, d.2.2.2.2.1, d.2.2.2.2.2) : LoT) fun _ e =>
      if e.2.2.2.2.1 > 1 then loGal a b e.2.1 e.2.2.1 e.2.2.2.1 (e.2.2.2.2.1 - 1) e.2.2.2.2.2.1 e.2.2.2.2.2.2
      else loGal a b e.2.1 e.2.2.1 e.2.2.2.1 e.2.2.2.2.1 e.2.2.2.2.2.1 e.2.2.2.2.2.2
    match e.1 with
    | some r => return .done (some r, e.2.1, e.2.2.1, e.2.2.2.1, e.2.2.2.2.1)
    | none => do
      setMinGallop' (e.2.2.2.2.1 + 1)
      return .yield (none, e.2.1, e.2.2.1, e.2.2.2.1, e.2.2.2.2.1 + 1)
set_option maxHeartbeats 4000000 in
theorem mergeLo'_eq (a b : Array Keyed) : mergeLo' a b = (do
  rule "list.sort.merge-lo"
  let y ← elem' b 0
  if 1 == b.size then return doneLo a b #[y] 0 1
  else if 0 + 1 == a.size then return lastLo a b #[y] 0 1
  else do
    let s ← get
    let c ← forIn [0:a.size + b.size] ((none, #[y], 0, 1, gallopOf s) : LoT0) fun _ c => loTurn a b c
    match c.1 with
    | some r => pure r
    | none => unsupported "internal:list.sort.merge-bound") := by
  have e0 : mergeLo' a b = ((_ : StateT SortSt Sem Unit) >>= (_ : Unit → StateT SortSt Sem (Array Keyed))) := rfl
  rw [e0]
  congr 1; funext u
  dsimp only
  congr 1; funext y
  congr 1
  congr 1
  congr 1; funext s
  congr 1
  rotate_left
  · funext c
    obtain ⟨c1, c2, c3, c4, c5⟩ := c
    cases c1 <;> rfl
  congr 1
  funext x c
  unfold loTurn
  congr 1
  funext d
  obtain ⟨d1, d2, d3, d4, d5, d6⟩ := d
  cases d1 with
  | some r => rfl
  | none =>
    dsimp only
    congr 1; funext _
    congr 1
    funext e
    obtain ⟨e1, e2, e3, e4, e5, e6, e7⟩ := e
    cases e1 <;> rfl
section
variable {prog : Program} {w : World} {A : Around} {E : Value → Shared → Prop} {s : Shared} {κ : KeyKind} {a b : Array Keyed}
theorem mem_drop {l : Array Keyed} {i : Nat} {y : Keyed} (h : y ∈ l.toList.drop i) : ∃ j, ∃ h : j < l.size, i ≤ j ∧ y = l[j] := by
  obtain ⟨n, hn, rfl⟩ := List.mem_iff_getElem.mp h
  rw [List.length_drop] at hn
  refine ⟨i + n, by simp at hn; omega, by omega, ?_⟩
  rw [List.getElem_drop, Array.getElem_toList]
theorem sl_le {l : Array Keyed} (h : SL κ l.toList) {i j : Nat} (hi : i < l.size) (hj : j < l.size) (hij : i ≤ j) : Le κ l[i] l[j] := by
  rcases Nat.lt_or_ge i j with k | k
  · have := List.pairwise_iff_getElem.mp h i j (by simpa using hi) (by simpa using hj) k
    rw [Array.getElem_toList, Array.getElem_toList] at this
    exact this
  · have : i = j := by omega
    subst this
    exact KeyOrd.kle_refl _
structure MC (κ : KeyKind) (a b : Array Keyed) : Prop where
  ka : ∀ i (h : i < a.size), HasKey κ a[i]
  kb : ∀ i (h : i < b.size), HasKey κ b[i]
  sa : SL κ a.toList
  sb : SL κ b.toList
  last : ∀ j (h : j < b.size) (h' : a.size - 1 < a.size), Le κ b[j] a[a.size - 1]
structure Alive (κ : KeyKind) (a b : Array Keyed) (N : Nat) (out : Array Keyed) (ia ib : Nat) : Prop where
  inv : LoI κ a.toList b.toList out.toList ia ib
  la : ia + 1 < a.size
  lb : ib < b.size
  many : N ≤ ia + ib
def PL (κ : KeyKind) (a b : Array Keyed) (st : SortSt) (N : Nat) (r : ForInStep LoT) (st' : SortSt) : Prop := (∃ g, st' = setG st g) ∧ match r with
  | .done c => (match c.1 with | some m => MGood κ a.toList b.toList m.toList | none => Alive κ a b N c.2.1 c.2.2.1 c.2.2.2.1)
  | .yield c => c.1 = none ∧ Alive κ a b N c.2.1 c.2.2.1 c.2.2.2.1
theorem done_list {out : Array Keyed} {ia ib : Nat} : (doneLo a b out ia ib).toList = out.toList ++ a.toList.drop ia ++ b.toList.drop ib := by
  unfold doneLo
  rw [Array.toList_append, Array.toList_append, ext_all, ext_all]
theorem last_list {out : Array Keyed} {ia ib : Nat} : (lastLo a b out ia ib).toList = out.toList ++ b.toList.drop ib ++ a.toList.drop ia := by
  unfold lastLo
  rw [Array.toList_append, Array.toList_append, ext_all, ext_all]
theorem MC.fin {out : Array Keyed} {ia ib : Nat} (C : MC κ a b) (I : LoI κ a.toList b.toList out.toList ia ib) (h : ia = a.size ∨ ib = b.size) : MGood κ a.toList b.toList (doneLo a b out ia ib).toList := by
  rw [done_list]
  refine I.done C.sa C.sb fun x hx y hy => ?_
  rcases h with rfl | rfl
  · rw [List.drop_eq_nil_of_le (by simp)] at hx; cases hx
  · rw [List.drop_eq_nil_of_le (by simp)] at hy; cases hy
theorem MC.fin2 {out : Array Keyed} {ia ib : Nat} (C : MC κ a b) (I : LoI κ a.toList b.toList out.toList ia ib) (h : ia + 1 = a.size) : MGood κ a.toList b.toList (lastLo a b out ia ib).toList := by
  rw [last_list]
  refine I.last C.sa C.sb fun x hx y hy => ?_
  obtain ⟨j, hj, _, rfl⟩ := mem_drop hx
  obtain ⟨i, hi, h1, rfl⟩ := mem_drop hy
  have : i = a.size - 1 := by omega
  subst this
  exact C.last j hj hi
theorem push_toList {out : Array Keyed} {x : Keyed} : (out.push x).toList = out.toList ++ [x] := by simp
theorem MC.pushA {out : Array Keyed} {ia ib : Nat} (C : MC κ a b) (I : LoI κ a.toList b.toList out.toList ia ib) (hi : ia < a.size) (h : ∀ j (hj : j < b.size), ib ≤ j → Le κ a[ia] b[j]) : LoI κ a.toList b.toList (out.push a[ia]).toList (ia + 1) ib := by
  have := I.pushA C.sa (by simpa using hi) fun y hy => by
    obtain ⟨j, hj, h1, rfl⟩ := mem_drop hy
    rw [Array.getElem_toList]
    exact h j hj h1
  rw [Array.getElem_toList] at this
  rw [push_toList]
  exact this
theorem MC.pushB {out : Array Keyed} {ia ib : Nat} (C : MC κ a b) (I : LoI κ a.toList b.toList out.toList ia ib) (hi : ib < b.size) (h : ∀ j (hj : j < a.size), ia ≤ j → Le κ b[ib] a[j]) : LoI κ a.toList b.toList (out.push b[ib]).toList ia (ib + 1) := by
  have := I.pushB C.sb (by simpa using hi) fun y hy => by
    obtain ⟨j, hj, h1, rfl⟩ := mem_drop hy
    rw [Array.getElem_toList]
    exact h j hj h1
  rw [Array.getElem_toList] at this
  rw [push_toList]
  exact this
theorem MC.runA {out : Array Keyed} {ia ib k : Nat} (C : MC κ a b) (I : LoI κ a.toList b.toList out.toList ia ib) (hk : ia + k ≤ a.size) (h : ∀ i (hi : i < a.size), ia ≤ i → i < ia + k → ∀ j (hj : j < b.size), ib ≤ j → Le κ a[i] b[j]) : LoI κ a.toList b.toList (out ++ a.extract ia (ia + k)).toList (ia + k) ib := by
  have := I.runA C.sa k (by simpa using hk) fun i hi h1 h2 y hy => by
    obtain ⟨j, hj, h3, rfl⟩ := mem_drop hy
    rw [Array.getElem_toList]
    exact h i (by simpa using hi) h1 h2 j hj h3
  rw [Array.toList_append, ext_list, Nat.add_sub_cancel_left]
  exact this
theorem MC.runB {out : Array Keyed} {ia ib k : Nat} (C : MC κ a b) (I : LoI κ a.toList b.toList out.toList ia ib) (hk : ib + k ≤ b.size) (h : ∀ i (hi : i < b.size), ib ≤ i → i < ib + k → ∀ j (hj : j < a.size), ia ≤ j → Le κ b[i] a[j]) : LoI κ a.toList b.toList (out ++ b.extract ib (ib + k)).toList ia (ib + k) := by
  have := I.runB C.sb k (by simpa using hk) fun i hi h1 h2 y hy => by
    obtain ⟨j, hj, h3, rfl⟩ := mem_drop hy
    rw [Array.getElem_toList]
    exact h i (by simpa using hi) h1 h2 j hj h3
  rw [Array.toList_append, ext_list, Nat.add_sub_cancel_left]
  exact this
variable {st : SortSt} {N : Nat}
theorem wpS_elem {l : Array Keyed} {i : Nat} {Q : Keyed → SortSt → Prop} (hi : i < l.size) (h : Q l[i] st) : wpS (model prog w) A E s (elem' l i) Q st := by
  rw [elem'_eq, getElem?_pos l i hi]
  exact wpS_pure h
theorem wpS_gal {left : Bool} {key : Keyed} {arr : Array Keyed} {base n hint : Nat} {Q : Option Nat → SortSt → Prop} (hO : κ.OneLt) (hk : kindOf st = oneType') (hx : HasKey κ key) (hn : base + n ≤ arr.size) (hh : hint < n) (hy : ∀ i (h : i < arr.size), HasKey κ arr[i])
    (hs : ∀ i j (hi : i < arr.size) (hj : j < arr.size), base ≤ i → i ≤ j → j < base + n → Le κ arr[i] arr[j])
    (h : ∀ k, k ≤ n → (∀ i (hi : i < arr.size), base ≤ i → i < base + k → bey κ left key arr[i] = true) → (∀ i (hi : i < arr.size), base + k ≤ i → i < base + n → bey κ left key arr[i] = false) → Q (some k) st) : wpS (model prog w) A E s (gallop' left key arr base n hint) Q st := by
  refine wpS_gallop (κ := κ) hO hk hx hn hh hy (fun i => if h : base + i < arr.size then bey κ left key arr[base + i] else false) (fun i hi _ => by rw [dif_pos hi]) (fun i j hij hj hb' => ?_) fun k hk => ?_
  · rw [dif_pos (by omega)] at hb' ⊢
    have l1 := hs (base + i) (base + j) (by omega) (by omega) (by omega) (by omega) (by omega)
    cases left with
    | true => exact KeyOrd.klt_of_kle_of_klt l1 (show κ.klt _ _ from hb')
    | false =>
      have hb2 : κ.blt (kq κ key) (kq κ arr[base + j]) = false := by simpa [bey] using hb'
      have : κ.blt (kq κ key) (kq κ arr[base + i]) = false := KeyOrd.kle_trans l1 (show κ.kle _ _ from hb2)
      simpa [bey] using this
  · obtain ⟨k1, k2, k3⟩ := hk
    refine h k k1 (fun i hi g1 g2 => ?_) fun i hi g1 g2 => ?_
    · have := k2 (i - base) (by omega)
      dsimp only at this
      have e : base + (i - base) = i := by omega
      simp only [e] at this
      rw [dif_pos hi] at this
      exact this
    · have := k3 (i - base) (by omega) (by omega)
      dsimp only at this
      have e : base + (i - base) = i := by omega
      simp only [e] at this
      rw [dif_pos hi] at this
      exact this
theorem bey_tt {key x : Keyed} (h : bey κ true key x = true) : Le κ x key := KeyOrd.kle_of_klt (show κ.klt _ _ from h)
theorem bey_tf {key x : Keyed} (h : bey κ true key x = false) : Le κ key x := h
theorem bey_ft {key x : Keyed} (h : bey κ false key x = true) : Le κ x key := by
  have : κ.blt (kq κ key) (kq κ x) = false := by simpa [bey] using h
  exact this
theorem bey_ff {key x : Keyed} (h : bey κ false key x = false) : κ.klt (kq κ key) (kq κ x) := by
  have : κ.blt (kq κ key) (kq κ x) = true := by simpa [bey] using h
  exact this
theorem wp_loEnd (C : MC κ a b) {out : Array Keyed} {ia ib mg ac bc g : Nat} (I : LoI κ a.toList b.toList out.toList ia ib) (ha : ia + 1 < a.size) (hb : ib < b.size) (hN : N ≤ ia + 1 + ib) (h : ∀ j (hj : j < b.size), ib ≤ j → Le κ a[ia] b[j]) :
    wpS (model prog w) A E s (loEnd a b out ia ib mg ac bc) (PL κ a b st N) (setG st g) := by
  unfold loEnd
  refine wpS_bind (wpS_elem (by omega) ?_)
  have I2 := C.pushA I (by omega) h
  by_cases h1 : ia + 1 + 1 = a.size
  · rw [if_pos (by simpa using h1)]
    exact wpS_pure ⟨⟨g, rfl⟩, C.fin2 I2 h1⟩
  · rw [if_neg (by simpa using h1)]
    split
    · exact wpS_pure ⟨⟨g, rfl⟩, I2, (by show ia + 1 + 1 < a.size; omega), hb, hN⟩
    · exact wpS_pure ⟨⟨g, rfl⟩, rfl, I2, (by show ia + 1 + 1 < a.size; omega), hb, hN⟩
theorem wp_loMid2 (C : MC κ a b) {out : Array Keyed} {ia ib mg ac k g : Nat} (I : LoI κ a.toList b.toList out.toList ia ib) (ha : ia + 1 < a.size) (hb : ib < b.size) (hN : N ≤ ia + 1 + ib) (hk : ib + k ≤ b.size)
    (hlt : ∀ i (hi : i < b.size), ib ≤ i → i < ib + k → Le κ b[i] a[ia]) (hge : ∀ j (hj : j < b.size), ib + k ≤ j → Le κ a[ia] b[j]) :
    wpS (model prog w) A E s (loMid2 a b out ia ib mg ac k) (PL κ a b st N) (setG st g) := by
  unfold loMid2
  by_cases h0 : k > 0
  · rw [if_pos h0]
    have I2 := C.runB I hk fun i hi h1 h2 j hj h3 => KeyOrd.kle_trans (hlt i hi h1 h2) (sl_le C.sa (by omega) hj h3)
    by_cases h1 : ib + k = b.size
    · rw [if_pos (by simpa using h1)]
      exact wpS_pure ⟨⟨g, rfl⟩, C.fin I2 (.inr h1)⟩
    · rw [if_neg (by simpa using h1)]
      exact wp_loEnd C I2 ha (by omega) (by omega) hge
  · rw [if_neg h0]
    have : k = 0 := by omega
    subst this
    exact wp_loEnd C I ha hb hN hge
theorem wp_loMid1 (hO : κ.OneLt) (hkd : kindOf st = oneType') (C : MC κ a b) {out : Array Keyed} {ia ib mg ac bc g : Nat} (I : LoI κ a.toList b.toList out.toList ia ib) (ha : ia + 1 < a.size) (hb : ib < b.size) (hN : N ≤ ia + ib) (h : ∀ j (hj : j < a.size), ia ≤ j → Le κ b[ib] a[j]) :
    wpS (model prog w) A E s (loMid1 a b out ia ib mg ac bc) (PL κ a b st N) (setG st g) := by
  unfold loMid1
  refine wpS_bind (wpS_elem hb ?_)
  have I2 := C.pushB I hb h
  by_cases h1 : ib + 1 = b.size
  · rw [if_pos (by simpa using h1)]
    exact wpS_pure ⟨⟨g, rfl⟩, C.fin I2 (.inr h1)⟩
  · rw [if_neg (by simpa using h1)]
    have ha' : ia < a.size := by omega
    refine wpS_bind (wpS_elem ha' ?_)
    refine wpS_bind (wpS_gal (κ := κ) hO hkd (C.ka _ ha') (by omega) (by omega) C.kb (fun i j hi hj _ hij _ => sl_le C.sb hi hj hij) fun k k1 k2 k3 => ?_)
    exact wp_loMid2 C I2 ha (by omega) (by omega) (by omega) (fun i hi g1 g2 => bey_tt (k2 i hi g1 g2)) fun j hj g1 => bey_tf (k3 j hj g1 (by omega))
theorem wp_loGal (hO : κ.OneLt) (hkd : kindOf st = oneType') (C : MC κ a b) {out : Array Keyed} {ia ib mg ac bc g : Nat} (L : Alive κ a b N out ia ib) : wpS (model prog w) A E s (loGal a b out ia ib mg ac bc) (PL κ a b st N) (setG st g) := by
  obtain ⟨I, ha, hb, hN⟩ := L
  unfold loGal
  rw [setMinGallop'_eq]
  refine wpS_bind (wpS_modify ?_)
  refine wpS_bind (wpS_elem hb ?_)
  refine wpS_bind (wpS_gal (κ := κ) hO hkd (C.kb _ hb) (by omega) (by omega) C.ka (fun i j hi hj _ hij _ => sl_le C.sa hi hj hij) fun k k1 k2 k3 => ?_)
  · have le : ∀ i (hi : i < a.size), ia ≤ i → i < ia + k → Le κ a[i] b[ib] := fun i hi g1 g2 => bey_ft (k2 i hi g1 g2)
    have gt : ∀ i (hi : i < a.size), ia + k ≤ i → Le κ b[ib] a[i] := fun i hi g1 => KeyOrd.kle_of_klt (bey_ff (k3 i hi g1 (by omega)))
    dsimp only
    by_cases h0 : k > 0
    · rw [if_pos h0]
      have I2 := C.runA I (k := k) (by omega) fun i hi g1 g2 j hj g3 => KeyOrd.kle_trans (le i hi g1 g2) (sl_le C.sb hb hj g3)
      by_cases h1 : ia + k + 1 = a.size
      · rw [if_pos (by simpa using h1)]
        exact wpS_pure ⟨⟨mg, rfl⟩, C.fin2 I2 h1⟩
      · rw [if_neg (by simpa using h1)]
        by_cases h2 : ia + k = a.size
        · rw [if_pos (by simpa using h2)]
          exact wpS_pure ⟨⟨mg, rfl⟩, C.fin I2 (.inl h2)⟩
        · rw [if_neg (by simpa using h2)]
          exact wp_loMid1 (st := st) (g := mg) hO hkd C I2 (by omega) hb (by omega) gt
    · rw [if_neg h0]
      have : k = 0 := by omega
      subst this
      exact wp_loMid1 (st := st) (g := mg) hO hkd C I ha hb hN gt
theorem Alive.le {M : Nat} {out : Array Keyed} {ia ib : Nat} (h : Alive κ a b N out ia ib) (hm : M ≤ N) : Alive κ a b M out ia ib := ⟨h.inv, h.la, h.lb, Nat.le_trans hm h.many⟩
def PL1 (κ : KeyKind) (a b : Array Keyed) (st : SortSt) (N : Nat) (r : ForInStep LoT1) (st' : SortSt) : Prop := st' = st ∧ match r with
  | .done c => (match c.1 with | some m => MGood κ a.toList b.toList m.toList | none => Alive κ a b N c.2.1 c.2.2.1 c.2.2.2.1)
  | .yield c => c.1 = none ∧ Alive κ a b N c.2.1 c.2.2.1 c.2.2.2.1
theorem wp_loOne (hO : κ.OneLt) (hkd : kindOf st = oneType') (C : MC κ a b) {mg : Nat} {c : LoT1} (L : Alive κ a b N c.2.1 c.2.2.1 c.2.2.2.1) : wpS (model prog w) A E s (loOne a b mg c) (PL1 κ a b st (N + 1)) st := by
  obtain ⟨r, out, ia, ib, ac, bc⟩ := c
  obtain ⟨I, ha, hb, hN⟩ := L
  dsimp only at I ha hb hN
  unfold loOne
  dsimp only
  have ha' : ia < a.size := by omega
  refine wpS_bind (wpS_elem hb ?_)
  refine wpS_bind (wpS_elem ha' ?_)
  refine wpS_bind (wpS_lt hO hkd (C.kb _ hb) (C.ka _ ha') ?_)
  dsimp only
  cases hw : κ.blt (kq κ b[ib]) (kq κ a[ia]) with
  | true =>
    simp only [if_true]
    refine wpS_bind (wpS_elem hb ?_)
    have I2 := C.pushB I hb fun j hj h1 => KeyOrd.kle_trans (KeyOrd.kle_of_klt (show κ.klt _ _ from hw)) (sl_le C.sa ha' hj h1)
    by_cases h1 : ib + 1 = b.size
    · rw [if_pos (by simpa using h1)]
      exact wpS_pure ⟨rfl, C.fin I2 (.inr h1)⟩
    · rw [if_neg (by simpa using h1)]
      split
      · exact wpS_pure ⟨rfl, I2, ha, (by show ib + 1 < b.size; omega), (by show N + 1 ≤ ia + (ib + 1); omega)⟩
      · exact wpS_pure ⟨rfl, rfl, I2, ha, (by show ib + 1 < b.size; omega), (by show N + 1 ≤ ia + (ib + 1); omega)⟩
  | false =>
    simp only [Bool.false_eq_true, if_false]
    refine wpS_bind (wpS_elem ha' ?_)
    have I2 := C.pushA I ha' fun j hj h1 => KeyOrd.kle_trans (show κ.kle _ _ from hw) (sl_le C.sb hb hj h1)
    by_cases h1 : ia + 1 + 1 = a.size
    · rw [if_pos (by simpa using h1)]
      exact wpS_pure ⟨rfl, C.fin2 I2 h1⟩
    · rw [if_neg (by simpa using h1)]
      split
      · exact wpS_pure ⟨rfl, I2, (by show ia + 1 + 1 < a.size; omega), hb, (by show N + 1 ≤ ia + 1 + ib; omega)⟩
      · exact wpS_pure ⟨rfl, rfl, I2, (by show ia + 1 + 1 < a.size; omega), hb, (by show N + 1 ≤ ia + 1 + ib; omega)⟩
def PL0 (κ : KeyKind) (a b : Array Keyed) (st : SortSt) (N : Nat) (r : ForInStep LoT0) (st' : SortSt) : Prop := (∃ g, st' = setG st g) ∧ match r with
  | .done c => ∃ m, c.1 = some m ∧ MGood κ a.toList b.toList m.toList
  | .yield c => c.1 = none ∧ Alive κ a b N c.2.1 c.2.2.1 c.2.2.2.1
theorem wp_loTurn (hO : κ.OneLt) (hkd : kindOf st = oneType') (C : MC κ a b) {c : LoT0} {g : Nat} (L : Alive κ a b N c.2.1 c.2.2.1 c.2.2.2.1) : wpS (model prog w) A E s (loTurn a b c) (PL0 κ a b st (N + 1)) (setG st g) := by
  obtain ⟨r, out, ia, ib, mg⟩ := c
  dsimp only at L
  unfold loTurn
  dsimp only
  have htot : 0 < a.size + b.size := by have := L.lb; omega
  refine wpS_bind (wpS_mono (wpS_forRange (I := fun (x : Nat) (d : LoT1) (st' : SortSt) => st' = setG st g ∧ d.1 = none ∧ Alive κ a b (N + min x 1) d.2.1 d.2.2.1 d.2.2.2.1)
    (Q := fun (d : LoT1) (st' : SortSt) => st' = setG st g ∧ match d.1 with | some m => MGood κ a.toList b.toList m.toList | none => Alive κ a b (N + 1) d.2.1 d.2.2.1 d.2.2.2.1) ?step ?fin ⟨rfl, rfl, L⟩) ?post)
  case fin =>
    rintro d st' ⟨rfl, hd, L'⟩
    refine ⟨rfl, ?_⟩
    rw [hd]
    exact L'.le (by omega)
  case step =>
    rintro x d st' _ hx ⟨rfl, hd, L'⟩
    refine wpS_mono (wp_loOne (st := setG st g) hO hkd C L') fun r st2 hr => ?_
    obtain ⟨rfl, hr⟩ := hr
    cases r with
    | done e =>
      refine ⟨rfl, ?_⟩
      dsimp only at hr ⊢
      cases he : e.1 with
      | some m => rw [he] at hr; exact hr
      | none => rw [he] at hr; exact Alive.le hr (by omega)
    | yield e => exact ⟨rfl, hr.1, hr.2.le (by omega)⟩
  case post =>
    rintro ⟨d1, d2, d3, d4, d5, d6⟩ st' ⟨rfl, hd⟩
    cases d1 with
    | some m => exact wpS_pure ⟨⟨g, rfl⟩, m, rfl, hd⟩
    | none =>
      dsimp only at hd ⊢
      refine wpS_bind (wpS_lift (wpAny_rule ⟨rfl, ?_⟩))
      refine wpS_bind (wpS_mono (wpS_forRange (I := fun (x : Nat) (e : LoT) (st' : SortSt) => (∃ g', st' = setG st g') ∧ e.1 = none ∧ Alive κ a b (N + 1) e.2.1 e.2.2.1 e.2.2.2.1)
        (Q := fun (e : LoT) (st' : SortSt) => (∃ g', st' = setG st g') ∧ match e.1 with | some m => MGood κ a.toList b.toList m.toList | none => Alive κ a b (N + 1) e.2.1 e.2.2.1 e.2.2.2.1) ?step2 ?fin2 ⟨⟨g, rfl⟩, rfl, hd⟩) ?post2)
      case fin2 =>
        rintro e st' ⟨hg, he, L'⟩
        refine ⟨hg, ?_⟩
        rw [he]
        exact L'
      case step2 =>
        rintro x e st' _ hx ⟨⟨g', rfl⟩, he, L'⟩
        split
        all_goals
          refine wpS_mono (wp_loGal (st := st) hO hkd C L') fun r st2 hr => ?_
          obtain ⟨hg, hr⟩ := hr
          cases r with
          | done e => exact ⟨hg, hr⟩
          | yield e => exact ⟨hg, hr⟩
      case post2 =>
        rintro ⟨e1, e2, e3, e4, e5, e6, e7⟩ st' ⟨⟨g', rfl⟩, he⟩
        cases e1 with
        | some m => exact wpS_pure ⟨⟨g', rfl⟩, m, rfl, he⟩
        | none =>
          dsimp only at he ⊢
          rw [setMinGallop'_eq]
          exact wpS_bind (wpS_modify (wpS_pure ⟨⟨_, rfl⟩, rfl, he⟩))
theorem wpS_mergeLo {Q : Array Keyed → SortSt → Prop} (hO : κ.OneLt) (hkd : kindOf st = oneType') (C : MC κ a b) (ha : 0 < a.size) (hb : 0 < b.size) (h1 : ∀ i (h : i < a.size), Le κ b[0] a[i])
    (h : ∀ m g, MGood κ a.toList b.toList m.toList → Q m (setG st g)) : wpS (model prog w) A E s (mergeLo' a b) Q st := by
  rw [mergeLo'_eq]
  refine wpS_bind (wpS_lift (wpAny_rule ⟨rfl, ?_⟩))
  refine wpS_bind (wpS_elem hb ?_)
  have I : LoI κ a.toList b.toList (#[b[0]] : Array Keyed).toList 0 1 := by
    have I0 : LoI κ a.toList b.toList (#[] : Array Keyed).toList 0 0 := ⟨List.Perm.refl _, List.Pairwise.nil, fun x hx => (by cases hx), fun x hx => (by cases hx)⟩
    exact C.pushB I0 hb fun j hj _ => h1 j hj
  by_cases hb1 : 1 = b.size
  · rw [if_pos (by simpa using hb1)]
    exact wpS_pure (h _ (gallopOf st) (C.fin I (.inr hb1)))
  · rw [if_neg (by simpa using hb1)]
    by_cases ha1 : 0 + 1 = a.size
    · rw [if_pos (by simpa using ha1)]
      exact wpS_pure (h _ (gallopOf st) (C.fin2 I ha1))
    · rw [if_neg (by simpa using ha1)]
      refine wpS_bind (wpS_get ?_)
      refine wpS_bind (wpS_mono (wpS_forRange (I := fun (x : Nat) (c : LoT0) (st' : SortSt) => (∃ g, st' = setG st g) ∧ c.1 = none ∧ Alive κ a b x c.2.1 c.2.2.1 c.2.2.2.1)
        (Q := fun (c : LoT0) (st' : SortSt) => (∃ g, st' = setG st g) ∧ ∃ m, c.1 = some m ∧ MGood κ a.toList b.toList m.toList) ?step ?fin ⟨⟨gallopOf st, rfl⟩, rfl, I, (by show 0 + 1 < a.size; omega), (by show 1 < b.size; omega), Nat.zero_le _⟩) ?post)
      case fin =>
        rintro c st' ⟨hg, hc, L⟩
        have := L.many
        have := L.la
        have := L.lb
        omega
      case step =>
        rintro x c st' _ hx ⟨⟨g, rfl⟩, hc, L⟩
        refine wpS_mono (wp_loTurn (st := st) hO hkd C L) fun r st2 hr => ?_
        obtain ⟨hg, hr⟩ := hr
        cases r with
        | done e => exact ⟨hg, hr⟩
        | yield e => exact ⟨hg, hr⟩
      case post =>
        rintro ⟨c1, c2⟩ st' ⟨⟨g, rfl⟩, m, hm, hg⟩
        dsimp only at hm
        subst hm
        exact wpS_pure (h m g hg)
end
end Tim
set_option Elab.async false
set_option linter.all false
set_option maxRecDepth 100000
namespace Tim
open PySem PyProof.Rows
section
variable {κ : KeyKind} {A B L : List Keyed} {na nb : Nat}
structure HiI (κ : KeyKind) (A B L : List Keyed) (na nb : Nat) : Prop where
  perm : L.Perm (A.drop na ++ B.drop nb)
  srt : L.Pairwise fun p q => Le κ q p
  ba : ∀ x ∈ L, ∀ y ∈ A.take na, Le κ y x
  bb : ∀ x ∈ L, ∀ y ∈ B.take nb, Le κ y x
theorem HiI.swap (I : HiI κ A B L na nb) : HiI κ B A L nb na := ⟨I.perm.trans List.perm_append_comm, I.srt, I.bb, I.ba⟩
theorem HiI.pushA (I : HiI κ A B L (na + 1) nb) (sa : SL κ A) (hi : na < A.length) (h : ∀ y ∈ B.take nb, Le κ y A[na]) : HiI κ A B (L ++ [A[na]]) na nb := by
  have et : A.take (na + 1) = A.take na ++ [A[na]] := by rw [List.take_succ, List.getElem?_eq_getElem hi]; rfl
  refine ⟨?_, ?_, fun x hx y hy => ?_, fun x hx y hy => ?_⟩
  · rw [drop_cons' hi]
    refine (I.perm.append_right _).trans ?_
    exact List.perm_append_comm
  · exact List.pairwise_append.mpr ⟨I.srt, List.pairwise_singleton _ _, fun x hx y hy => by
      cases List.mem_singleton.mp hy
      exact I.ba x hx _ (by rw [et]; exact List.mem_append_right _ (List.mem_singleton.mpr rfl))⟩
  · rcases List.mem_append.mp hx with hx | hx
    · exact I.ba x hx y (by rw [et]; exact List.mem_append_left _ hy)
    · cases List.mem_singleton.mp hx
      have := sa.take (i := na + 1)
      rw [et] at this
      exact (List.pairwise_append.mp this).2.2 y hy _ (by simp)
  · rcases List.mem_append.mp hx with hx | hx
    · exact I.bb x hx y hy
    · cases List.mem_singleton.mp hx
      exact h y hy
theorem HiI.runA (sa : SL κ A) {at_ : Nat} : ∀ k {L : List Keyed}, HiI κ A B L (at_ + k) nb → at_ + k ≤ A.length → (∀ i (h : i < A.length), at_ ≤ i → i < at_ + k → ∀ y ∈ B.take nb, Le κ y A[i]) → HiI κ A B (L ++ ((A.drop at_).take k).reverse) at_ nb
  | 0, L, I, _, _ => by
    rw [List.take_zero, List.reverse_nil, List.append_nil]
    exact I
  | k + 1, L, I, hk, h => by
    have hi : at_ + k < A.length := by omega
    have I2 : HiI κ A B (L ++ [A[at_ + k]]) (at_ + k) nb := HiI.pushA I sa hi (h _ hi (by omega) (by omega))
    have ih := HiI.runA sa k I2 (by omega) fun i hi h1 h2 => h i hi h1 (by omega)
    rw [List.append_assoc] at ih
    rw [List.take_succ, List.getElem?_drop, List.getElem?_eq_getElem hi, List.reverse_append]
    exact ih
theorem HiI.done (I : HiI κ A B L na nb) (sa : SL κ A) (sb : SL κ B) (h : ∀ x ∈ A.take na, ∀ y ∈ B.take nb, Le κ x y) : MGood κ A B (A.take na ++ B.take nb ++ L.reverse) := by
  refine ⟨?_, ?_⟩
  · have e1 := List.take_append_drop na A
    have e2 := List.take_append_drop nb B
    have h1 : (A.take na ++ B.take nb ++ L.reverse).Perm ((A.take na ++ B.take nb) ++ (A.drop na ++ B.drop nb)) := ((List.reverse_perm L).trans I.perm).append_left _
    refine h1.trans ?_
    have h2 : ((A.take na ++ B.take nb) ++ (A.drop na ++ B.drop nb)).Perm ((A.take na ++ A.drop na) ++ (B.take nb ++ B.drop nb)) := by
      rw [List.append_assoc, List.append_assoc]
      refine List.Perm.append_left _ ?_
      rw [← List.append_assoc, ← List.append_assoc]
      exact List.perm_append_comm.append_right _
    rw [e1, e2] at h2
    exact h2
  · refine List.pairwise_append.mpr ⟨List.pairwise_append.mpr ⟨sa.take, sb.take, h⟩, List.pairwise_reverse.mpr I.srt, fun x hx y hy => ?_⟩
    have hy' := List.mem_reverse.mp hy
    rcases List.mem_append.mp hx with hx | hx
    · exact I.ba y hy' x hx
    · exact I.bb y hy' x hx
theorem HiI.first (I : HiI κ A B L na nb) (sa : SL κ A) (sb : SL κ B) (h : ∀ x ∈ B.take nb, ∀ y ∈ A.take na, Le κ x y) : MGood κ A B (B.take nb ++ A.take na ++ L.reverse) := by
  obtain ⟨h1, h2⟩ := I.swap.done sb sa h
  exact ⟨h1.trans List.perm_append_comm, h2⟩
end
abbrev doneHi (a b out : Array Keyed) (na nb : Nat) : Array Keyed := a.extract 0 na ++ b.extract 0 nb ++ out.reverse
abbrev firstHi (a b out : Array Keyed) (na nb : Nat) : Array Keyed := b.extract 0 nb ++ a.extract 0 na ++ out.reverse
abbrev HiT : Type := Option (Array Keyed) × Nat × Nat × Array Keyed × Nat × Nat × Nat
abbrev HiT1 : Type := Option (Array Keyed) × Nat × Nat × Array Keyed × Nat × Nat
abbrev HiT0 : Type := Option (Array Keyed) × Nat × Nat × Array Keyed × Nat
def hiEnd (a b : Array Keyed) (na nb : Nat) (out : Array Keyed) (mg ac bc : Nat) : StateT SortSt Sem (ForInStep HiT) := do
  let x ← elem' a (na - 1)
  if na - 1 == 0 then return .done (some (doneHi a b (out.push x) (na - 1) nb), na - 1, nb, out.push x, mg, ac, bc)
  else if (decide (ac < 7) && decide (bc < 7)) = true then return .done (none, na - 1, nb, out.push x, mg, ac, bc)
  else return .yield (none, na - 1, nb, out.push x, mg, ac, bc)
def hiMid2 (a b : Array Keyed) (na nb : Nat) (out : Array Keyed) (mg ac at_ : Nat) : StateT SortSt Sem (ForInStep HiT) :=
  if nb - at_ > 0 then
    if at_ == 1 then return .done (some (firstHi a b (out ++ (b.extract at_ nb).reverse) na at_), na, at_, out ++ (b.extract at_ nb).reverse, mg, ac, nb - at_)
    else if at_ == 0 then return .done (some (doneHi a b (out ++ (b.extract at_ nb).reverse) na at_), na, at_, out ++ (b.extract at_ nb).reverse, mg, ac, nb - at_)
    else hiEnd a b na at_ (out ++ (b.extract at_ nb).reverse) mg ac (nb - at_)
  else hiEnd a b na nb out mg ac (nb - at_)
def hiMid1 (a b : Array Keyed) (na nb : Nat) (out : Array Keyed) (mg ac bc : Nat) : StateT SortSt Sem (ForInStep HiT) := do
  let y ← elem' b (nb - 1)
  if nb - 1 == 1 then return .done (some (firstHi a b (out.push y) na (nb - 1)), na, nb - 1, out.push y, mg, ac, bc)
  else do
    let x ← elem' a (na - 1)
    let r ← gallop' true x b 0 (nb - 1) (nb - 1 - 1)
    match r with
    | some at_ => hiMid2 a b na (nb - 1) (out.push y) mg ac at_
    | _ => return .done (some (doneHi a b (out.push y) na (nb - 1)), na, nb - 1, out.push y, mg, ac, bc)
def hiGal (a b : Array Keyed) (na nb : Nat) (out : Array Keyed) (mg ac bc : Nat) : StateT SortSt Sem (ForInStep HiT) := do
  setMinGallop' mg
  let y ← elem' b (nb - 1)
  let r ← gallop' false y a 0 na (na - 1)
  match r with
  | some at_ =>
    if na - at_ > 0 then
      if at_ == 0 then return .done (some (doneHi a b (out ++ (a.extract at_ na).reverse) at_ nb), at_, nb, out ++ (a.extract at_ na).reverse, mg, na - at_, bc)
      else hiMid1 a b at_ nb (out ++ (a.extract at_ na).reverse) mg (na - at_) bc
    else hiMid1 a b na nb out mg (na - at_) bc
  | _ => return .done (some (doneHi a b out na nb), na, nb, out, mg, ac, bc)
def hiOne (a b : Array Keyed) (mg : Nat) (c : HiT1) : StateT SortSt Sem (ForInStep HiT1) := do
  let y ← elem' b (c.2.2.1 - 1)
  let x ← elem' a (c.2.1 - 1)
  let r ← lt' y x
  match r with
  | some aWins =>
    if aWins = true then do
      let x ← elem' a (c.2.1 - 1)
      if c.2.1 - 1 == 0 then return .done (some (doneHi a b (c.2.2.2.1.push x) (c.2.1 - 1) c.2.2.1), c.2.1 - 1, c.2.2.1, c.2.2.2.1.push x, c.2.2.2.2.1 + 1, 0)
      else if c.2.2.2.2.1 + 1 ≥ mg then return .done (none, c.2.1 - 1, c.2.2.1, c.2.2.2.1.push x, c.2.2.2.2.1 + 1, 0)
      else return .yield (none, c.2.1 - 1, c.2.2.1, c.2.2.2.1.push x, c.2.2.2.2.1 + 1, 0)
    else do
      let y ← elem' b (c.2.2.1 - 1)
      if c.2.2.1 - 1 == 1 then return .done (some (firstHi a b (c.2.2.2.1.push y) c.2.1 (c.2.2.1 - 1)), c.2.1, c.2.2.1 - 1, c.2.2.2.1.push y, 0, c.2.2.2.2.2 + 1)
      else if c.2.2.2.2.2 + 1 ≥ mg then return .done (none, c.2.1, c.2.2.1 - 1, c.2.2.2.1.push y, 0, c.2.2.2.2.2 + 1)
      else return .yield (none, c.2.1, c.2.2.1 - 1, c.2.2.2.1.push y, 0, c.2.2.2.2.2 + 1)
  | _ => return .done (some (doneHi a b c.2.2.2.1 c.2.1 c.2.2.1), c.2.1, c.2.2.1, c.2.2.2.1, c.2.2.2.2.1, c.2.2.2.2.2)
def hiTurn (a b : Array Keyed) (c : HiT0) : StateT SortSt Sem (ForInStep HiT0) := do
  let d ← forIn [0:a.size + b.size] ((none, c.2.1, c.2.2.1, c.2.2.2.1, 0, 0) : HiT1) fun _ d => hiOne a b c.2.2.2.2 d
  match d.1 with
  | some r => return .done (some r, d.2.1, d.2.2.1, d.2.2.2.1, c.2.2.2.2)
  | none => do
    rule "list.sort.gallop"
    let e ← forIn [0:a.size + b.size] ((none, d.2.1, d.2.2.1, d.2.2.2.1, c.2.2.2.2 + 1, d.2.2.2.2.1, d.2.2.2.2.2) : HiT) fun _ e =>
      if e.2.2.2.2.1 > 1 then hiGal a b e.2.1 e.2.2.1 e.2.2.2.1 (e.2.2.2.2.1 - 1) e.2.2.2.2.2.1 e.2.2.2.2.2.2
      else hiGal a b e.2.1 e.2.2.1 e.2.2.2.1 e.2.2.2.2.1 e.2.2.2.2.2.1 e.2.2.2.2.2.2
    match e.1 with
    | some r => return .done (some r, e.2.1, e.2.2.1, e.2.2.2.1, e.2.2.2.2.1)
    | none => do
      setMinGallop' (e.2.2.2.2.1 + 1)
      return .yield (none, e.2.1, e.2.2.1, e.2.2.2.1, e.2.2.2.2.1 + 1)
set_option maxHeartbeats 4000000 in
theorem mergeHi'_eq (a b : Array Keyed) : mergeHi' a b = (do
  rule "list.sort.merge-hi"
  let y ← elem' a (a.size - 1)
  if a.size - 1 == 0 then return doneHi a b #[y] (a.size - 1) b.size
  else if b.size == 1 then return firstHi a b #[y] (a.size - 1) b.size
  else do
    let s ← get
    let c ← forIn [0:a.size + b.size] ((none, a.size - 1, b.size, #[y], gallopOf s) : HiT0) fun _ c => hiTurn a b c
    match c.1 with
    | some r => pure r
    | none => unsupported "internal:list.sort.merge-bound") := by
  have e0 : mergeHi' a b = ((_ : StateT SortSt Sem Unit) >>= (_ : Unit → StateT SortSt Sem (Array Keyed))) := rfl
  rw [e0]
  congr 1; funext u
  dsimp only
  congr 1; funext y
  congr 1
  congr 1
  congr 1; funext s
  congr 1
  rotate_left
  · funext c
    obtain ⟨c1, c2, c3, c4, c5⟩ := c
    cases c1 <;> rfl
  congr 1
  funext x c
  unfold hiTurn
  congr 1
  funext d
  obtain ⟨d1, d2, d3, d4, d5, d6⟩ := d
  cases d1 with
  | some r => rfl
  | none =>
    dsimp only
    congr 1; funext _
    congr 1
    funext e
    obtain ⟨e1, e2, e3, e4, e5, e6, e7⟩ := e
    cases e1 <;> rfl
section
variable {prog : Program} {w : World} {A : Around} {E : Value → Shared → Prop} {s : Shared} {κ : KeyKind} {a b : Array Keyed}
theorem mem_take {l : Array Keyed} {n : Nat} {y : Keyed} (h : y ∈ l.toList.take n) : ∃ j, ∃ h : j < l.size, j < n ∧ y = l[j] := by
  obtain ⟨i, hi, rfl⟩ := List.mem_iff_getElem.mp h
  rw [List.length_take] at hi
  refine ⟨i, by simp at hi; omega, by omega, ?_⟩
  rw [List.getElem_take, Array.getElem_toList]
theorem ext_take {l : Array Keyed} {n : Nat} : (l.extract 0 n).toList = l.toList.take n := by
  rw [ext_list, List.drop_zero, Nat.sub_zero]
theorem doneHi_list {out : Array Keyed} {na nb : Nat} : (doneHi a b out na nb).toList = a.toList.take na ++ b.toList.take nb ++ out.toList.reverse := by
  unfold doneHi
  rw [Array.toList_append, Array.toList_append, ext_take, ext_take, Array.toList_reverse]
theorem firstHi_list {out : Array Keyed} {na nb : Nat} : (firstHi a b out na nb).toList = b.toList.take nb ++ a.toList.take na ++ out.toList.reverse := by
  unfold firstHi
  rw [Array.toList_append, Array.toList_append, ext_take, ext_take, Array.toList_reverse]
structure MD (κ : KeyKind) (a b : Array Keyed) : Prop where
  ka : ∀ i (h : i < a.size), HasKey κ a[i]
  kb : ∀ i (h : i < b.size), HasKey κ b[i]
  sa : SL κ a.toList
  sb : SL κ b.toList
  first : ∀ i (h : i < a.size) (h' : 0 < b.size), Le κ b[0] a[i]
structure AliveH (κ : KeyKind) (a b : Array Keyed) (N : Nat) (out : Array Keyed) (na nb : Nat) : Prop where
  inv : HiI κ a.toList b.toList out.toList na nb
  la : 0 < na
  la2 : na ≤ a.size
  lb : 1 < nb
  lb2 : nb ≤ b.size
  many : N + na + nb ≤ a.size + b.size
theorem MD.fin {out : Array Keyed} {na nb : Nat} (C : MD κ a b) (I : HiI κ a.toList b.toList out.toList na nb) (h : na = 0 ∨ nb = 0) : MGood κ a.toList b.toList (doneHi a b out na nb).toList := by
  rw [doneHi_list]
  refine I.done C.sa C.sb fun x hx y hy => ?_
  rcases h with rfl | rfl
  · cases hx
  · cases hy
theorem MD.fin2 {out : Array Keyed} {na nb : Nat} (C : MD κ a b) (I : HiI κ a.toList b.toList out.toList na nb) (h : nb = 1) : MGood κ a.toList b.toList (firstHi a b out na nb).toList := by
  rw [firstHi_list]
  refine I.first C.sa C.sb fun x hx y hy => ?_
  obtain ⟨j, hj, g1, rfl⟩ := mem_take hx
  obtain ⟨i, hi, g2, rfl⟩ := mem_take hy
  have : j = 0 := by omega
  subst this
  exact C.first i hi hj
theorem MD.pushA {out : Array Keyed} {na nb : Nat} (C : MD κ a b) (I : HiI κ a.toList b.toList out.toList na nb) (h0 : 0 < na) (hi : na - 1 < a.size) (h : ∀ j (hj : j < b.size), j < nb → Le κ b[j] a[na - 1]) : HiI κ a.toList b.toList (out.push a[na - 1]).toList (na - 1) nb := by
  obtain ⟨n, rfl⟩ : ∃ n, na = n + 1 := ⟨na - 1, by omega⟩
  have := I.pushA C.sa (by simpa using hi) fun y hy => by
    obtain ⟨j, hj, h1, rfl⟩ := mem_take hy
    rw [Array.getElem_toList]
    exact h j hj h1
  rw [Array.getElem_toList] at this
  rw [push_toList]
  exact this
theorem MD.pushB {out : Array Keyed} {na nb : Nat} (C : MD κ a b) (I : HiI κ a.toList b.toList out.toList na nb) (h0 : 0 < nb) (hi : nb - 1 < b.size) (h : ∀ j (hj : j < a.size), j < na → Le κ a[j] b[nb - 1]) : HiI κ a.toList b.toList (out.push b[nb - 1]).toList na (nb - 1) := by
  obtain ⟨n, rfl⟩ : ∃ n, nb = n + 1 := ⟨nb - 1, by omega⟩
  have := I.swap.pushA C.sb (by simpa using hi) fun y hy => by
    obtain ⟨j, hj, h1, rfl⟩ := mem_take hy
    rw [Array.getElem_toList]
    exact h j hj h1
  rw [Array.getElem_toList] at this
  rw [push_toList]
  exact this.swap
theorem MD.runA {out : Array Keyed} {na nb at_ : Nat} (C : MD κ a b) (I : HiI κ a.toList b.toList out.toList na nb) (hk : at_ ≤ na) (hn : na ≤ a.size) (h : ∀ i (hi : i < a.size), at_ ≤ i → i < na → ∀ j (hj : j < b.size), j < nb → Le κ b[j] a[i]) : HiI κ a.toList b.toList (out ++ (a.extract at_ na).reverse).toList at_ nb := by
  obtain ⟨k, rfl⟩ : ∃ k, na = at_ + k := ⟨na - at_, by omega⟩
  have := HiI.runA C.sa k I (by simpa using hn) fun i hi h1 h2 y hy => by
    obtain ⟨j, hj, h3, rfl⟩ := mem_take hy
    rw [Array.getElem_toList]
    exact h i (by simpa using hi) h1 h2 j hj h3
  rw [Array.toList_append, Array.toList_reverse, ext_list, Nat.add_sub_cancel_left]
  exact this
theorem MD.runB {out : Array Keyed} {na nb at_ : Nat} (C : MD κ a b) (I : HiI κ a.toList b.toList out.toList na nb) (hk : at_ ≤ nb) (hn : nb ≤ b.size) (h : ∀ i (hi : i < b.size), at_ ≤ i → i < nb → ∀ j (hj : j < a.size), j < na → Le κ a[j] b[i]) : HiI κ a.toList b.toList (out ++ (b.extract at_ nb).reverse).toList na at_ := by
  obtain ⟨k, rfl⟩ : ∃ k, nb = at_ + k := ⟨nb - at_, by omega⟩
  have := HiI.runA C.sb k I.swap (by simpa using hn) fun i hi h1 h2 y hy => by
    obtain ⟨j, hj, h3, rfl⟩ := mem_take hy
    rw [Array.getElem_toList]
    exact h i (by simpa using hi) h1 h2 j hj h3
  rw [Array.toList_append, Array.toList_reverse, ext_list, Nat.add_sub_cancel_left]
  exact this.swap
variable {st : SortSt} {N : Nat}
def PH (κ : KeyKind) (a b : Array Keyed) (st : SortSt) (N : Nat) (r : ForInStep HiT) (st' : SortSt) : Prop := (∃ g, st' = setG st g) ∧ match r with
  | .done c => (match c.1 with | some m => MGood κ a.toList b.toList m.toList | none => AliveH κ a b N c.2.2.2.1 c.2.1 c.2.2.1)
  | .yield c => c.1 = none ∧ AliveH κ a b N c.2.2.2.1 c.2.1 c.2.2.1
theorem wp_hiEnd (C : MD κ a b) {out : Array Keyed} {na nb mg ac bc g : Nat} (I : HiI κ a.toList b.toList out.toList na nb) (ha : 0 < na) (ha2 : na ≤ a.size) (hb : 1 < nb) (hb2 : nb ≤ b.size) (hN : N + na + nb ≤ a.size + b.size + 1) (h : ∀ j (hj : j < b.size), j < nb → Le κ b[j] (a[na - 1]'(by omega))) :
    wpS (model prog w) A E s (hiEnd a b na nb out mg ac bc) (PH κ a b st N) (setG st g) := by
  unfold hiEnd
  refine wpS_bind (wpS_elem (by omega) ?_)
  have I2 := C.pushA I ha (by omega) h
  by_cases h1 : na - 1 = 0
  · rw [if_pos (by simpa using h1)]
    exact wpS_pure ⟨⟨g, rfl⟩, C.fin I2 (.inl h1)⟩
  · rw [if_neg (by simpa using h1)]
    have L : AliveH κ a b N (out.push (a[na - 1]'(by omega))) (na - 1) nb := ⟨I2, by omega, by omega, hb, hb2, by omega⟩
    split
    · exact wpS_pure ⟨⟨g, rfl⟩, L⟩
    · exact wpS_pure ⟨⟨g, rfl⟩, rfl, L⟩
theorem wp_hiMid2 (C : MD κ a b) {out : Array Keyed} {na nb mg ac at_ g : Nat} (I : HiI κ a.toList b.toList out.toList na nb) (ha : 0 < na) (ha2 : na ≤ a.size) (hb : 1 < nb) (hb2 : nb ≤ b.size) (hN : N + na + nb ≤ a.size + b.size + 1) (hk : at_ ≤ nb)
    (hlt : ∀ i (hi : i < b.size), i < at_ → Le κ b[i] (a[na - 1]'(by omega))) (hge : ∀ j (hj : j < b.size), at_ ≤ j → j < nb → Le κ (a[na - 1]'(by omega)) b[j]) :
    wpS (model prog w) A E s (hiMid2 a b na nb out mg ac at_) (PH κ a b st N) (setG st g) := by
  unfold hiMid2
  by_cases h0 : nb - at_ > 0
  · rw [if_pos h0]
    have I2 := C.runB I (at_ := at_) (by omega) hb2 fun i hi h1 h2 j hj h3 => KeyOrd.kle_trans (sl_le C.sa hj (by omega) (by omega)) (hge i hi h1 h2)
    by_cases h1 : at_ = 1
    · rw [if_pos (by simpa using h1)]
      exact wpS_pure ⟨⟨g, rfl⟩, C.fin2 I2 h1⟩
    · rw [if_neg (by simpa using h1)]
      by_cases h2 : at_ = 0
      · rw [if_pos (by simpa using h2)]
        exact wpS_pure ⟨⟨g, rfl⟩, C.fin I2 (.inr h2)⟩
      · rw [if_neg (by simpa using h2)]
        exact wp_hiEnd C I2 ha ha2 (by omega) (by omega) (by omega) fun j hj h3 => hlt j hj h3
  · rw [if_neg h0]
    exact wp_hiEnd C I ha ha2 hb hb2 hN fun j hj h3 => hlt j hj (by omega)
theorem wp_hiMid1 (hO : κ.OneLt) (hkd : kindOf st = oneType') (C : MD κ a b) {out : Array Keyed} {na nb mg ac bc g : Nat} (I : HiI κ a.toList b.toList out.toList na nb) (ha : 0 < na) (ha2 : na ≤ a.size) (hb : 1 < nb) (hb2 : nb ≤ b.size) (hN : N + na + nb ≤ a.size + b.size)
    (h : ∀ j (hj : j < a.size), j < na → Le κ a[j] (b[nb - 1]'(by omega))) : wpS (model prog w) A E s (hiMid1 a b na nb out mg ac bc) (PH κ a b st N) (setG st g) := by
  unfold hiMid1
  refine wpS_bind (wpS_elem (by omega) ?_)
  have I2 := C.pushB I (by omega) (by omega) h
  by_cases h1 : nb - 1 = 1
  · rw [if_pos (by simpa using h1)]
    exact wpS_pure ⟨⟨g, rfl⟩, C.fin2 I2 h1⟩
  · rw [if_neg (by simpa using h1)]
    refine wpS_bind (wpS_elem (by omega) ?_)
    refine wpS_bind (wpS_gal (κ := κ) hO hkd (C.ka _ (by omega)) (by omega) (by omega) C.kb (fun i j hi hj _ hij _ => sl_le C.sb hi hj hij) fun k k1 k2 k3 => ?_)
    exact wp_hiMid2 C I2 ha ha2 (by omega) (by omega) (by omega) k1 (fun i hi g2 => bey_tt (k2 i hi (Nat.zero_le _) (by omega))) fun j hj g1 g2 => bey_tf (k3 j hj (by omega) (by omega))
theorem wp_hiGal (hO : κ.OneLt) (hkd : kindOf st = oneType') (C : MD κ a b) {out : Array Keyed} {na nb mg ac bc g : Nat} (L : AliveH κ a b N out na nb) : wpS (model prog w) A E s (hiGal a b na nb out mg ac bc) (PH κ a b st N) (setG st g) := by
  obtain ⟨I, ha, ha2, hb, hb2, hN⟩ := L
  unfold hiGal
  rw [setMinGallop'_eq]
  refine wpS_bind (wpS_modify ?_)
  refine wpS_bind (wpS_elem (by omega) ?_)
  refine wpS_bind (wpS_gal (κ := κ) hO hkd (C.kb _ (by omega)) (by omega) (by omega) C.ka (fun i j hi hj _ hij _ => sl_le C.sa hi hj hij) fun k k1 k2 k3 => ?_)
  have le : ∀ i (hi : i < a.size), i < k → Le κ a[i] (b[nb - 1]'(by omega)) := fun i hi g2 => bey_ft (k2 i hi (Nat.zero_le _) (by omega))
  have gt : ∀ i (hi : i < a.size), k ≤ i → i < na → Le κ (b[nb - 1]'(by omega)) a[i] := fun i hi g1 g2 => KeyOrd.kle_of_klt (bey_ff (k3 i hi (by omega) (by omega)))
  dsimp only
  by_cases h0 : na - k > 0
  · rw [if_pos h0]
    have I2 := C.runA I (at_ := k) (by omega) ha2 fun i hi g1 g2 j hj g3 => KeyOrd.kle_trans (sl_le C.sb hj (by omega) (by omega)) (gt i hi g1 g2)
    by_cases h1 : k = 0
    · rw [if_pos (by simpa using h1)]
      exact wpS_pure ⟨⟨mg, rfl⟩, C.fin I2 (.inl h1)⟩
    · rw [if_neg (by simpa using h1)]
      exact wp_hiMid1 (st := st) (g := mg) hO hkd C I2 (by omega) (by omega) hb hb2 (by omega) fun j hj g1 => le j hj g1
  · rw [if_neg h0]
    exact wp_hiMid1 (st := st) (g := mg) hO hkd C I ha ha2 hb hb2 hN fun j hj g1 => le j hj (by omega)
theorem AliveH.le {M : Nat} {out : Array Keyed} {na nb : Nat} (h : AliveH κ a b N out na nb) (hm : M ≤ N) : AliveH κ a b M out na nb := ⟨h.inv, h.la, h.la2, h.lb, h.lb2, by have := h.many; omega⟩
def PH1 (κ : KeyKind) (a b : Array Keyed) (st : SortSt) (N : Nat) (r : ForInStep HiT1) (st' : SortSt) : Prop := st' = st ∧ match r with
  | .done c => (match c.1 with | some m => MGood κ a.toList b.toList m.toList | none => AliveH κ a b N c.2.2.2.1 c.2.1 c.2.2.1)
  | .yield c => c.1 = none ∧ AliveH κ a b N c.2.2.2.1 c.2.1 c.2.2.1
theorem wp_hiOne (hO : κ.OneLt) (hkd : kindOf st = oneType') (C : MD κ a b) {mg : Nat} {c : HiT1} (L : AliveH κ a b N c.2.2.2.1 c.2.1 c.2.2.1) : wpS (model prog w) A E s (hiOne a b mg c) (PH1 κ a b st (N + 1)) st := by
  obtain ⟨r, na, nb, out, ac, bc⟩ := c
  obtain ⟨I, ha, ha2, hb, hb2, hN⟩ := L
  dsimp only at I ha ha2 hb hb2 hN
  unfold hiOne
  dsimp only
  have ha' : na - 1 < a.size := by omega
  have hb' : nb - 1 < b.size := by omega
  refine wpS_bind (wpS_elem hb' ?_)
  refine wpS_bind (wpS_elem ha' ?_)
  refine wpS_bind (wpS_lt hO hkd (C.kb _ hb') (C.ka _ ha') ?_)
  dsimp only
  cases hw : κ.blt (kq κ b[nb - 1]) (kq κ a[na - 1]) with
  | true =>
    simp only [if_true]
    refine wpS_bind (wpS_elem ha' ?_)
    have I2 := C.pushA I ha ha' fun j hj h1 => KeyOrd.kle_trans (sl_le C.sb hj hb' (by omega)) (KeyOrd.kle_of_klt (show κ.klt _ _ from hw))
    by_cases h1 : na - 1 = 0
    · rw [if_pos (by simpa using h1)]
      exact wpS_pure ⟨rfl, C.fin I2 (.inl h1)⟩
    · rw [if_neg (by simpa using h1)]
      have L2 : AliveH κ a b (N + 1) (out.push a[na - 1]) (na - 1) nb := ⟨I2, by omega, by omega, hb, hb2, by omega⟩
      split
      · exact wpS_pure ⟨rfl, L2⟩
      · exact wpS_pure ⟨rfl, rfl, L2⟩
  | false =>
    simp only [Bool.false_eq_true, if_false]
    refine wpS_bind (wpS_elem hb' ?_)
    have I2 := C.pushB I (by omega) hb' fun j hj h1 => KeyOrd.kle_trans (sl_le C.sa hj ha' (by omega)) (show κ.kle _ _ from hw)
    by_cases h1 : nb - 1 = 1
    · rw [if_pos (by simpa using h1)]
      exact wpS_pure ⟨rfl, C.fin2 I2 h1⟩
    · rw [if_neg (by simpa using h1)]
      have L2 : AliveH κ a b (N + 1) (out.push b[nb - 1]) na (nb - 1) := ⟨I2, ha, ha2, by omega, by omega, by omega⟩
      split
      · exact wpS_pure ⟨rfl, L2⟩
      · exact wpS_pure ⟨rfl, rfl, L2⟩
def PH0 (κ : KeyKind) (a b : Array Keyed) (st : SortSt) (N : Nat) (r : ForInStep HiT0) (st' : SortSt) : Prop := (∃ g, st' = setG st g) ∧ match r with
  | .done c => ∃ m, c.1 = some m ∧ MGood κ a.toList b.toList m.toList
  | .yield c => c.1 = none ∧ AliveH κ a b N c.2.2.2.1 c.2.1 c.2.2.1
theorem wp_hiTurn (hO : κ.OneLt) (hkd : kindOf st = oneType') (C : MD κ a b) {c : HiT0} {g : Nat} (L : AliveH κ a b N c.2.2.2.1 c.2.1 c.2.2.1) : wpS (model prog w) A E s (hiTurn a b c) (PH0 κ a b st (N + 1)) (setG st g) := by
  obtain ⟨r, na, nb, out, mg⟩ := c
  dsimp only at L
  unfold hiTurn
  dsimp only
  have htot : 0 < a.size + b.size := by have := L.lb; have := L.lb2; omega
  refine wpS_bind (wpS_mono (wpS_forRange (I := fun (x : Nat) (d : HiT1) (st' : SortSt) => st' = setG st g ∧ d.1 = none ∧ AliveH κ a b (N + min x 1) d.2.2.2.1 d.2.1 d.2.2.1)
    (Q := fun (d : HiT1) (st' : SortSt) => st' = setG st g ∧ match d.1 with | some m => MGood κ a.toList b.toList m.toList | none => AliveH κ a b (N + 1) d.2.2.2.1 d.2.1 d.2.2.1) ?step ?fin ⟨rfl, rfl, L⟩) ?post)
  case fin =>
    rintro d st' ⟨rfl, hd, L'⟩
    refine ⟨rfl, ?_⟩
    rw [hd]
    exact L'.le (by omega)
  case step =>
    rintro x d st' _ hx ⟨rfl, hd, L'⟩
    refine wpS_mono (wp_hiOne (st := setG st g) hO hkd C L') fun r st2 hr => ?_
    obtain ⟨rfl, hr⟩ := hr
    cases r with
    | done e =>
      refine ⟨rfl, ?_⟩
      dsimp only at hr ⊢
      cases he : e.1 with
      | some m => rw [he] at hr; exact hr
      | none => rw [he] at hr; exact AliveH.le hr (by omega)
    | yield e => exact ⟨rfl, hr.1, hr.2.le (by omega)⟩
  case post =>
    rintro ⟨d1, d2, d3, d4, d5, d6⟩ st' ⟨rfl, hd⟩
    cases d1 with
    | some m => exact wpS_pure ⟨⟨g, rfl⟩, m, rfl, hd⟩
    | none =>
      dsimp only at hd ⊢
      refine wpS_bind (wpS_lift (wpAny_rule ⟨rfl, ?_⟩))
      refine wpS_bind (wpS_mono (wpS_forRange (I := fun (x : Nat) (e : HiT) (st' : SortSt) => (∃ g', st' = setG st g') ∧ e.1 = none ∧ AliveH κ a b (N + 1) e.2.2.2.1 e.2.1 e.2.2.1)
        (Q := fun (e : HiT) (st' : SortSt) => (∃ g', st' = setG st g') ∧ match e.1 with | some m => MGood κ a.toList b.toList m.toList | none => AliveH κ a b (N + 1) e.2.2.2.1 e.2.1 e.2.2.1) ?step2 ?fin2 ⟨⟨g, rfl⟩, rfl, hd⟩) ?post2)
      case fin2 =>
        rintro e st' ⟨hg, he, L'⟩
        refine ⟨hg, ?_⟩
        rw [he]
        exact L'
      case step2 =>
        rintro x e st' _ hx ⟨⟨g', rfl⟩, he, L'⟩
        split
        all_goals
          refine wpS_mono (wp_hiGal (st := st) hO hkd C L') fun r st2 hr => ?_
          obtain ⟨hg, hr⟩ := hr
          cases r with
          | done e => exact ⟨hg, hr⟩
          | yield e => exact ⟨hg, hr⟩
      case post2 =>
        rintro ⟨e1, e2, e3, e4, e5, e6, e7⟩ st' ⟨⟨g', rfl⟩, he⟩
        cases e1 with
        | some m => exact wpS_pure ⟨⟨g', rfl⟩, m, rfl, he⟩
        | none =>
          dsimp only at he ⊢
          rw [setMinGallop'_eq]
          exact wpS_bind (wpS_modify (wpS_pure ⟨⟨_, rfl⟩, rfl, he⟩))
theorem wpS_mergeHi {Q : Array Keyed → SortSt → Prop} (hO : κ.OneLt) (hkd : kindOf st = oneType') (C : MD κ a b) (ha : 0 < a.size) (hb : 0 < b.size) (h1 : ∀ j (h : j < b.size), Le κ b[j] (a[a.size - 1]'(by omega)))
    (h : ∀ m g, MGood κ a.toList b.toList m.toList → Q m (setG st g)) : wpS (model prog w) A E s (mergeHi' a b) Q st := by
  rw [mergeHi'_eq]
  refine wpS_bind (wpS_lift (wpAny_rule ⟨rfl, ?_⟩))
  refine wpS_bind (wpS_elem (by omega) ?_)
  have I : HiI κ a.toList b.toList (#[a[a.size - 1]'(by omega)] : Array Keyed).toList (a.size - 1) b.size := by
    have I0 : HiI κ a.toList b.toList (#[] : Array Keyed).toList a.size b.size := ⟨by rw [List.drop_eq_nil_of_le (by simp), List.drop_eq_nil_of_le (by simp)]; exact List.Perm.refl _, List.Pairwise.nil, fun x hx => (by cases hx), fun x hx => (by cases hx)⟩
    exact C.pushA I0 ha (by omega) fun j hj _ => h1 j hj
  by_cases hb1 : a.size - 1 = 0
  · rw [if_pos (by simpa using hb1)]
    exact wpS_pure (h _ (gallopOf st) (C.fin I (.inl hb1)))
  · rw [if_neg (by simpa using hb1)]
    by_cases ha1 : b.size = 1
    · rw [if_pos (by simpa using ha1)]
      exact wpS_pure (h _ (gallopOf st) (C.fin2 I ha1))
    · rw [if_neg (by simpa using ha1)]
      refine wpS_bind (wpS_get ?_)
      refine wpS_bind (wpS_mono (wpS_forRange (I := fun (x : Nat) (c : HiT0) (st' : SortSt) => (∃ g, st' = setG st g) ∧ c.1 = none ∧ AliveH κ a b x c.2.2.2.1 c.2.1 c.2.2.1)
        (Q := fun (c : HiT0) (st' : SortSt) => (∃ g, st' = setG st g) ∧ ∃ m, c.1 = some m ∧ MGood κ a.toList b.toList m.toList) ?step ?fin ⟨⟨gallopOf st, rfl⟩, rfl, I, (by show 0 < a.size - 1; omega), (by show a.size - 1 ≤ a.size; omega), (by show 1 < b.size; omega), Nat.le_refl _, (by show 0 + (a.size - 1) + b.size ≤ _; omega)⟩) ?post)
      case fin =>
        rintro c st' ⟨hg, hc, L⟩
        have := L.many
        have := L.la
        have := L.lb
        omega
      case step =>
        rintro x c st' _ hx ⟨⟨g, rfl⟩, hc, L⟩
        refine wpS_mono (wp_hiTurn (st := st) hO hkd C L) fun r st2 hr => ?_
        obtain ⟨hg, hr⟩ := hr
        cases r with
        | done e => exact ⟨hg, hr⟩
        | yield e => exact ⟨hg, hr⟩
      case post =>
        rintro ⟨c1, c2⟩ st' ⟨⟨g, rfl⟩, m, hm, hg⟩
        dsimp only at hm
        subst hm
        exact wpS_pure (h m g hg)
end
end Tim
set_option Elab.async false
set_option linter.all false
set_option maxRecDepth 100000
namespace Tim
open PySem PyProof.Rows
def writeAt (sa : Nat) (M : List Keyed) (arr : Array Keyed) : Array Keyed := M.zipIdx.foldl (fun a (p, j) => a.setIfInBounds (sa + j) p) arr
def mAt3 (arr : Array Keyed) (sa na sb nb : Nat) : StateT SortSt Sem Bool := do
  let m ← if na ≤ nb then mergeLo' (arr.extract sa sb) (arr.extract sb (sb + nb)) else mergeHi' (arr.extract sa sb) (arr.extract sb (sb + nb))
  modify fun s => setArr s (writeAt sa m.toList (arrOf s))
  return (failedOf (← get)).isNone
def mAt2 (arr : Array Keyed) (sa na sb nb : Nat) : StateT SortSt Sem Bool :=
  if (na == 0) = true then pure true else do
    let x ← elem' arr (sa + na - 1)
    match ← gallop' true x arr sb nb (nb - 1) with
    | some m => if (m == 0) = true then pure true else mAt3 arr sa na sb m
    | _ => pure false
def mAt1 (arr : Array Keyed) (sa na sb nb : Nat) : StateT SortSt Sem Bool := do
  let y ← elem' arr sb
  match ← gallop' false y arr sa na 0 with
  | some k => mAt2 arr (sa + k) (na - k) sb nb
  | _ => pure false
theorem write_go (sa : Nat) : ∀ (M : List Keyed) (n : Nat) (arr : Array Keyed), sa + n + M.length ≤ arr.size →
    ((M.zipIdx n).foldl (fun a (p, j) => a.setIfInBounds (sa + j) p) arr).toList = arr.toList.take (sa + n) ++ M ++ arr.toList.drop (sa + n + M.length)
  | [], n, arr, h => by simp
  | x :: M, n, arr, h => by
    rw [List.length_cons] at h
    rw [List.zipIdx_cons, List.foldl_cons]
    have ih := write_go sa M (n + 1) (arr.setIfInBounds (sa + n) x) (by rw [Array.size_setIfInBounds]; omega)
    have hl : sa + n < arr.toList.length := by rw [Array.length_toList]; omega
    have e : (arr.setIfInBounds (sa + n) x).toList = (arr.toList.take (sa + n) ++ [x]) ++ arr.toList.drop (sa + n + 1) := by
      rw [Array.toList_setIfInBounds, List.set_eq_take_append_cons_drop, if_pos hl, List.append_assoc]
      rfl
    have l1 : (arr.toList.take (sa + n) ++ [x]).length = sa + n + 1 := by
      rw [List.length_append, List.length_take]
      show min _ _ + 1 = _
      omega
    rw [ih, e]
    have e1 : sa + (n + 1) = sa + n + 1 := rfl
    rw [e1, List.take_left' l1, List.drop_append, l1]
    have e2 : List.drop (sa + n + 1 + M.length) (arr.toList.take (sa + n) ++ [x]) = [] := List.drop_eq_nil_of_le (by omega)
    have e3 : sa + n + 1 + M.length - (sa + n + 1) = M.length := by omega
    rw [e2, e3, List.drop_drop, List.length_cons]
    have e4 : sa + n + 1 + M.length = sa + n + (M.length + 1) := by omega
    rw [e4]
    simp
theorem write_list {sa : Nat} {M : List Keyed} {arr : Array Keyed} (h : sa + M.length ≤ arr.size) : (writeAt sa M arr).toList = arr.toList.take sa ++ M ++ arr.toList.drop (sa + M.length) := write_go sa M 0 arr h
theorem write_at {sa : Nat} {M : List Keyed} {arr : Array Keyed} (h : sa + M.length ≤ arr.size) (k : Nat) : (writeAt sa M arr)[k]? = if sa ≤ k ∧ k < sa + M.length then M[k - sa]? else arr[k]? := by
  rw [← Array.getElem?_toList, write_list h]
  have hl : (arr.toList.take sa).length = sa := by rw [List.length_take, Array.length_toList]; omega
  by_cases h1 : k < sa
  · rw [if_neg (by omega), List.append_assoc, List.getElem?_append_left (by omega), List.getElem?_take, if_pos h1, Array.getElem?_toList]
  · by_cases h2 : k < sa + M.length
    · rw [if_pos ⟨by omega, h2⟩, List.append_assoc, List.getElem?_append_right (by omega), hl, List.getElem?_append_left (by omega)]
    · rw [if_neg (by omega), List.append_assoc, List.getElem?_append_right (by omega), hl, List.getElem?_append_right (by omega), List.getElem?_drop, Array.getElem?_toList]
      congr 1
      omega
theorem write_perm {sa : Nat} {M : List Keyed} {arr : Array Keyed} (h : sa + M.length ≤ arr.size) (hp : M.Perm ((arr.toList.drop sa).take M.length)) : (writeAt sa M arr).Perm arr := by
  rw [Array.perm_iff_toList_perm, write_list h]
  have e : arr.toList = arr.toList.take sa ++ (arr.toList.drop sa).take M.length ++ arr.toList.drop (sa + M.length) := by
    rw [List.append_assoc, ← List.drop_drop, List.take_append_drop, List.take_append_drop]
  refine List.Perm.trans ?_ (List.Perm.of_eq e.symm)
  exact (hp.append_left _).append_right _
section
variable {prog : Program} {w : World} {A : Around} {E : Value → Shared → Prop} {s : Shared} {κ : KeyKind} {st : SortSt} {arr : Array Keyed}
def Seg (κ : KeyKind) (arr : Array Keyed) (lo hi : Nat) : Prop := ∀ i j, lo ≤ i → i ≤ j → j < hi → κ.kle (KK κ arr i) (KK κ arr j)
theorem KK_at {i : Nat} (h : i < arr.size) : KK κ arr i = kq κ arr[i] := by
  unfold KK kq
  rw [getElem?_pos arr i h]
theorem seg_sl {lo hi : Nat} (h : Seg κ arr lo hi) (hh : hi ≤ arr.size) : SL κ (arr.extract lo hi).toList := by
  refine List.pairwise_iff_getElem.mpr ?_
  intro i j hi' hj' hij
  have e1 : (arr.extract lo hi).toList.length = hi - lo := by simp; omega
  rw [Array.getElem_toList, Array.getElem_toList, Array.getElem_extract, Array.getElem_extract]
  have := h (lo + i) (lo + j) (by omega) (by omega) (by omega)
  rw [KK_at (by omega), KK_at (by omega)] at this
  exact this
theorem wpS_set {Q : PUnit → SortSt → Prop} {st st2 : SortSt} (h : Q ⟨⟩ st2) : wpS (model prog w) A E s (set st2 : StateT SortSt Sem PUnit) Q st := by
  unfold wpS; rw [StateT.run_set]; exact wpAny_pure ⟨rfl, h⟩
abbrev stOf (st : SortSt) (arr : Array Keyed) (pend : Array (Nat × Nat × Nat)) (g : Nat) : SortSt := SortSt.mk' (kindOf st) arr pend g (failedOf st)
theorem wpS_mergeAt {Q : Bool → SortSt → Prop} {i sa na pw nb pw' : Nat} (hO : κ.OneLt) (hk : kindOf st = oneType') (hf : failedOf st = none) (hy : ∀ i (h : i < (arrOf st).size), HasKey κ (arrOf st)[i]) (hp1 : (pendingOf st)[i]? = some (sa, na, pw)) (hp2 : (pendingOf st)[i + 1]? = some (sa + na, nb, pw'))
    (h0 : 0 < na) (h1 : 0 < nb) (hz : sa + na + nb ≤ (arrOf st).size) (S1 : Seg κ (arrOf st) sa (sa + na)) (S2 : Seg κ (arrOf st) (sa + na) (sa + na + nb))
    (h : ∀ arr' g, arr'.Perm (arrOf st) → Seg κ arr' sa (sa + na + nb) → (∀ k, k < sa ∨ sa + na + nb ≤ k → arr'[k]? = (arrOf st)[k]?) → Q true (stOf st arr' (((pendingOf st).setIfInBounds i (sa, na + nb, pw)).eraseIdxIfInBounds (i + 1)) g)) :
    wpS (model prog w) A E s (mergeAt' i) Q st := by
  have e0 : mergeAt' i = ((get : StateT SortSt Sem SortSt) >>= (_ : SortSt → StateT SortSt Sem Bool)) := rfl
  rw [e0]
  refine wpS_bind (wpS_get ?_)
  rw [hp1, hp2]
  show wpS _ _ _ _ (set (setPending st (((pendingOf st).setIfInBounds i (sa, na + nb, pw)).eraseIdxIfInBounds (i + 1))) >>= fun _ => mAt1 (arrOf st) sa na (sa + na) nb) Q st
  refine wpS_bind (wpS_set ?_)
  unfold mAt1
  refine wpS_bind (wpS_elem (by omega) ?_)
  generalize hP : ((pendingOf st).setIfInBounds i (sa, na + nb, pw)).eraseIdxIfInBounds (i + 1) = P at *
  have seg1 : ∀ i j (hi : i < (arrOf st).size) (hj : j < (arrOf st).size), sa ≤ i → i ≤ j → j < sa + na → Le κ (arrOf st)[i] (arrOf st)[j] := fun i j hi hj g1 g2 g3 => by
    have := S1 i j g1 g2 g3
    rw [KK_at hi, KK_at hj] at this
    exact this
  have seg2 : ∀ i j (hi : i < (arrOf st).size) (hj : j < (arrOf st).size), sa + na ≤ i → i ≤ j → j < sa + na + nb → Le κ (arrOf st)[i] (arrOf st)[j] := fun i j hi hj g1 g2 g3 => by
    have := S2 i j g1 g2 g3
    rw [KK_at hi, KK_at hj] at this
    exact this
  refine wpS_bind (wpS_gal (st := setPending st P) (κ := κ) hO hk (hy _ (by omega)) (by omega) h0 hy seg1 fun k k1 k2 k3 => ?_)
  have kk : ∀ i (hi : i < (arrOf st).size), KK κ (arrOf st) i = kq κ (arrOf st)[i] := fun i hi => KK_at hi
  have F1 : ∀ i, sa ≤ i → i < sa + k → κ.kle (KK κ (arrOf st) i) (KK κ (arrOf st) (sa + na)) := fun i g1 g2 => by
    rw [kk i (by omega), kk (sa + na) (by omega)]
    exact bey_ft (k2 i (by omega) g1 g2)
  show wpS _ _ _ _ (mAt2 (arrOf st) (sa + k) (na - k) (sa + na) nb) Q _
  unfold mAt2
  by_cases hk0 : na - k = 0
  · rw [if_pos (by simpa using hk0)]
    refine wpS_pure (h (arrOf st) (gallopOf st) (Array.Perm.refl _) (fun i j g1 g2 g3 => ?_) fun _ _ => rfl)
    by_cases hj : j < sa + na
    · exact S1 i j g1 g2 hj
    · by_cases hi : i < sa + na
      · exact KeyOrd.kle_trans (F1 i g1 (by omega)) (S2 (sa + na) j (by omega) (by omega) g3)
      · exact S2 i j (by omega) g2 g3
  · rw [if_neg (by simpa using hk0)]
    have eix : sa + k + (na - k) - 1 = sa + na - 1 := by omega
    rw [eix]
    refine wpS_bind (wpS_elem (by omega) ?_)
    refine wpS_bind (wpS_gal (st := setPending st P) (κ := κ) hO hk (hy _ (by omega)) (by omega) (by omega) hy seg2 fun m m1 m2 m3 => ?_)
    have F2 : ∀ j, sa + na + m ≤ j → j < sa + na + nb → κ.kle (KK κ (arrOf st) (sa + na - 1)) (KK κ (arrOf st) j) := fun j g1 g2 => by
      rw [kk j (by omega), kk (sa + na - 1) (by omega)]
      exact bey_tf (m3 j (by omega) g1 g2)
    dsimp only
    by_cases hm0 : m = 0
    · rw [if_pos (by simpa using hm0)]
      refine wpS_pure (h (arrOf st) (gallopOf st) (Array.Perm.refl _) (fun i j g1 g2 g3 => ?_) fun _ _ => rfl)
      by_cases hj : j < sa + na
      · exact S1 i j g1 g2 hj
      · by_cases hi : i < sa + na
        · exact KeyOrd.kle_trans (S1 i (sa + na - 1) g1 (by omega) (by omega)) (F2 j (by omega) g3)
        · exact S2 i j (by omega) g2 g3
    · rw [if_neg (by simpa using hm0)]
      unfold mAt3
      have sx : ((arrOf st).extract (sa + k) (sa + na)).size = na - k := by simp; omega
      have sy : ((arrOf st).extract (sa + na) (sa + na + m)).size = m := by simp; omega
      have SX : SL κ ((arrOf st).extract (sa + k) (sa + na)).toList := seg_sl (fun i j g1 g2 g3 => S1 i j (by omega) g2 g3) (by omega)
      have SY : SL κ ((arrOf st).extract (sa + na) (sa + na + m)).toList := seg_sl (fun i j g1 g2 g3 => S2 i j g1 g2 (by omega)) (by omega)
      have fin : ∀ (M : Array Keyed) (g : Nat), MGood κ ((arrOf st).extract (sa + k) (sa + na)).toList ((arrOf st).extract (sa + na) (sa + na + m)).toList M.toList → Q true (stOf st (writeAt (sa + k) M.toList (arrOf st)) P g) := by
        rintro M g ⟨hperm, hsl⟩
        have hlen : M.toList.length = na - k + m := by
          rw [hperm.length_eq, List.length_append, Array.length_toList, Array.length_toList, sx, sy]
        have hb : sa + k + M.toList.length ≤ (arrOf st).size := by omega
        have eXY : ((arrOf st).extract (sa + k) (sa + na)).toList ++ ((arrOf st).extract (sa + na) (sa + na + m)).toList = ((arrOf st).toList.drop (sa + k)).take M.toList.length := by
          rw [ext_list, ext_list, hlen, List.take_add, List.drop_drop]
          have e1 : sa + na - (sa + k) = na - k := by omega
          have e2 : sa + na + m - (sa + na) = m := by omega
          have e3 : sa + k + (na - k) = sa + na := by omega
          rw [e1, e2, e3]
        rw [eXY] at hperm
        have zone : ∀ i, sa + k ≤ i → i < sa + na + m → ∃ p, sa + k ≤ p ∧ p < sa + na + m ∧ KK κ (writeAt (sa + k) M.toList (arrOf st)) i = KK κ (arrOf st) p := fun i g1 g2 => by
          have hi : i - (sa + k) < M.toList.length := by omega
          have hw := write_at hb i
          rw [if_pos ⟨g1, by omega⟩, List.getElem?_eq_getElem hi] at hw
          have hmem := hperm.mem_iff.mp (List.getElem_mem hi)
          obtain ⟨q, hq, eq⟩ := List.mem_iff_getElem.mp hmem
          have hq' : q < M.toList.length := by
            have := hq
            rw [List.length_take] at this
            omega
          refine ⟨sa + k + q, by omega, by omega, KK_congr ?_⟩
          rw [hw, ← eq, List.getElem_take, List.getElem_drop, Array.getElem_toList, getElem?_pos (arrOf st) (sa + k + q) (by omega)]
        have off : ∀ i, i < sa + k ∨ sa + na + m ≤ i → (writeAt (sa + k) M.toList (arrOf st))[i]? = (arrOf st)[i]? := fun i g1 => by
          rw [write_at hb, if_neg (by omega)]
        have offK : ∀ i, i < sa + k ∨ sa + na + m ≤ i → KK κ (writeAt (sa + k) M.toList (arrOf st)) i = KK κ (arrOf st) i := fun i g1 => KK_congr (off i g1)
        refine h _ g (write_perm hb hperm) (fun i j g1 g2 g3 => ?_) fun i g1 => off i (by omega)
        by_cases zi : i < sa + k
        · rw [offK i (.inl zi)]
          by_cases zj : j < sa + k
          · rw [offK j (.inl zj)]
            exact S1 i j g1 g2 (by omega)
          · by_cases zj2 : j < sa + na + m
            · obtain ⟨p, p1, p2, ep⟩ := zone j (by omega) zj2
              rw [ep]
              by_cases hp : p < sa + na
              · exact S1 i p g1 (by omega) hp
              · exact KeyOrd.kle_trans (F1 i g1 zi) (S2 (sa + na) p (by omega) (by omega) (by omega))
            · rw [offK j (.inr (by omega))]
              exact KeyOrd.kle_trans (F1 i g1 zi) (S2 (sa + na) j (by omega) (by omega) g3)
        · by_cases zi2 : i < sa + na + m
          · by_cases zj2 : j < sa + na + m
            · have hi : i - (sa + k) < M.toList.length := by omega
              have hj : j - (sa + k) < M.toList.length := by omega
              have wi := write_at hb i
              have wj := write_at hb j
              rw [if_pos ⟨by omega, by omega⟩, List.getElem?_eq_getElem hi] at wi
              rw [if_pos ⟨by omega, by omega⟩, List.getElem?_eq_getElem hj] at wj
              have ki : KK κ (writeAt (sa + k) M.toList (arrOf st)) i = kq κ (M.toList[i - (sa + k)]) := by unfold KK kq; rw [wi]
              have kj : KK κ (writeAt (sa + k) M.toList (arrOf st)) j = kq κ (M.toList[j - (sa + k)]) := by unfold KK kq; rw [wj]
              rw [ki, kj]
              rcases Nat.lt_or_ge i j with hlt | hge
              · exact List.pairwise_iff_getElem.mp hsl _ _ hi hj (by omega)
              · have : i = j := by omega
                subst this
                exact KeyOrd.kle_refl _
            · obtain ⟨p, p1, p2, ep⟩ := zone i (by omega) zi2
              rw [ep, offK j (.inr (by omega))]
              by_cases hp : p < sa + na
              · exact KeyOrd.kle_trans (S1 p (sa + na - 1) (by omega) (by omega) (by omega)) (F2 j (by omega) g3)
              · exact S2 p j (by omega) (by omega) g3
          · rw [offK i (.inr (by omega)), offK j (.inr (by omega))]
            exact S2 i j (by omega) g2 g3
      have kX : ∀ i (h : i < ((arrOf st).extract (sa + k) (sa + na)).size), HasKey κ ((arrOf st).extract (sa + k) (sa + na))[i] := fun i hi => by
        rw [Array.getElem_extract]; exact hy _ _
      have kY : ∀ i (h : i < ((arrOf st).extract (sa + na) (sa + na + m)).size), HasKey κ ((arrOf st).extract (sa + na) (sa + na + m))[i] := fun i hi => by
        rw [Array.getElem_extract]; exact hy _ _
      have lastF : ∀ j (hj : j < ((arrOf st).extract (sa + na) (sa + na + m)).size) (h' : ((arrOf st).extract (sa + k) (sa + na)).size - 1 < ((arrOf st).extract (sa + k) (sa + na)).size), Le κ ((arrOf st).extract (sa + na) (sa + na + m))[j] ((arrOf st).extract (sa + k) (sa + na))[((arrOf st).extract (sa + k) (sa + na)).size - 1] := fun j hj h' => by
        rw [Array.getElem_extract, Array.getElem_extract]
        have e : sa + k + (((arrOf st).extract (sa + k) (sa + na)).size - 1) = sa + na - 1 := by omega
        have := bey_tt (m2 (sa + na + j) (by omega) (by omega) (by omega))
        simp only [e]
        exact this
      have firstF : ∀ i (hi : i < ((arrOf st).extract (sa + k) (sa + na)).size) (h' : 0 < ((arrOf st).extract (sa + na) (sa + na + m)).size), Le κ ((arrOf st).extract (sa + na) (sa + na + m))[0] ((arrOf st).extract (sa + k) (sa + na))[i] := fun i hi h' => by
        rw [Array.getElem_extract, Array.getElem_extract]
        exact KeyOrd.kle_of_klt (bey_ff (k3 (sa + k + i) (by omega) (by omega) (by omega)))
      split
      · refine wpS_bind (wpS_mergeLo (st := setPending st P) hO hk ⟨kX, kY, SX, SY, lastF⟩ (by omega) (by omega) (fun i hi => firstF i hi (by omega)) fun M g hM => ?_)
        refine wpS_bind (wpS_modify ?_)
        refine wpS_bind (wpS_get ?_)
        refine wpS_pure ?_
        have := fin M g hM
        have ef : (failedOf (stOf st (writeAt (sa + k) M.toList (arrOf st)) P g)).isNone = true := by show (failedOf st).isNone = true; rw [hf]; rfl
        show Q (failedOf (stOf st (writeAt (sa + k) M.toList (arrOf st)) P g)).isNone _
        rw [ef]
        exact this
      · refine wpS_bind (wpS_mergeHi (st := setPending st P) hO hk ⟨kX, kY, SX, SY, firstF⟩ (by omega) (by omega) (fun j hj => lastF j hj (by omega)) fun M g hM => ?_)
        refine wpS_bind (wpS_modify ?_)
        refine wpS_bind (wpS_get ?_)
        refine wpS_pure ?_
        have := fin M g hM
        have ef : (failedOf (stOf st (writeAt (sa + k) M.toList (arrOf st)) P g)).isNone = true := by show (failedOf st).isNone = true; rw [hf]; rfl
        show Q (failedOf (stOf st (writeAt (sa + k) M.toList (arrOf st)) P g)).isNone _
        rw [ef]
        exact this
end
end Tim
set_option Elab.async false
set_option linter.all false
set_option maxRecDepth 100000
namespace Tim
open PySem PyProof.Rows
def ascL (lo a nrem : Nat) : StateT SortSt Sem AscSt :=
  forIn [a:nrem] ((none, a) : AscSt) fun _ c => do
    let x ← ltAt' (lo + c.snd) (lo + c.snd - 1)
    match x with
    | some smaller => if smaller = true then pure (ForInStep.done (none, c.snd)) else pure (ForInStep.yield (none, c.snd + 1))
    | _ => pure (ForInStep.done (some none, c.snd))
def tailL (lo n nrem : Nat) : StateT SortSt Sem (Option Nat) := do
  reverseSlice' lo (lo + n)
  let c ← ascL lo n nrem
  match c.fst with
  | some r => pure r
  | none => pure (some c.snd)
def descL (lo n nrem : Nat) : StateT SortSt Sem DescSt :=
  forIn [n:nrem] ((none, n, 0) : DescSt) fun _ c => do
    let x ← ltAt' (lo + c.snd.fst) (lo + c.snd.fst - 1)
    match x with
    | some smaller =>
      if smaller = true then
        if c.snd.snd > 0 then do
          reverseSlice' (lo + c.snd.fst - (c.snd.snd + 1)) (lo + c.snd.fst)
          pure (ForInStep.yield (none, c.snd.fst + 1, 0))
        else pure (ForInStep.yield (none, c.snd.fst + 1, 0))
      else do
        let x ← ltAt' (lo + c.snd.fst - 1) (lo + c.snd.fst)
        match x with
        | some larger =>
          if larger = true then pure (ForInStep.done (none, c.snd.fst, c.snd.snd))
          else pure (ForInStep.yield (none, c.snd.fst + 1, c.snd.snd + 1))
        | _ => pure (ForInStep.done (some none, c.snd.fst, c.snd.snd))
    | _ => pure (ForInStep.done (some none, c.snd.fst, c.snd.snd))
def partL (lo n nrem : Nat) : StateT SortSt Sem (Option Nat) := do
  liftM (rule "list.sort.descending-run")
  let c ← descL lo (n + 1) nrem
  match c.fst with
  | some r => pure r
  | none =>
    if c.snd.snd > 0 then do
      reverseSlice' (lo + c.snd.fst - (c.snd.snd + 1)) (lo + c.snd.fst)
      tailL lo c.snd.fst nrem
    else tailL lo c.snd.fst nrem
theorem countRunL_eq (lo nrem : Nat) : countRun' lo nrem = (do
    let c ← ascL lo 1 nrem
    match c.fst with
    | some r => pure r
    | none =>
      if (c.snd == nrem) = true then pure (some c.snd)
      else if c.snd > 1 then do
        let x ← ltAt' lo (lo + c.snd - 1)
        match x with
        | some rose => if rose = true then pure (some c.snd) else do
            reverseSlice' lo (lo + c.snd)
            partL lo c.snd nrem
        | _ => pure none
      else partL lo c.snd nrem) := by
  rw [countRun'_eq]
  dsimp only
  unfold partL tailL descL ascL
  congr 1
  funext c
  obtain ⟨r, n⟩ := c
  cases r with
  | some r => rfl
  | none =>
    dsimp only
    split
    · rfl
    · split
      · congr 1
        funext x
        cases x with
        | none => rfl
        | some rose =>
          dsimp only
          split
          · rfl
          · congr 1
            funext _r
            congr 1
            funext u1
            congr 1
            congr 1
            funext d
            obtain ⟨d1, d2, d3⟩ := d
            cases d1 with
            | some _ => rfl
            | none =>
              dsimp only
              split
              · congr 1
                funext u2
                congr 1
                funext u3
                congr 1
                funext e
                obtain ⟨e1, e2⟩ := e
                cases e1 <;> rfl
              · congr 1
                funext u3
                congr 1
                funext e
                obtain ⟨e1, e2⟩ := e
                cases e1 <;> rfl
      · congr 1
        funext u1
        congr 1
        congr 1
        funext d
        obtain ⟨d1, d2, d3⟩ := d
        cases d1 with
        | some _ => rfl
        | none =>
          dsimp only
          split
          · congr 1
            funext u2
            congr 1
            funext u3
            congr 1
            funext e
            obtain ⟨e1, e2⟩ := e
            cases e1 <;> rfl
          · congr 1
            funext u3
            congr 1
            funext e
            obtain ⟨e1, e2⟩ := e
            cases e1 <;> rfl
section
variable {prog : Program} {w : World} {A : Around} {E : Value → Shared → Prop} {s : Shared} {a₀ ar0 : Array Keyed} {κ : KeyKind} {P : Array (Nat × Nat × Nat)} {lo : Nat}
structure TB (a₀ : Array Keyed) (P : Array (Nat × Nat × Nat)) (lo : Nat) (ar0 : Array Keyed) (st : SortSt) : Prop where
  perm : (arrOf st).Perm a₀
  kind : kindOf st = oneType'
  failed : failedOf st = none
  pend : pendingOf st = P
  low : ∀ k, k < lo → (arrOf st)[k]? = ar0[k]?
theorem TB.size {st : SortSt} (h : TB a₀ P lo ar0 st) : (arrOf st).size = a₀.size := h.perm.size_eq
theorem TB.setArr {st : SortSt} (h : TB a₀ P lo ar0 st) {xs : Array Keyed} (hp : xs.Perm (arrOf st)) (hl : ∀ k, k < lo → xs[k]? = (arrOf st)[k]?) : TB a₀ P lo ar0 (setArr st xs) :=
  ⟨hp.trans h.perm, h.kind, h.failed, h.pend, fun k hk => (hl k hk).trans (h.low k hk)⟩
theorem TB.mir {st : SortSt} (h : TB a₀ P lo ar0 st) {i j : Nat} (hi : lo ≤ i) (hj : j ≤ a₀.size) : TB a₀ P lo ar0 (PyProof.Rows.setArr st (mirror (arrOf st) i j ((j - i) / 2))) :=
  h.setArr (mirror_perm _ _ _ _) fun k hk => by rw [getElem?_mirror_all (by rw [h.size]; exact hj), if_neg (by omega)]
theorem TB.key {st : SortSt} (T : TB a₀ P lo ar0 st) (keys : KeysOf κ a₀) {i : Nat} (below : i < a₀.size) : ∃ li : i < (arrOf st).size, HasKey κ ((arrOf st)[i]) :=
  ⟨by rw [T.size]; exact below, keys _ ((Array.perm_iff_toList_perm.mp T.perm).mem_iff.mp (Array.getElem_mem_toList _))⟩
theorem wpS_ltT {st : SortSt} {i j : Nat} {Q : Option Bool → SortSt → Prop} (hO : κ.OneLt) (T : TB a₀ P lo ar0 st) (keys : KeysOf κ a₀) (bi : i < a₀.size) (bj : j < a₀.size) (q : Q (some (κ.blt (KK κ (arrOf st) i) (KK κ (arrOf st) j))) st) :
    wpS (model prog w) A E s (ltAt' i j) Q st := by
  obtain ⟨li, u, ku⟩ := T.key keys bi
  obtain ⟨lj, v, kv⟩ := T.key keys bj
  rw [KK_at li, KK_at lj] at q
  unfold kq at q
  rw [ku, kv] at q
  exact wpS_ltAtK (p := (arrOf st)[i].2) (q := (arrOf st)[j].2) hO T.kind (getElem?_pos _ i li) (getElem?_pos _ j lj) ku kv q
def Dsg (κ : KeyKind) (arr : Array Keyed) (lo hi : Nat) : Prop := ∀ i j, lo ≤ i → i ≤ j → j < hi → κ.kle (KK κ arr j) (KK κ arr i)
theorem grown {R : Nat → Nat → Prop} (refl : ∀ i, R i i) (trans : ∀ i j k, R i j → R j k → R i k) {lo top : Nat} (low : lo < top) (old : ∀ i j, lo ≤ i → i ≤ j → j < top → R i j) (new : R (top - 1) top) : ∀ i j, lo ≤ i → i ≤ j → j < top + 1 → R i j := fun i j a b c => by
  rcases Nat.lt_or_ge j top with d | d
  · exact old i j a b d
  have ej : j = top := by omega
  rcases Nat.lt_or_ge i j with f | f
  · rw [ej]; exact trans _ _ _ (old i (top - 1) a (by omega) (by omega)) new
  · rw [show i = j by omega]; exact refl j
theorem Seg.grow {arr : Array Keyed} {lo top : Nat} (low : lo < top) (g : Seg κ arr lo top) (n : κ.kle (KK κ arr (top - 1)) (KK κ arr top)) : Seg κ arr lo (top + 1) :=
  grown (R := fun i j => κ.kle (KK κ arr i) (KK κ arr j)) (fun _ => KeyOrd.kle_refl _) (fun _ _ _ => KeyOrd.kle_trans) low g n
theorem Dsg.grow {arr : Array Keyed} {lo top : Nat} (low : lo < top) (g : Dsg κ arr lo top) (n : κ.kle (KK κ arr top) (KK κ arr (top - 1))) : Dsg κ arr lo (top + 1) :=
  grown (R := fun i j => κ.kle (KK κ arr j) (KK κ arr i)) (fun _ => KeyOrd.kle_refl _) (fun _ _ _ a b => KeyOrd.kle_trans b a) low g n
theorem Seg.one {arr : Array Keyed} {lo : Nat} : Seg κ arr lo (lo + 1) := fun i j a b c => by rw [show i = j by omega]; exact KeyOrd.kle_refl _
theorem Dsg.one {arr : Array Keyed} {lo : Nat} : Dsg κ arr lo (lo + 1) := fun i j a b c => by rw [show i = j by omega]; exact KeyOrd.kle_refl _
theorem Dsg.like {arr ys : Array Keyed} {lo hi : Nat} (g : Dsg κ arr lo hi) (e : ∀ k, KK κ ys k = KK κ arr k) : Dsg κ ys lo hi := fun i j a b c => by rw [e i, e j]; exact g i j a b c
abbrev Found (a₀ : Array Keyed) (κ : KeyKind) (P : Array (Nat × Nat × Nat)) (lo : Nat) (ar0 : Array Keyed) (nrem : Nat) (Q : Option Nat → SortSt → Prop) : Prop :=
  ∀ (m : Nat) (sn : SortSt), TB a₀ P lo ar0 sn → 1 ≤ m → m ≤ nrem → Seg κ (arrOf sn) lo (lo + m) → Q (some m) sn
theorem wpS_ascL {st : SortSt} {a nrem : Nat} {Q : AscSt → SortSt → Prop} (hO : κ.OneLt) (keys : KeysOf κ a₀) (room : lo + nrem ≤ a₀.size) (pos : 0 < a) (le : a ≤ nrem) (T : TB a₀ P lo ar0 st) (G : Seg κ (arrOf st) lo (lo + a))
    (q : ∀ n, a ≤ n → n ≤ nrem → Seg κ (arrOf st) lo (lo + n) → (n < nrem → κ.klt (KK κ (arrOf st) (lo + n)) (KK κ (arrOf st) (lo + n - 1))) → Q (none, n) st) : wpS (model prog w) A E s (ascL lo a nrem) Q st := by
  refine wpS_forRange (I := fun n c sn => sn = st ∧ c = (none, n) ∧ Seg κ (arrOf st) lo (lo + n)) (fun n c sn an bn J => ?_) (fun c sn J => ?_) ⟨rfl, rfl, G⟩
  · obtain ⟨rfl, rfl, Gn⟩ := J
    refine wpS_bind (wpS_ltT hO T keys (i := lo + n) (j := lo + n - 1) (by omega) (by omega) ?_)
    cases c : κ.blt (KK κ (arrOf sn) (lo + n)) (KK κ (arrOf sn) (lo + n - 1)) with
    | true => exact wpS_pure (q n an (Nat.le_of_lt bn) Gn fun _ => c)
    | false => exact wpS_pure ⟨rfl, rfl, Seg.grow (top := lo + n) (by omega) Gn c⟩
  · obtain ⟨rfl, rfl, Gn⟩ := J
    have e : max a nrem = nrem := by omega
    rw [e] at Gn ⊢
    exact q nrem le (Nat.le_refl _) Gn fun z => absurd z (Nat.lt_irrefl _)
theorem wpS_tailL {st : SortSt} {n nrem : Nat} {Q : Option Nat → SortSt → Prop} (hO : κ.OneLt) (keys : KeysOf κ a₀) (room : lo + nrem ≤ a₀.size) (pos : 0 < n) (le : n ≤ nrem) (T : TB a₀ P lo ar0 st) (D : Dsg κ (arrOf st) lo (lo + n))
    (q : Found a₀ κ P lo ar0 nrem Q) : wpS (model prog w) A E s (tailL lo n nrem) Q st := by
  have T1 := T.mir (i := lo) (j := lo + n) (Nat.le_refl _) (by omega)
  have z : lo + n ≤ (arrOf st).size := by rw [T.size]; omega
  refine wpS_bind (wpS_reverse (wpS_bind (wpS_ascL hO keys room pos le T1 (fun i j a b c => ?_) fun m am bm Gm _ => wpS_pure (q m _ T1 (by omega) bm Gm))))
  have em := fun k => KK_mirror (κ := κ) (i := lo) z k
  have ei := em i
  have ej := em j
  rw [if_pos ⟨a, by omega⟩] at ei
  rw [if_pos ⟨by omega, c⟩] at ej
  exact ei ▸ ej ▸ D (lo + (lo + n) - 1 - j) (lo + (lo + n) - 1 - i) (by omega) (by omega) (by omega)
def Flat (κ : KeyKind) (arr : Array Keyed) (top neq : Nat) : Prop := ∀ k, top - (neq + 1) ≤ k → k < top → KK κ arr k = KK κ arr (top - 1)
theorem wpS_descL {st : SortSt} {n nrem : Nat} {Q : DescSt → SortSt → Prop} (hO : κ.OneLt) (keys : KeysOf κ a₀) (room : lo + nrem ≤ a₀.size) (pos : 0 < n) (le : n ≤ nrem) (T : TB a₀ P lo ar0 st) (D : Dsg κ (arrOf st) lo (lo + n))
    (q : ∀ m neq sn, TB a₀ P lo ar0 sn → n ≤ m → m ≤ nrem → Dsg κ (arrOf sn) lo (lo + m) → neq < m → Flat κ (arrOf sn) (lo + m) neq → Q (none, m, neq) sn) : wpS (model prog w) A E s (descL lo n nrem) Q st := by
  have flat0 : ∀ (arr : Array Keyed) (t : Nat), Flat κ arr t 0 := fun arr t k a b => by rw [show k = t - 1 by omega]
  refine wpS_forRange (I := fun m c sn => ∃ neq, c = (none, m, neq) ∧ TB a₀ P lo ar0 sn ∧ Dsg κ (arrOf sn) lo (lo + m) ∧ neq < m ∧ Flat κ (arrOf sn) (lo + m) neq) (fun m c sn am bm J => ?_) (fun c sn J => ?_) ⟨0, rfl, T, D, pos, flat0 _ _⟩
  · obtain ⟨neq, rfl, Tn, Dn, ln, fl⟩ := J
    have z : lo + m ≤ (arrOf sn).size := by rw [Tn.size]; omega
    refine wpS_bind (wpS_ltT hO Tn keys (i := lo + m) (j := lo + m - 1) (by omega) (by omega) ?_)
    cases c : κ.blt (KK κ (arrOf sn) (lo + m)) (KK κ (arrOf sn) (lo + m - 1)) with
    | true =>
      have D1 := Dsg.grow (top := lo + m) (by omega) Dn (KeyOrd.kle_of_klt (show κ.klt _ _ from c))
      have T1 := Tn.mir (i := lo + m - (neq + 1)) (j := lo + m) (by omega) (by omega)
      by_cases more : neq > 0
      · show wpS _ _ _ _ (if neq > 0 then _ else _) _ _
        rw [if_pos more]
        exact wpS_bind (wpS_reverse (wpS_pure ⟨0, rfl, T1, D1.like (KK_mirror_equal z fl), by omega, flat0 _ _⟩))
      · show wpS _ _ _ _ (if neq > 0 then _ else _) _ _
        rw [if_neg more]
        exact wpS_pure ⟨0, rfl, Tn, D1, by omega, flat0 _ _⟩
    | false =>
      show wpS _ _ _ _ (ltAt' (lo + m - 1) (lo + m) >>= _) _ _
      refine wpS_bind (wpS_ltT hO Tn keys (i := lo + m - 1) (j := lo + m) (by omega) (by omega) ?_)
      cases d : κ.blt (KK κ (arrOf sn) (lo + m - 1)) (KK κ (arrOf sn) (lo + m)) with
      | true => exact wpS_pure (q m neq sn Tn am (by omega) Dn ln fl)
      | false =>
        have eq : KK κ (arrOf sn) (lo + m) = KK κ (arrOf sn) (lo + m - 1) := KeyOrd.kle_antisymm d c
        refine wpS_pure ⟨neq + 1, rfl, Tn, Dsg.grow (top := lo + m) (by omega) Dn d, by omega, fun k a b => ?_⟩
        show _ = KK κ (arrOf sn) (lo + m)
        rcases Nat.lt_or_ge k (lo + m) with f | f
        · rw [eq]; exact fl k (by omega) f
        · rw [show k = lo + m by omega]
  · obtain ⟨neq, rfl, Tn, Dn, ln, fl⟩ := J
    have e : max n nrem = nrem := by omega
    rw [e] at Dn ln fl ⊢
    exact q nrem neq sn Tn le (Nat.le_refl _) Dn ln fl
theorem wpS_partL {st : SortSt} {n nrem : Nat} {Q : Option Nat → SortSt → Prop} (hO : κ.OneLt) (keys : KeysOf κ a₀) (room : lo + nrem ≤ a₀.size) (le : n + 1 ≤ nrem) (T : TB a₀ P lo ar0 st) (D : Dsg κ (arrOf st) lo (lo + n + 1))
    (q : Found a₀ κ P lo ar0 nrem Q) : wpS (model prog w) A E s (partL lo n nrem) Q st := by
  refine wpS_bind (wpS_lift (wpAny_rule ⟨rfl, wpS_bind (wpS_descL hO keys room (Nat.succ_pos n) le T D fun m neq sn Tn am bm Dn ln fl => ?_)⟩))
  have z : lo + m ≤ (arrOf sn).size := by rw [Tn.size]; omega
  have m0 : 0 < m := by omega
  have T1 := Tn.mir (i := lo + m - (neq + 1)) (j := lo + m) (by omega) (by omega)
  show wpS _ _ _ _ (if neq > 0 then _ else _) _ _
  split
  · exact wpS_bind (wpS_reverse (wpS_tailL (n := m) hO keys room m0 bm T1 (Dn.like (KK_mirror_equal z fl)) q))
  · exact wpS_tailL (n := m) hO keys room m0 bm Tn Dn q
theorem wpS_countL {st : SortSt} {nrem : Nat} {Q : Option Nat → SortSt → Prop} (hO : κ.OneLt) (keys : KeysOf κ a₀) (room : lo + nrem ≤ a₀.size) (pos : 1 ≤ nrem) (T : TB a₀ P lo ar0 st)
    (q : Found a₀ κ P lo ar0 nrem Q) : wpS (model prog w) A E s (countRun' lo nrem) Q st := by
  rw [countRunL_eq]
  refine wpS_bind (wpS_ascL hO keys room Nat.one_pos pos T Seg.one fun n an bn Gn ends => ?_)
  show wpS _ _ _ _ (if (n == nrem) = true then _ else if n > 1 then _ else _) _ _
  by_cases all : n = nrem
  · rw [if_pos (beq_iff_eq.mpr all)]
    exact wpS_pure (q n st T an bn Gn)
  rw [if_neg (fun z => all (beq_iff_eq.mp z))]
  have falls := ends (by omega)
  have z : lo + n ≤ (arrOf st).size := by rw [T.size]; omega
  by_cases more : n > 1
  · rw [if_pos more]
    refine wpS_bind (wpS_ltT hO T keys (i := lo) (j := lo + n - 1) (by omega) (by omega) ?_)
    cases c : κ.blt (KK κ (arrOf st) lo) (KK κ (arrOf st) (lo + n - 1)) with
    | true => exact wpS_pure (q n st T an bn Gn)
    | false =>
      have alike : ∀ k, lo ≤ k → k < lo + n → KK κ (arrOf st) k = KK κ (arrOf st) (lo + n - 1) := fun k a b =>
        KeyOrd.kle_antisymm (Gn k (lo + n - 1) a (by omega) (by omega)) (KeyOrd.kle_trans (show κ.kle _ _ from c) (Gn lo k (Nat.le_refl _) a b))
      have D0 : Dsg κ (arrOf st) lo (lo + n) := fun i j a b d => by rw [alike i a (by omega), alike j (by omega) d]; exact KeyOrd.kle_refl _
      show wpS _ _ _ _ (reverseSlice' lo (lo + n) >>= _) _ _
      exact wpS_bind (wpS_reverse (wpS_partL hO keys room (by omega) (T.mir (Nat.le_refl _) (by omega)) ((D0.grow (by omega) (KeyOrd.kle_of_klt falls)).like (KK_mirror_equal z alike)) q))
  · rw [if_neg more]
    have e : n = 1 := by omega
    subst e
    exact wpS_partL hO keys room (by omega) T (Dsg.one.grow (by omega) (KeyOrd.kle_of_klt falls)) q
theorem wpS_binL {st : SortSt} {n ok : Nat} {Q : Bool → SortSt → Prop} (hO : κ.OneLt) (keys : KeysOf κ a₀) (room : lo + n ≤ a₀.size) (le : ok ≤ n) (T : TB a₀ P lo ar0 st) (G : Seg κ (arrOf st) lo (lo + ok))
    (q : ∀ sn, TB a₀ P lo ar0 sn → Seg κ (arrOf sn) lo (lo + n) → Q true sn) : wpS (model prog w) A E s (binarySort' lo n ok) Q st := by
  rw [binarySort'_eq]
  refine wpS_bind (wpS_mono (wpS_forRange (I := fun k c sn => c = (none, ()) ∧ TB a₀ P lo ar0 sn ∧ Seg κ (arrOf sn) lo (lo + min k n)) (Q := fun c sn => c = (none, ()) ∧ TB a₀ P lo ar0 sn ∧ Seg κ (arrOf sn) lo (lo + n)) (fun k c sn ak bk J => ?_) (fun c sn J => ?_) ⟨rfl, T, fun i j a b c => ?_⟩) fun c sn J => ?_)
  · obtain ⟨rfl, Tn, Gn⟩ := J
    have e : min k n = k := by omega
    rw [e] at Gn
    have z : lo + k < (arrOf sn).size := by rw [Tn.size]; omega
    refine wpS_bind (wpS_mono (wpS_forRange (I := fun y d sm => sm = sn ∧ ∃ l r, d = (none, l, r) ∧ l ≤ r ∧ r ≤ k ∧ r - l + y ≤ k ∧ (∀ i, lo ≤ i → i < lo + l → κ.kle (KK κ (arrOf sn) i) (KK κ (arrOf sn) (lo + k))) ∧ ∀ i, lo + r ≤ i → i < lo + k → κ.klt (KK κ (arrOf sn) (lo + k)) (KK κ (arrOf sn) i))
      (Q := fun d sm => sm = sn ∧ ∃ l, d = (none, l, l) ∧ l ≤ k ∧ (∀ i, lo ≤ i → i < lo + l → κ.kle (KK κ (arrOf sn) i) (KK κ (arrOf sn) (lo + k))) ∧ ∀ i, lo + l ≤ i → i < lo + k → κ.klt (KK κ (arrOf sn) (lo + k)) (KK κ (arrOf sn) i))
      (fun y d sm ay bY J => ?_) (fun d sm J => ?_) ⟨rfl, 0, k, rfl, Nat.zero_le _, Nat.le_refl _, by omega, fun i a b => by omega, fun i a b => by omega⟩) fun d sm J => ?_)
    · obtain ⟨rfl, l, r, rfl, lr, rk, fuel, below, above⟩ := J
      show wpS _ _ _ _ (if l ≥ r then _ else _) _ _
      by_cases meet : l ≥ r
      · rw [if_pos meet]
        have e : l = r := by omega
        subst e
        exact wpS_pure ⟨rfl, l, rfl, rk, below, above⟩
      rw [if_neg meet]
      refine wpS_bind (wpS_ltT hO Tn keys (i := lo + k) (j := lo + (l + r) / 2) (by omega) (by omega) ?_)
      cases c : κ.blt (KK κ (arrOf sm) (lo + k)) (KK κ (arrOf sm) (lo + (l + r) / 2)) with
      | true => exact wpS_pure ⟨rfl, l, (l + r) / 2, rfl, by omega, by omega, by omega, below, fun i a b => KeyOrd.klt_of_klt_of_kle (show κ.klt _ _ from c) (Gn _ i (by omega) a b)⟩
      | false => exact wpS_pure ⟨rfl, (l + r) / 2 + 1, r, rfl, by omega, rk, by omega, fun i a b => KeyOrd.kle_trans (Gn i _ a (by omega) (by omega)) (show κ.kle _ _ from c), above⟩
    · obtain ⟨rfl, l, r, rfl, lr, rk, fuel, below, above⟩ := J
      have e : l = r := by omega
      subst e
      exact ⟨rfl, l, rfl, rk, below, above⟩
    · obtain ⟨rfl, l, rfl, lk, below, above⟩ := J
      show wpS _ _ _ _ (moveDown' (lo + k) (lo + l) >>= fun _ => pure (ForInStep.yield (none, ()))) _ _
      rw [moveDown'_eq]
      have steps : lo + k - (lo + l) ≤ lo + k := Nat.sub_le _ _
      have land : lo + k - (lo + k - (lo + l)) = lo + l := by omega
      refine wpS_bind (wpS_modify (wpS_pure ⟨rfl, Tn.setArr (bubble_perm _ _ _) (fun i a => ?_), fun i j a b c => ?_⟩))
      · rw [getElem?_bubble z _ steps, if_neg (by omega), if_neg (by omega)]
      have e1 : min (k + 1) n = k + 1 := by omega
      rw [e1] at c
      have at_ := fun p => KK_bubble (κ := κ) z steps p
      rw [land] at at_
      have ki := at_ i
      have kj := at_ j
      show κ.kle (KK κ (bubble (arrOf sm) (lo + k) (lo + k - (lo + l))) i) (KK κ (bubble (arrOf sm) (lo + k) (lo + k - (lo + l))) j)
      rw [ki, kj]
      rcases Nat.lt_trichotomy i (lo + l) with f | f | f
      · rw [if_neg (Nat.ne_of_lt f), if_neg (by omega)]
        rcases Nat.lt_trichotomy j (lo + l) with g | g | g
        · rw [if_neg (Nat.ne_of_lt g), if_neg (by omega)]
          exact Gn i j a b (by omega)
        · rw [if_pos g]
          exact below i a f
        · rw [if_neg (Nat.ne_of_gt g), if_pos ⟨g, by omega⟩]
          exact Gn i (j - 1) a (by omega) (by omega)
      · rw [if_pos f]
        rcases Nat.lt_or_ge i j with g | g
        · rw [if_neg (by omega), if_pos (by omega)]
          exact KeyOrd.kle_of_klt (above (j - 1) (by omega) (by omega))
        · rw [if_pos (by omega)]
          exact KeyOrd.kle_refl _
      · rw [if_neg (Nat.ne_of_gt f), if_pos ⟨f, by omega⟩, if_neg (by omega), if_pos (by omega)]
        exact Gn (i - 1) (j - 1) (by omega) (by omega) (by omega)
  · obtain ⟨rfl, Tn, Gn⟩ := J
    have e : min (max (max ok 1) n) n = n := by omega
    rw [e] at Gn
    exact ⟨rfl, Tn, Gn⟩
  · rcases Nat.eq_zero_or_pos ok with e | e
    · rw [show i = j by omega]; exact KeyOrd.kle_refl _
    · exact G i j a b (by omega)
  · obtain ⟨rfl, Tn, Gn⟩ := J
    exact wpS_pure (q sn Tn Gn)
end
end Tim
set_option Elab.async false
set_option linter.all false
set_option maxRecDepth 100000
namespace Tim
open PySem PyProof.Rows
section
variable {prog : Program} {w : World} {A : Around} {E : Value → Shared → Prop} {s : Shared} {a₀ : Array Keyed} {κ : KeyKind}
def Chain (κ : KeyKind) (arr : Array Keyed) : Nat → List (Nat × Nat × Nat) → Nat → Prop
  | lo, [], hi => lo = hi
  | lo, p :: r, hi => p.1 = lo ∧ 0 < p.2.1 ∧ Seg κ arr lo (lo + p.2.1) ∧ Chain κ arr (lo + p.2.1) r hi
theorem chain_append {arr : Array Keyed} : ∀ {p q : List (Nat × Nat × Nat)} {lo hi : Nat}, Chain κ arr lo (p ++ q) hi ↔ ∃ mid, Chain κ arr lo p mid ∧ Chain κ arr mid q hi
  | [], q, lo, hi => by
    show Chain κ arr lo q hi ↔ ∃ mid, lo = mid ∧ Chain κ arr mid q hi
    constructor
    · intro h; exact ⟨lo, rfl, h⟩
    · rintro ⟨_, rfl, h⟩; exact h
  | x :: p, q, lo, hi => by
    have ih := chain_append (arr := arr) (p := p) (q := q) (lo := lo + x.2.1) (hi := hi)
    show (x.1 = lo ∧ 0 < x.2.1 ∧ Seg κ arr lo (lo + x.2.1) ∧ Chain κ arr (lo + x.2.1) (p ++ q) hi) ↔ ∃ mid, (x.1 = lo ∧ 0 < x.2.1 ∧ Seg κ arr lo (lo + x.2.1) ∧ Chain κ arr (lo + x.2.1) p mid) ∧ Chain κ arr mid q hi
    rw [ih]
    constructor
    · rintro ⟨h1, h2, h3, mid, h4, h5⟩; exact ⟨mid, ⟨h1, h2, h3, h4⟩, h5⟩
    · rintro ⟨mid, ⟨h1, h2, h3, h4⟩, h5⟩; exact ⟨h1, h2, h3, mid, h4, h5⟩
theorem chain_le {arr : Array Keyed} : ∀ {p : List (Nat × Nat × Nat)} {lo hi : Nat}, Chain κ arr lo p hi → lo + p.length ≤ hi
  | [], lo, hi, h => by have : lo = hi := h; simp; omega
  | x :: p, lo, hi, h => by
    obtain ⟨_, h2, _, h4⟩ := h
    have := chain_le h4
    rw [List.length_cons]
    omega
theorem chain_congr {arr arr' : Array Keyed} : ∀ {p : List (Nat × Nat × Nat)} {lo hi : Nat}, (∀ k, lo ≤ k → k < hi → arr'[k]? = arr[k]?) → Chain κ arr lo p hi → Chain κ arr' lo p hi
  | [], lo, hi, _, h => h
  | x :: p, lo, hi, e, h => by
    obtain ⟨h1, h2, h3, h4⟩ := h
    have hl := chain_le h4
    refine ⟨h1, h2, fun i j g1 g2 g3 => ?_, chain_congr (fun k g1 g2 => e k (by omega) g2) h4⟩
    rw [KK_congr (e i g1 (by omega)), KK_congr (e j (by omega) (by omega))]
    exact h3 i j g1 g2 g3
structure SInv (κ : KeyKind) (a₀ : Array Keyed) (hi : Nat) (st : SortSt) : Prop where
  perm : (arrOf st).Perm a₀
  kind : kindOf st = oneType'
  failed : failedOf st = none
  chain : Chain κ (arrOf st) 0 (pendingOf st).toList hi
theorem split2 {α : Type} {l : List α} {i : Nat} (h : i + 1 < l.length) : l = l.take i ++ l[i] :: l[i + 1] :: l.drop (i + 2) := by
  have e1 := List.take_append_drop i l
  rw [List.drop_eq_getElem_cons (by omega), List.drop_eq_getElem_cons h] at e1
  exact e1.symm
theorem merged_list {α : Type} {P : Array α} {i : Nat} {v : α} (h : i + 1 < P.size) : ((P.setIfInBounds i v).eraseIdxIfInBounds (i + 1)).toList = P.toList.take i ++ v :: P.toList.drop (i + 2) := by
  have hl : i + 1 < P.toList.length := by simpa using h
  have e := split2 hl
  have e1 : ((P.setIfInBounds i v).eraseIdxIfInBounds (i + 1)).toList = (P.toList.set i v).eraseIdx (i + 1) := by
    simp
  rw [e1]
  have lt : (P.toList.take i).length = i := by rw [List.length_take]; omega
  have e2 : P.toList.set i v = P.toList.take i ++ v :: P.toList[i + 1] :: P.toList.drop (i + 2) := by
    conv => lhs; rw [e]
    rw [List.set_append_right _ _ (by omega), lt, Nat.sub_self]
    rfl
  rw [e2, List.eraseIdx_append_of_length_le (by omega), lt]
  have : i + 1 - i = 1 := by omega
  rw [this]
  rfl
theorem wpS_step {st : SortSt} {Q : Bool → SortSt → Prop} {i hi : Nat} (hO : κ.OneLt) (h0 : KeysOf κ a₀) (S : SInv κ a₀ hi st) (hz : hi ≤ a₀.size) (h1 : i + 1 < (pendingOf st).size)
    (h : ∀ st', SInv κ a₀ hi st' → (pendingOf st').size + 1 = (pendingOf st).size → (∀ k, hi ≤ k → (arrOf st')[k]? = (arrOf st)[k]?) → Q true st') : wpS (model prog w) A E s (mergeAt' i) Q st := by
  have hl : i + 1 < (pendingOf st).toList.length := by simpa using h1
  have C := S.chain
  have eP := split2 hl
  rw [eP] at C
  obtain ⟨mid, c1, c2⟩ := chain_append.mp C
  obtain ⟨s1, l1, g1, c2⟩ := c2
  obtain ⟨s2, l2, g2, c3⟩ := c2
  have sz : (arrOf st).size = a₀.size := S.perm.size_eq
  have hc3 := chain_le c3
  have ht : (pendingOf st)[i]? = some (mid, (pendingOf st).toList[i].2.1, (pendingOf st).toList[i].2.2) := by
    rw [← Array.getElem?_toList, List.getElem?_eq_getElem (by omega), ← s1]
  have ht2 : (pendingOf st)[i + 1]? = some (mid + (pendingOf st).toList[i].2.1, (pendingOf st).toList[i + 1].2.1, (pendingOf st).toList[i + 1].2.2) := by
    rw [← Array.getElem?_toList, List.getElem?_eq_getElem hl, ← s2]
  refine wpS_mergeAt hO S.kind S.failed (fun j hj => ?_) ht ht2 l1 l2 (by omega) g1 g2 fun arr' g hp hs ho => ?_
  · exact h0 _ ((Array.perm_iff_toList_perm.mp S.perm).mem_iff.mp (by simp))
  · have el := merged_list (v := (mid, (pendingOf st).toList[i].2.1 + (pendingOf st).toList[i + 1].2.1, (pendingOf st).toList[i].2.2)) h1
    refine h _ ⟨hp.trans S.perm, S.kind, S.failed, ?_⟩ ?_ fun k hk => ho k (.inr (by omega))
    · show Chain κ arr' 0 _ hi
      show Chain κ arr' 0 (((pendingOf st).setIfInBounds i (mid, (pendingOf st).toList[i].2.1 + (pendingOf st).toList[i + 1].2.1, (pendingOf st).toList[i].2.2)).eraseIdxIfInBounds (i + 1)).toList hi
      rw [el]
      have hmid := chain_le c1
      refine chain_append.mpr ⟨mid, chain_congr (fun k _ g2 => ho k (.inl g2)) c1, rfl, ?_, ?_, ?_⟩
      · show 0 < _ + _
        omega
      · rw [← Nat.add_assoc]
        exact hs
      · rw [← Nat.add_assoc]
        exact chain_congr (fun k g1 _ => ho k (.inr g1)) c3
    · show (((pendingOf st).setIfInBounds i (mid, (pendingOf st).toList[i].2.1 + (pendingOf st).toList[i + 1].2.1, (pendingOf st).toList[i].2.2)).eraseIdxIfInBounds (i + 1)).size + 1 = _
      rw [← Array.length_toList, el, List.length_append, List.length_cons, List.length_take, List.length_drop, Array.length_toList]
      omega
theorem chain_map {arr : Array Keyed} : ∀ {p q : List (Nat × Nat × Nat)} {lo hi : Nat}, p.map (fun z => (z.1, z.2.1)) = q.map (fun z => (z.1, z.2.1)) → Chain κ arr lo p hi → Chain κ arr lo q hi
  | [], [], _, _, _, h => h
  | [], _ :: _, _, _, e, _ => by simp at e
  | _ :: _, [], _, _, e, _ => by simp at e
  | x :: p, y :: q, lo, hi, e, h => by
    rw [List.map_cons, List.map_cons] at e
    injection e with e1 e2
    have e3 : x.1 = y.1 := (Prod.mk.inj e1).1
    have e4 : x.2.1 = y.2.1 := (Prod.mk.inj e1).2
    obtain ⟨h1, h2, h3, h4⟩ := h
    rw [e4] at h2 h3 h4
    exact ⟨e3.symm.trans h1, h2, h3, chain_map e2 h4⟩
theorem modify_map {P : Array (Nat × Nat × Nat)} {i : Nat} {f : Nat × Nat × Nat → Nat × Nat × Nat} (hf : ∀ z, (f z).1 = z.1 ∧ (f z).2.1 = z.2.1) : P.toList.map (fun z => (z.1, z.2.1)) = (P.modify i f).toList.map (fun z => (z.1, z.2.1)) := by
  refine List.ext_getElem? fun k => ?_
  rw [List.getElem?_map, List.getElem?_map, Array.getElem?_toList, Array.getElem?_toList, Array.getElem?_modify]
  split
  · cases P[k]? with
    | none => rfl
    | some z =>
      obtain ⟨h1, h2⟩ := hf z
      show some (z.1, z.2.1) = some ((f z).1, (f z).2.1)
      rw [h1, h2]
  · rfl
theorem SInv.push {st : SortSt} {lo n : Nat} (S : SInv κ a₀ lo st) (h : Seg κ (arrOf st) lo (lo + n)) (hn : 0 < n) : SInv κ a₀ (lo + n) (setPending st ((pendingOf st).push (lo, n, 0))) := by
  refine ⟨S.perm, S.kind, S.failed, ?_⟩
  show Chain κ (arrOf st) 0 ((pendingOf st).push (lo, n, 0)).toList (lo + n)
  rw [Array.toList_push]
  exact chain_append.mpr ⟨lo, S.chain, rfl, hn, h, rfl⟩
theorem wpS_sortAll {st : SortSt} {Q : Unit → SortSt → Prop} (hO : κ.OneLt) (h0 : KeysOf κ a₀) (S : SInv κ a₀ 0 st) (h1 : 1 ≤ a₀.size)
    (q : ∀ sn, (arrOf sn).Perm a₀ → failedOf sn = none → SortedToK κ (arrOf sn) a₀.size → Q () sn) : wpS (model prog w) A E s sortRuns' Q st := by
  rw [sortRuns'_eq]
  refine wpS_bind (wpS_get ?_)
  dsimp only
  rw [S.perm.size_eq]
  generalize minRun' a₀.size a₀.size 0 = mr
  refine wpS_bind (wpS_mono (wpS_forRange (I := fun (x : Nat) (c : Option Unit × Nat) (st' : SortSt) => c.1 = none ∧ x ≤ c.2 ∧ c.2 ≤ a₀.size ∧ SInv κ a₀ c.2 st')
    (Q := fun (c : Option Unit × Nat) (st' : SortSt) => c.1 = none ∧ SInv κ a₀ a₀.size st') ?step ?fin ⟨rfl, Nat.le_refl _, Nat.zero_le _, S⟩) ?post)
  case fin =>
    rintro ⟨c1, lo⟩ st' ⟨hc, g1, g2, S'⟩
    dsimp only at hc g1 g2 S'
    have : lo = a₀.size := by omega
    subst this
    exact ⟨hc, S'⟩
  case step =>
    rintro x ⟨c1, lo⟩ st' _ hx ⟨hc, g1, g2, S'⟩
    dsimp only at hc g1 g2 S' ⊢
    subst hc
    by_cases hge : lo ≥ a₀.size
    · rw [if_pos hge]
      have : lo = a₀.size := by omega
      subst this
      exact wpS_pure ⟨rfl, S'⟩
    · rw [if_neg hge]
      have T0 : TB a₀ (pendingOf st') lo (arrOf st') st' := ⟨S'.perm, S'.kind, S'.failed, rfl, fun _ _ => rfl⟩
      refine wpS_bind (wpS_countL hO h0 (by omega) (by omega) T0 fun m st2 T2 hm1 hm2 hs2 => ?_)
      dsimp only
      have back : ∀ {st2 : SortSt}, TB a₀ (pendingOf st') lo (arrOf st') st2 → SInv κ a₀ lo st2 := fun {st2} T2 => by
        refine ⟨T2.perm, T2.kind, T2.failed, ?_⟩
        rw [T2.pend]
        exact chain_congr (fun k _ g => T2.low k g) S'.chain
      split
      · refine wpS_bind (wpS_lift (wpAny_rule ⟨rfl, ?_⟩))
        refine wpS_bind (wpS_binL hO h0 (n := min (a₀.size - lo) mr) (by omega) (by omega) T2 hs2 fun st3 T3 hs3 => ?_)
        simp only [Bool.not_true, Bool.false_eq_true, if_false]
        have hn1 : 0 < min (a₀.size - lo) mr := by omega
        have hn2 : lo + min (a₀.size - lo) mr ≤ a₀.size := by omega
        generalize min (a₀.size - lo) mr = n at *
        have S3 := back T3
        have G3 := hs3
        refine wpS_bind (wpS_get ?_)
        cases hbk : (pendingOf st3).back? with
        | none =>
          dsimp only
          exact wpS_bind (wpS_modify (wpS_pure ⟨rfl, by show x + 1 ≤ lo + n; omega, hn2, S3.push G3 hn1⟩))
        | some z =>
          obtain ⟨s1, n1, p1⟩ := z
          dsimp only
          generalize power' a₀.size (2 * s1 + n1) (2 * s1 + n1 + n1 + n) a₀.size = pw
          refine wpS_bind (wpS_mono (wpS_forRange (I := fun (_ : Nat) (c : Option Unit × Unit) (st4 : SortSt) => c = (none, ()) ∧ SInv κ a₀ lo st4 ∧ Seg κ (arrOf st4) lo (lo + n))
            (Q := fun (c : Option Unit × Unit) (st4 : SortSt) => c = (none, ()) ∧ SInv κ a₀ lo st4 ∧ Seg κ (arrOf st4) lo (lo + n)) ?step2 (fun _ _ hh => hh) ⟨rfl, S3, G3⟩) ?post2)
          case step2 =>
            rintro y c st4 _ hy ⟨rfl, S4, G4⟩
            refine wpS_bind (wpS_get ?_)
            by_cases h2 : (pendingOf st4).size > 1
            · rw [if_pos h2, getElem?_pos (pendingOf st4) ((pendingOf st4).size - 2) (by omega)]
              generalize (pendingOf st4)[(pendingOf st4).size - 2] = z
              obtain ⟨z1, z2, z3⟩ := z
              dsimp only
              split
              · exact wpS_pure ⟨rfl, S4, G4⟩
              · refine wpS_bind (wpS_step hO h0 S4 (by omega) (by omega) fun st5 S5 _ ho => ?_)
                simp only [Bool.not_true, Bool.false_eq_true, if_false]
                refine wpS_pure ⟨rfl, S5, fun i j q1 q2 q3 => ?_⟩
                rw [KK_congr (ho i q1), KK_congr (ho j (by omega))]
                exact G4 i j q1 q2 q3
            · rw [if_neg h2]
              exact wpS_pure ⟨rfl, S4, G4⟩
          case post2 =>
            rintro c st4 ⟨rfl, S4, G4⟩
            dsimp only
            refine wpS_bind (wpS_modify (wpS_bind (wpS_modify (wpS_pure ⟨rfl, by show x + 1 ≤ lo + n; omega, hn2, ?_⟩))))
            refine SInv.push (st := setPending st4 ((pendingOf st4).modify ((pendingOf st4).size - 1) fun z => (z.1, z.2.1, pw))) ⟨S4.perm, S4.kind, S4.failed, ?_⟩ G4 hn1
            exact chain_map (modify_map fun z => ⟨rfl, rfl⟩) S4.chain
      · have hn1 : 0 < m := by omega
        have hn2 : lo + m ≤ a₀.size := by omega
        have S3 := back T2
        have G3 := hs2
        refine wpS_bind (wpS_get ?_)
        cases hbk : (pendingOf st2).back? with
        | none =>
          dsimp only
          exact wpS_bind (wpS_modify (wpS_pure ⟨rfl, by show x + 1 ≤ lo + m; omega, hn2, S3.push G3 hn1⟩))
        | some z =>
          obtain ⟨s1, n1, p1⟩ := z
          dsimp only
          generalize power' a₀.size (2 * s1 + n1) (2 * s1 + n1 + n1 + m) a₀.size = pw
          refine wpS_bind (wpS_mono (wpS_forRange (I := fun (_ : Nat) (c : Option Unit × Unit) (st4 : SortSt) => c = (none, ()) ∧ SInv κ a₀ lo st4 ∧ Seg κ (arrOf st4) lo (lo + m))
            (Q := fun (c : Option Unit × Unit) (st4 : SortSt) => c = (none, ()) ∧ SInv κ a₀ lo st4 ∧ Seg κ (arrOf st4) lo (lo + m)) ?step3 (fun _ _ hh => hh) ⟨rfl, S3, G3⟩) ?post3)
          case step3 =>
            rintro y c st4 _ hy ⟨rfl, S4, G4⟩
            refine wpS_bind (wpS_get ?_)
            by_cases h2 : (pendingOf st4).size > 1
            · rw [if_pos h2, getElem?_pos (pendingOf st4) ((pendingOf st4).size - 2) (by omega)]
              generalize (pendingOf st4)[(pendingOf st4).size - 2] = z
              obtain ⟨z1, z2, z3⟩ := z
              dsimp only
              split
              · exact wpS_pure ⟨rfl, S4, G4⟩
              · refine wpS_bind (wpS_step hO h0 S4 (by omega) (by omega) fun st5 S5 _ ho => ?_)
                simp only [Bool.not_true, Bool.false_eq_true, if_false]
                refine wpS_pure ⟨rfl, S5, fun i j q1 q2 q3 => ?_⟩
                rw [KK_congr (ho i q1), KK_congr (ho j (by omega))]
                exact G4 i j q1 q2 q3
            · rw [if_neg h2]
              exact wpS_pure ⟨rfl, S4, G4⟩
          case post3 =>
            rintro c st4 ⟨rfl, S4, G4⟩
            dsimp only
            refine wpS_bind (wpS_modify (wpS_bind (wpS_modify (wpS_pure ⟨rfl, by show x + 1 ≤ lo + m; omega, hn2, ?_⟩))))
            refine SInv.push (st := setPending st4 ((pendingOf st4).modify ((pendingOf st4).size - 1) fun z => (z.1, z.2.1, pw))) ⟨S4.perm, S4.kind, S4.failed, ?_⟩ G4 hn1
            exact chain_map (modify_map fun z => ⟨rfl, rfl⟩) S4.chain
  case post =>
    rintro ⟨c1, lo⟩ st' ⟨hc, S'⟩
    dsimp only at hc ⊢
    subst hc
    dsimp only
    have hp := chain_le S'.chain
    rw [Array.length_toList] at hp
    refine wpS_bind (wpS_mono (wpS_forRange (I := fun (x : Nat) (c : Option Unit × Unit) (st4 : SortSt) => c = (none, ()) ∧ SInv κ a₀ a₀.size st4 ∧ (pendingOf st4).size + x ≤ a₀.size)
      (Q := fun (c : Option Unit × Unit) (st4 : SortSt) => c = (none, ()) ∧ SInv κ a₀ a₀.size st4 ∧ (pendingOf st4).size ≤ 1) ?step4 ?fin4 ⟨rfl, S', by omega⟩) ?post4)
    case fin4 =>
      rintro c st4 ⟨rfl, S4, hz⟩
      exact ⟨rfl, S4, by omega⟩
    case step4 =>
      rintro x c st4 _ hx ⟨rfl, S4, hz⟩
      refine wpS_bind (wpS_get ?_)
      by_cases h2 : (pendingOf st4).size ≤ 1
      · rw [if_pos h2]
        exact wpS_pure ⟨rfl, S4, h2⟩
      · rw [if_neg h2]
        have hix : ∀ c : Prop, [Decidable c] → (if c then (pendingOf st4).size - 2 - 1 else (pendingOf st4).size - 2) + 1 < (pendingOf st4).size := fun c _ => by split <;> omega
        refine wpS_bind (wpS_step hO h0 S4 (Nat.le_refl _) (hix _) fun st5 S5 hs5 _ => ?_)
        simp only [Bool.not_true, Bool.false_eq_true, if_false]
        exact wpS_pure ⟨rfl, S5, by omega⟩
    case post4 =>
      rintro c st4 ⟨rfl, S4, hz⟩
      dsimp only
      refine wpS_pure (q st4 S4.perm S4.failed ?_)
      have C := S4.chain
      have hl : (pendingOf st4).toList.length ≤ 1 := by rw [Array.length_toList]; exact hz
      generalize (pendingOf st4).toList = L at *
      match L, C, hl with
      | [], C, _ =>
        have : (0 : Nat) = a₀.size := C
        omega
      | [p], C, _ =>
        obtain ⟨_, _, g3, g4⟩ := C
        have g4 : 0 + p.2.1 = a₀.size := g4
        rw [g4] at g3
        exact fun i j hij hj => g3 i j (Nat.zero_le _) hij hj
end
end Tim
set_option Elab.async false
set_option linter.all false
set_option maxRecDepth 100000
namespace Tim
open PySem PyProof.Rows
def numKey : Value → Option Int
  | .int n _ => some n
  | _ => none
@[reducible] def intKind : PyProof.Rows.KeyKind where
  α := Int
  blt a b := decide (a < b)
  irrefl a := decide_eq_false (Int.lt_irrefl a)
  trans a b c h1 h2 := decide_eq_true (Int.lt_trans (of_decide_eq_true h1) (of_decide_eq_true h2))
  negTrans a b c h := by
    have := of_decide_eq_true h
    by_cases x : a < b
    · exact .inl (decide_eq_true x)
    · exact .inr (decide_eq_true (by omega))
  total a b h1 h2 := by
    have := of_decide_eq_false h1
    have := of_decide_eq_false h2
    omega
  keyOf := numKey
  dflt := 0
theorem key_int {v : Value} {a : Int} (h : numKey v = some a) : ∃ t, v = .int a t := by
  cases v <;> simp only [numKey, reduceCtorEq, Option.some.injEq] at h
  exact ⟨_, by rw [h]⟩
theorem intKind_oneLt : intKind.OneLt := by
  intro prog w A E s x y a b Q ha hb h
  obtain ⟨t, rfl⟩ := key_int ha
  obtain ⟨u, rfl⟩ := key_int hb
  exact oneLt_int h
theorem K_int (xs : Array Keyed) (i : Nat) : KK intKind xs i = K xs i := by
  unfold KK K
  cases xs[i]? with
  | none => rfl
  | some p =>
    obtain ⟨v, q⟩ := p
    cases v <;> rfl
theorem sorted_int {xs : Array Keyed} {n : Nat} (h : SortedToK intKind xs n) : SortedTo xs n := fun i j a b => by
  have := h i j a b
  rw [K_int, K_int] at this
  have := of_decide_eq_false this
  omega
section
variable {prog : Program} {w : World} {A : Around} {E : Value → Shared → Prop} {s : Shared}
theorem wpS_ints {vs : List Value} {ns : List Int} {Q : Unit → SortSt → Prop} (I : IntsAre vs ns) (big : 1 ≤ vs.length) (q : ∀ sn, (arrOf sn).Perm (pairsOf vs) → failedOf sn = none → SortedTo (arrOf sn) (pairsOf vs).size → Q () sn) :
    wpS (model prog w) A E s sortRuns' Q (SortSt.mk' oneType' (pairsOf vs) #[] 7 none) := by
  refine wpS_sortAll (κ := intKind) intKind_oneLt (fun p hp => ?_) ⟨Array.Perm.refl _, rfl, rfl, rfl⟩ (by rw [pairsOf_size]; exact big) fun sn a b c => q sn a b (sorted_int c)
  obtain ⟨n, t, e⟩ := I.intKeys p hp
  exact ⟨n, by rw [e]; rfl⟩
theorem sort_more {l : Addr} {vs : List Value} {ns : List Int} {ep : Nat} {P : Fin → Shared → Prop} (at_ : s.heap.get? l = some (seqObj "list" vs.toArray ep)) (I : IntsAre vs ns) (most : vs.length ≤ 1000)
    (q : ∀ (out : Array Value) (ms : List Int), IntsAre out.toList ms → ms.Perm ns → ms.Pairwise (· ≤ ·) → P (.done (.ret .none)) { s with heap := sortedHeap s.heap l vs out }) : wpAny (model prog w) A (Builtin.«list.sort» ⟨[.ref l], []⟩) P E s := by
  rcases Nat.lt_or_ge vs.length 64 with few | many
  · exact list_sort_tree at_ I few q
  have lt : l < s.heap.objs.size := Heap.lt_size at_
  obtain ⟨v, u, r, rfl⟩ : ∃ v u r, vs = v :: u :: r := match vs, many with | v :: u :: r, _ => ⟨v, u, r, rfl⟩
  have two : ¬ (v :: u :: r).toArray.size < 2 := by show ¬ (v :: u :: r).length < 2; omega
  generalize hvs : v :: u :: r = vs at *
  rw [list_sort_plain]
  refine wpAny_bind (listItems_at at_ rfl (wpAny_bind (listUpdate_at at_ rfl ?_)))
  have bare : ∃ e1, (s.heap.update l (Obj.mapSeq fun _ => #[])).get? l = some (seqObj "list" #[] e1) := ⟨_, get?_update_seq at_ (fun _ => #[])⟩
  obtain ⟨e1, bare⟩ := bare
  refine wpAny_bind (seqEpoch_at bare rfl (wpAny_bind (wpAny_newTuple (wpAny_bind (wpAny_newList (wpAny_holding ?_))))))
  have still : (((s.heap.update l (Obj.mapSeq fun _ => #[])).push (seqObj "tuple" vs.toArray 0)).push (seqObj "list" #[] 0)).get? l = some (seqObj "list" #[] e1) := by
    have z1 : (s.heap.update l (Obj.mapSeq fun _ => #[])).objs.size = s.heap.objs.size := Heap.size_update ..
    rw [Heap.get?_push_ne, Heap.get?_push_ne]
    · exact bare
    · rw [z1]; exact Nat.ne_of_lt lt
    · rw [size_push', z1]; exact Nat.ne_of_lt (Nat.lt_succ_of_lt lt)
  show wpAny (model prog w) A _ P E ({ s with heap := ((s.heap.update l (Obj.mapSeq fun _ => #[])).push (seqObj "tuple" vs.toArray 0)).push (seqObj "list" #[] 0) } : Shared)
  dsimp only
  rw [if_neg two, if_neg two]
  have kind : keyKind' vs.toArray = pure oneType' := by
    subst hvs
    exact keyKind_ints I
  rw [kind]
  refine wpAny_bind (wpAny_pure (wpAny_bind (wpAny_mono (wpS_ints I (by omega) (Q := fun _ sn => (arrOf sn).Perm (pairsOf vs) ∧ failedOf sn = none ∧ SortedTo (arrOf sn) (pairsOf vs).size) fun sn a b c => ⟨a, b, c⟩) (fun o sh J => ?_) fun _ _ e => e)))
  obtain ⟨⟨⟩, sn⟩ := o
  obtain ⟨rfl, perm, none_, up⟩ := J
  obtain ⟨ms, h1, h2, h3⟩ := sorted_out I perm up
  have fits : ((arrOf sn).map (·.2)).size ≤ sizeLine := by
    rw [Array.size_map, perm.size_eq, pairsOf_size]
    exact Nat.le_trans most (by rw [sizeLine_eq]; decide)
  dsimp only
  refine wpAny_bind (seqEpoch_at still rfl (wpAny_bind (listUpdate_at still rfl ?_ (hsz2 := Nat.le_succ_of_le fits))))
  rw [none_]
  simp only [bne_self_eq_false, Bool.false_eq_true, if_false]
  exact wpAny_pure (q _ ms h1 h2 h3)
end
end Tim
namespace L2
open PySem PySem.Spec PyProof.Rows PySem.W
theorem line1000 : 1000 ≤ (sizeLine : Nat) := by rw [sizeLine_eq]; decide
theorem call_sorted_setM {X : Cx} {P : Program} {w : World} (hc : X.calm = true) (h1 : X.prog = P := by rfl) (h2 : X.w = w := by rfl) : CallR X (.builtin "sorted") (fun xs H Q => ∃ (p : Addr) (τ : List Int), xs = [.ref p] ∧ H p = some (setP P w p τ) ∧ τ.length ≤ 1000 ∧ ∀ (l : Addr) (ns : List Int), H l = none → ns.Perm τ → ns.Pairwise (· ≤ ·) → Q (.ref l) (upd H l (.lst (ns.map V.int)))) := by
  subst h1 h2
  intro pins s σ H xs us Q I r h
  obtain ⟨p, τ, rfl, hp, most, q⟩ := h
  obtain ⟨u, rfl, rx⟩ := vals1 r
  cases rx
  obtain ⟨⟨es, ep, t, ho, hel, ⟨l0, hI0, hp0⟩, hb, hf, ht⟩, _⟩ := I.hok p _ hp
  have hz : es.size = τ.length := by
    have h1 := hI0.length
    rw [List.length_map, Array.length_toList] at h1
    rw [h1, hp0.length_eq]
  refine Calls.call_function_entry kind_sorted plain_sorted entry_sorted (args_sorted1 _) ?_
  unfold Builtin.«sorted»
  refine wpAny_bind (m := checkCount "sorted" 1 1 _) (wpAny_pure (wpAny_bind (collect_set (A := X.A.in1) (show X.A.in1.handled = none from I.ok.hd hc) ho hf ht (by omega) fun h' d' vals hv hk => ?_)))
  obtain ⟨ns0, hI, hp1⟩ := ints_perm hI0 hv
  have hl : vals.length = τ.length := by rw [hI.length, hp1.length_eq, hp0.length_eq]
  refine wpAny_bind (wpAny_newList ?_ (by rw [hl]; exact Nat.le_trans most line1000))
  have hoL : (h'.push (seqObj "list" vals.toArray 0)).get? h'.objs.size = some (seqObj "list" vals.toArray 0) := Heap.get?_push_size _ rfl
  refine wpAny_bind (wpAny_holding (wpAny_call_entry slot_list_sort ⟨_, hoL, rfl⟩ entry_list_sort (Tim.sort_more hoL hI (by omega) fun out ns' a1 a2 a3 => ⟨_, rfl, wpAny_pure ⟨_, rfl, ?_⟩⟩) (args_list_sort _)))
  have I1 : Inv X pins σ H { s with heap := h', drawn := d' } := I.drawn hk
  obtain ⟨e, he⟩ := sortedHeap_at (out := out) hoL
  refine ⟨.ref h'.objs.size, _, I1.laid (t' := s.toks) (a := h'.objs.size) (fun b o hb => ?_) (Nat.le_refl _) (show ObjOk X.prog X.w _ _ _ (.lst (ns'.map V.int)) from ⟨?_, _, e, vals_ints a1, ?_⟩), rfl, q _ _ (I1.hok.fresh (Nat.le_refl _)) (a2.trans (hp1.trans hp0)) a3⟩
  · have hlt := Heap.lt_size hb
    rw [sortedHeap_old (Nat.ne_of_lt hlt) (by rw [size_push']; exact Nat.lt_succ_of_lt hlt)]
    exact Heap.get?_push_of_some _ hb
  · rw [List.length_map, a2.length_eq, ← hI.length, hl]
    exact Nat.le_trans most line1000
  · rw [Array.toArray_toList]
    exact he
end L2
set_option Elab.async false
set_option linter.all false
set_option maxRecDepth 100000
namespace Tim
open PySem PyProof.Rows
section
variable {prog : Program} {w : World} {A : Around} {E : Value → Shared → Prop} {s : Shared}
theorem wpS_ltP {st : SortSt} {i j : Nat} {x y : Keyed} {v : Bool} {Q : Option Bool → SortSt → Prop} (hi : (arrOf st)[i]? = some x) (hj : (arrOf st)[j]? = some y)
    (ask : wpAny (model prog w) A (keyLt' (kindOf st) x.1 y.1) (fun b s' => s' = s ∧ b = v) (fun _ _ => False) s) (q : Q (some v) st) : wpS (model prog w) A E s (ltAt' i j) Q st := by
  rw [ltAt'_eq]
  refine wpS_bind (wpS_get ?_)
  dsimp only
  rw [elem'_eq, hi]
  refine wpS_bind (wpS_pure ?_)
  rw [elem'_eq, hj]
  refine wpS_bind (wpS_pure ?_)
  rw [lt'_eq]
  refine wpS_bind (wpS_get ?_)
  refine wpS_bind (wpS_lift (wpAny_attempt (wpAny_mono ask (fun b s' h => ?_) (fun _ _ h => h.elim))))
  obtain ⟨h1, h2⟩ := h
  subst h2
  exact ⟨h1, wpS_pure q⟩
theorem wpS_countAsc {st : SortSt} {N : Nat} {Q : Option Nat → SortSt → Prop} (h1 : 1 ≤ N)
    (asks : ∀ i, 1 ≤ i → i < N → ∀ Q' : Option Bool → SortSt → Prop, Q' (some false) st → wpS (model prog w) A E s (ltAt' i (i - 1)) Q' st) (q : Q (some N) st) : wpS (model prog w) A E s (countRun' 0 N) Q st := by
  rw [countRunL_eq]
  refine wpS_bind (wpS_forRange (I := fun n c sn => sn = st ∧ c = (none, n)) (fun n c sn an bn J => ?_) (fun c sn J => ?_) ⟨rfl, rfl⟩)
  · obtain ⟨rfl, rfl⟩ := J
    dsimp only
    rw [Nat.zero_add]
    refine wpS_bind (asks n an bn _ ?_)
    exact wpS_pure ⟨rfl, rfl⟩
  · obtain ⟨rfl, rfl⟩ := J
    have e : max 1 N = N := by omega
    rw [e]
    dsimp only
    rw [if_pos (by simp)]
    exact wpS_pure q
theorem wpS_binNone {st : SortSt} {n : Nat} {Q : Bool → SortSt → Prop} (h1 : 1 ≤ n) (q : Q true st) : wpS (model prog w) A E s (binarySort' 0 n n) Q st := by
  rw [binarySort'_eq]
  refine wpS_bind (wpS_forRange (I := fun _ c sn => sn = st ∧ c = (none, ())) (fun k c sn ak bk J => ?_) (fun c sn J => ?_) ⟨rfl, rfl⟩)
  · omega
  · obtain ⟨rfl, rfl⟩ := J
    exact wpS_pure q
theorem wpS_sortAsc {st : SortSt} {N : Nat} {Q : Unit → SortSt → Prop} (hN : (arrOf st).size = N) (h1 : 1 ≤ N) (hp : pendingOf st = #[])
    (asks : ∀ i, 1 ≤ i → i < N → ∀ Q' : Option Bool → SortSt → Prop, Q' (some false) st → wpS (model prog w) A E s (ltAt' i (i - 1)) Q' st)
    (q : ∀ sn, arrOf sn = arrOf st → failedOf sn = failedOf st → Q () sn) : wpS (model prog w) A E s sortRuns' Q st := by
  rw [sortRuns'_eq]
  refine wpS_bind (wpS_get ?_)
  dsimp only
  rw [hN]
  generalize minRun' N N 0 = mr
  refine wpS_bind (wpS_mono (wpS_forRange (I := fun (x : Nat) (c : Option Unit × Nat) (st' : SortSt) => (x = 0 ∧ c = (none, 0) ∧ st' = st) ∨ (1 ≤ x ∧ c = (none, N) ∧ arrOf st' = arrOf st ∧ failedOf st' = failedOf st ∧ (pendingOf st').size = 1))
    (Q := fun (c : Option Unit × Nat) (st' : SortSt) => c = (none, N) ∧ arrOf st' = arrOf st ∧ failedOf st' = failedOf st ∧ (pendingOf st').size = 1) ?step ?fin (.inl ⟨rfl, rfl, rfl⟩)) ?post)
  case fin =>
    rintro c st' (⟨h, _⟩ | ⟨_, h2, h3, h4, h5⟩)
    · omega
    · exact ⟨h2, h3, h4, h5⟩
  case step =>
    rintro x c st' _ hx (⟨rfl, rfl, rfl⟩ | ⟨_, rfl, h3, h4, h5⟩)
    · dsimp only
      rw [if_neg (by omega)]
      refine wpS_bind ?_
      rw [Nat.sub_zero]
      refine wpS_countAsc h1 asks ?_
      dsimp only
      split
      · rename_i hm
        refine wpS_bind (wpS_lift (wpAny_rule ⟨rfl, ?_⟩))
        have e : min N mr = N := by omega
        rw [e]
        refine wpS_bind (wpS_binNone h1 ?_)
        simp only [Bool.not_true, Bool.false_eq_true, if_false]
        refine wpS_bind (wpS_get ?_)
        rw [hp]
        refine wpS_bind (wpS_modify (wpS_pure (.inr ⟨by omega, ?_, rfl, rfl, ?_⟩)))
        · rw [Nat.zero_add]
        · show ((pendingOf st').push _).size = 1
          rw [hp]
          rfl
      · refine wpS_bind (wpS_get ?_)
        rw [hp]
        refine wpS_bind (wpS_modify (wpS_pure (.inr ⟨by omega, ?_, rfl, rfl, ?_⟩)))
        · rw [Nat.zero_add]
        · show ((pendingOf st').push _).size = 1
          rw [hp]
          rfl
    · dsimp only
      rw [if_pos (Nat.le_refl _)]
      exact wpS_pure ⟨rfl, h3, h4, h5⟩
  case post =>
    rintro c st' ⟨rfl, h3, h4, h5⟩
    dsimp only
    refine wpS_bind (wpS_mono (wpS_forRange (I := fun (x : Nat) (c : Option Unit × Unit) (st4 : SortSt) => c = (none, ()) ∧ st4 = st')
      (Q := fun (c : Option Unit × Unit) (st4 : SortSt) => c = (none, ()) ∧ st4 = st') ?step4 (fun _ _ h => h) ⟨rfl, rfl⟩) ?post4)
    case step4 =>
      rintro x c st4 _ hx ⟨rfl, rfl⟩
      refine wpS_bind (wpS_get ?_)
      rw [if_pos (by omega)]
      exact wpS_pure ⟨rfl, rfl⟩
    case post4 =>
      rintro c st4 ⟨rfl, rfl⟩
      exact wpS_pure (q _ h3 h4)
end
end Tim
set_option Elab.async false
set_option linter.all false
set_option maxRecDepth 100000
namespace L2
open PySem PySem.Spec PyProof.Rows PySem.W
theorem line_1000 : 1000 ≤ (sizeLine : Nat) := by rw [sizeLine_eq]; decide
section
variable {prog : Program} {w : World} {A : Around} {E : Value → Shared → Prop} {s : Shared}
theorem nodup_of_asc {ps : List (Int × Int)} (h : ps.Pairwise fun x y => x.1 < y.1) : (ps.map (·.1)).Nodup := by
  unfold List.Nodup
  rw [List.pairwise_map]
  exact h.imp fun z => Int.ne_of_lt z
theorem sort_rising {a : Addr} {vs : List Value} {ps : List (Int × Int)} {n : Nat} {P : Fin → Shared → Prop} (ho : s.heap.get? a = some (seqObj "list" vs.toArray n)) (hl : vs.length = ps.length)
    (hv : ∀ i (h : i < ps.length), PairAt s.heap (vs.getD i Value.none) ps[i]) (asc : ps.Pairwise fun x y => x.1 < y.1) (most : ps.length ≤ 1000)
    (h : P (.done (.ret .none)) { s with heap := sortedHeap s.heap a vs vs.toArray }) :
    wpAny (model prog w) A (Builtin.«list.sort» ⟨[.ref a], []⟩) P E s := by
  have ha : a < s.heap.objs.size := Heap.lt_size ho
  have nd := nodup_of_asc asc
  have hsz : vs.toArray.size = vs.length := by simp
  have line : vs.length ≤ sizeLine := by
    have := line_1000
    omega
  obtain ⟨e1, ho1⟩ : ∃ e1, (s.heap.update a (Obj.mapSeq fun _ => #[])).get? a = some (seqObj "list" #[] e1) := ⟨_, get?_update_seq ho (fun _ => #[])⟩
  have ho2 : (((s.heap.update a (Obj.mapSeq fun _ => #[])).push (seqObj "tuple" vs.toArray 0)).push (seqObj "list" #[] 0)).get? a = some (seqObj "list" #[] e1) := Heap.get?_push_of_some _ (Heap.get?_push_of_some _ ho1)
  have hv2 : ∀ i (h : i < ps.length), PairAt (((s.heap.update a (Obj.mapSeq fun _ => #[])).push (seqObj "tuple" vs.toArray 0)).push (seqObj "list" #[] 0)) (vs.getD i Value.none) ps[i] := fun i hi => (hv i hi).kept fun b o e c => by
    have hb : b ≠ a := fun z => by
      rw [z, ho] at e
      cases e
      exact absurd c (by simp)
    exact Heap.get?_push_of_some _ (Heap.get?_push_of_some _ ((Heap.get?_update_ne _ _ _ _ hb).trans e))
  rw [list_sort_plain]
  refine wpAny_bind (listItems_at ho rfl (wpAny_bind (listUpdate_at ho rfl ?_ (by rw [hsz]; omega) (Nat.zero_le _))))
  refine wpAny_bind (seqEpoch_at ho1 rfl (wpAny_bind (wpAny_newTuple ?_ line)))
  refine wpAny_bind (wpAny_newList (wpAny_holding ?_) (Nat.zero_le _))
  generalize hh : (((s.heap.update a (Obj.mapSeq fun _ => #[])).push (seqObj "tuple" vs.toArray 0)).push (seqObj "list" #[] 0)) = h2 at *
  show wpAny (model prog w) A _ P E { s with heap := h2 }
  dsimp only
  have hout : ((vs.toArray.zip vs.toArray).map (·.2)) = vs.toArray := by
    apply Array.ext
    · simp
    · intro i h1 h2
      simp
  by_cases h2' : vs.toArray.size < 2
  · rw [if_pos h2', if_pos h2']
    refine wpAny_bind (wpAny_pure ?_)
    rw [StateT.run_pure]
    refine wpAny_bind (wpAny_pure ?_)
    dsimp only
    refine wpAny_bind (seqEpoch_at ho2 rfl (wpAny_bind (listUpdate_at ho2 rfl ?_ (Nat.zero_le _) ?_)))
    · simp only [bne_self_eq_false, Bool.false_eq_true, if_false]
      refine wpAny_pure ?_
      have g := h
      unfold sortedHeap at g
      rw [hh] at g
      rw [← hout] at g
      exact g
    · show ((vs.toArray.zip vs.toArray).map (·.2)).size ≤ _
      rw [hout, hsz]
      omega
  · rw [if_neg h2', if_neg h2']
    obtain ⟨fs, t1, t2, t3⟩ := pairs_tups (h := h2) hl hv2
    refine wpAny_bind (kat_kind (s := { s with heap := h2 }) (T := .type "int") t1 (by omega) (fun v hv => ?_) (by decide) ?_)
    · obtain ⟨x, t, rfl⟩ := t3 v hv
      exact Looks.of_pure rfl
    have hk : (Value.type "int" != Value.type "tuple") = true := by decide
    rw [hk]
    have zsz : (vs.toArray.zip vs.toArray).size = ps.length := by simp [hl]
    have hat : ∀ i, i < ps.length → (vs.toArray.zip vs.toArray)[i]? = some (vs.getD i Value.none, vs.getD i Value.none) := fun i hi => by
      have hi' : i < vs.length := by omega
      rw [Array.getElem?_eq_getElem (by rw [zsz]; exact hi)]
      simp [hi']
    refine wpAny_bind (wpAny_mono (Tim.wpS_sortAsc (prog := prog) (w := w) (A := A) (E := E) (s := { s with heap := h2 }) (st := SortSt.mk' (tuples' true) (vs.toArray.zip vs.toArray) #[] 7 none) (N := ps.length) (Q := fun _ sn => arrOf sn = vs.toArray.zip vs.toArray ∧ failedOf sn = none) zsz (by omega) rfl (fun i a1 a2 Q' q' => ?_) (fun sn b1 b2 => ⟨b1, b2⟩)) (fun o sh J => ?_) fun _ _ e => e)
    · refine Tim.wpS_ltP (hat i a2) (hat (i - 1) (by omega)) (v := false) ?_ q'
      have g := ask_pairs (prog := prog) (w := w) (A := A) (s := { s with heap := h2 }) (C := fun b s' => s' = { s with heap := h2 } ∧ b = false) hl hv2 nd a2 (show i - 1 < ps.length by omega) (by
        refine ⟨rfl, decide_eq_false ?_⟩
        have pw := List.pairwise_iff_getElem.mp asc (i - 1) i (by omega) a2 (by omega)
        have gi : ps.getD i (0, 0) = ps[i] := by simp [a2]
        have gj : ps.getD (i - 1) (0, 0) = ps[i - 1] := by
          have : i - 1 < ps.length := by omega
          simp [this]
        rw [gi, gj]
        omega)
      exact g
    obtain ⟨⟨⟩, st'⟩ := o
    obtain ⟨rfl, b1, b2⟩ := J
    dsimp only at b1 b2 ⊢
    rw [b1, hout]
    refine wpAny_bind (seqEpoch_at ho2 rfl (wpAny_bind (listUpdate_at ho2 rfl ?_ (Nat.zero_le _) ?_)))
    · rw [b2]
      simp only [bne_self_eq_false, Bool.false_eq_true, if_false]
      refine wpAny_pure ?_
      have g := h
      unfold sortedHeap at g
      rw [hh] at g
      exact g
    · rw [hsz]
      omega
end
theorem call_sorted_rising {X : Cx} : CallR X (.builtin "sorted") (fun xs H Q => ∃ (p : Addr) (qs : List V) (ps : List (Int × Int)), xs = [.ref p] ∧ SqL X.K H p qs ∧ PairsL X.K H qs ps ∧ (ps.Pairwise fun x y => x.1 < y.1) ∧ ps.length ≤ 1000 ∧
    ∀ (l : Addr), H l = none → Q (.ref l) (upd H l (.lst qs))) := by
  intro pins s σ H xs us Q I r h
  obtain ⟨b, qs, ps, rfl, hq, hp, asc, most, q⟩ := h
  obtain ⟨u, rfl, rx⟩ := vals1 r
  cases rx
  obtain ⟨its, rv, pl, hz⟩ := I.list hq
  have hl1 := rv.length
  have hl : its.length = ps.length := by rw [← hl1, hp.1]
  have hv : ∀ i (h : i < ps.length), PairAt s.heap (its.getD i Value.none) ps[i] := fun i hi => by
    obtain ⟨c, e1, e2⟩ := hp.2 i hi
    obtain ⟨v, e3, e4⟩ := rv.get e1
    cases e4
    obtain ⟨ic, rc, ⟨o, k1, k2, n, k3⟩, _⟩ := I.tuple e2
    obtain ⟨u1, u2, rfl, ⟨t, rfl⟩, ⟨t', rfl⟩⟩ := vals2 rc
    exact ⟨c, o, t, t', n, by rw [List.getD_eq_getElem?_getD, e3]; rfl, k1, k2, k3⟩
  refine Calls.call_function_entry kind_sorted plain_sorted entry_sorted (args_sorted1 _) ?_
  unfold Builtin.«sorted»
  refine wpAny_bind (m := checkCount "sorted" 1 1 _) (wpAny_pure (wpAny_bind (collect_list pl.isList (wpAny_bind (wpAny_newList ?_ ?_)) ?_)))
  · have old : ∀ b o, s.heap.get? b = some o → ((s.heap.push (seqObj "list" #[] 0)).update s.heap.objs.size (Obj.mapSeq (· ++ its.toArray))).get? b = some o := fun b o e => by
      rw [Heap.get?_update_ne _ _ _ _ (Nat.ne_of_lt (Heap.lt_size e))]
      exact Heap.get?_push_of_some _ e
    generalize ((s.heap.push (seqObj "list" #[] 0)).update s.heap.objs.size (Obj.mapSeq (· ++ its.toArray))) = h1 at *
    have I1 : Inv X pins σ H { s with heap := h1 } := I.kept (t' := s.toks) old
    have hoL : (h1.push (seqObj "list" its.toArray 0)).get? h1.objs.size = some (seqObj "list" its.toArray 0) := Heap.get?_push_size _ rfl
    refine wpAny_bind (wpAny_holding (wpAny_call_entry slot_list_sort ⟨_, hoL, rfl⟩ entry_list_sort (sort_rising (s := { s with heap := h1.push (seqObj "list" its.toArray 0) }) hoL hl (fun i hi => (hv i hi).kept fun b o e _ => Heap.get?_push_of_some _ (old b o e)) asc most ⟨_, rfl, ?_⟩) (args_list_sort _)))
    refine wpAny_pure ⟨_, rfl, ?_⟩
    obtain ⟨e, he⟩ := sortedHeap_at (out := its.toArray) hoL
    refine ⟨.ref _, _, I1.laid (t' := s.toks) (fun b o hb => ?_) (Nat.le_refl _) (show ObjOk X.prog X.w _ _ _ (.lst qs) from ⟨hz, _, e, rv, he⟩), rfl, q _ (I1.hok.fresh (Nat.le_refl _))⟩
    have hlt := Heap.lt_size hb
    rw [sortedHeap_old (Nat.ne_of_lt hlt) (by rw [size_push']; exact Nat.lt_succ_of_lt hlt)]
    exact Heap.get?_push_of_some _ hb
  · rw [hl]; exact Nat.le_trans most line_1000
  · rw [hl]; exact Nat.le_trans most line_1000
end L2
set_option Elab.async false
set_option linter.all false
set_option maxRecDepth 100000
namespace L2
open PySem PySem.Spec PyProof.Rows
section
variable {X : Cx} {pins : List (Addr × Obj)} {σ : St} {H : Hp} {s : Shared} {tg : Expr}
theorem Inv.relabel {a : Addr} {u v : HO} (I : Inv X pins σ H s) (hu : H a = some u) (h1 : ∀ xs, u ≠ .tup xs) (h2 : ∀ ps, u ≠ .tbl ps) (h3 : ∀ o z, X.H₀ a ≠ some (.frz o z)) (h4 : ∀ x, u ≠ .own x) (hv : ObjOk X.prog X.w (upd H a v) s.heap a v) : Inv X pins σ (upd H a v) s := by
  have ne : ∀ b, H b = none → b ≠ a := fun b n z => by rw [z, hu] at n; cases n
  have nt : ∀ b xs, H b = some (.tup xs) → b ≠ a := fun b xs n z => by rw [z, hu] at n; exact h1 xs (Option.some.inj n)
  have no : ∀ b x, H b = some (.own x) → b ≠ a := fun b x n z => by rw [z, hu] at n; exact h4 x (Option.some.inj n)
  refine ⟨I.ok, I.os, I.bare, ⟨I.base.keep, I.base.slot, fun b o e n hx => ?_, I.base.there, fun b xs e => ?_, fun b o z e => ?_, fun b ps e => ?_⟩, I.loc, I.cell, ?_, fun x c e => ?_, fun p hp => ?_, fun b o e => ?_, I.len⟩
  · have q := I.base.free b o e n hx
    rw [upd_ne (ne b q)]; exact q
  · have q := I.base.tups b xs e
    rw [upd_ne (nt b xs q)]; exact q
  · have hb : b ≠ a := fun z' => by subst z'; exact h3 _ _ e
    rw [upd_ne hb]
    exact I.base.frzs b o z e
  · obtain ⟨m, q⟩ := I.base.tbls b ps e
    have hb : b ≠ a := fun z' => by rw [z', hu] at q; exact h2 _ (Option.some.inj q)
    exact ⟨m, by rw [upd_ne hb]; exact q⟩
  · rw [upd_ne (ne _ I.free)]; exact I.free
  · rw [upd_ne (ne _ (I.freeC x c e))]; exact I.freeC x c e
  · obtain ⟨q1, q2, q3⟩ := I.pin p hp
    exact ⟨q1, by rw [upd_ne (ne _ q2)]; exact q2, q3⟩
  · by_cases hb : b = a
    · subst hb
      rw [upd_same] at e
      cases e
      exact hv
    · rw [upd_ne hb] at e
      exact (I.hok b o e).stay (fun _ _ _ q => q) (fun c q => by rw [upd_ne (no c _ q)]; exact q) fun c xs q => by rw [upd_ne (nt c xs q)]; exact q
def Itd (a : Addr) (o : Obj) (kvs : List (Key × V)) : It :=
  ⟨fun i H => H a = some (.frz o (.dK kvs)) ∧ i < kvs.length, fun i H x H' => H' = H ∧ ∃ k v, kvs[i]? = some (k, v) ∧ x = kV k, fun i H => H a = some (.frz o (.dK kvs)) ∧ kvs.length ≤ i⟩
theorem kv_getD : ∀ {kvs : List (Key × V)} {vs : List (Key × Value)}, KV kvs vs → ∀ {i : Nat} {k : Key} {v : V}, kvs[i]? = some (k, v) → ∃ u, vs[i]? = some (k, u)
  | [], [], _, i, k, v, e => by simp at e
  | p :: r, q :: t, h, i, k, v, e => by
    unfold KV at h
    cases h with
    | cons h1 h2 =>
      cases i with
      | zero =>
        have : p = (k, v) := by simpa using e
        subst this
        obtain ⟨q1, q2⟩ := q
        have e1 : k = q1 := h1.1
        subst e1
        exact ⟨q2, by simp⟩
      | succ j =>
        obtain ⟨u, e2⟩ := kv_getD (kvs := r) (vs := t) h2 (i := j) (k := k) (v := v) (by simpa using e)
        exact ⟨u, by simpa using e2⟩
theorem dict_at {P : Program} {w : World} {H : Hp} {h : Heap} {a : Addr} {o : Obj} {kvs : List (Key × V)} {es0 : Array DictEntry} {ep : Nat} (hd : o.data = .dict es0 ep) (x : ObjOk P w H h a (.frz o (.dK kvs))) : ∃ vs, KV kvs vs ∧ h.DictAt (mixKind P w) a vs ep := by
  obtain ⟨e, _, _, vs, r, o', es, ep', e', c1, c2, c3⟩ := x
  rw [e] at e'
  cases e'
  rw [hd] at c2
  cases c2
  exact ⟨vs, r, o, _, e, c1, hd, c3⟩
theorem turn_dict {P : Program} {w : World} {K : PySem.W.Frag} (a it : Addr) {o : Obj} {kvs : List (Key × V)} {es0 : Array DictEntry} {ep : Nat} (hd : o.data = .dict es0 ep) : Turn P w K tg (Itd a o kvs) [it] it (fun i h => h.IsKeyIter it a i kvs.length ep) where
  mem := by simp
  obj := fun i h st b hb => by
    have e : b = it := by simpa using hb
    subst e
    obtain ⟨o, e, c, d⟩ := st
    exact ⟨o, e, fun v z => by rw [d] at z; cases z⟩
  keep := fun i h h' st k => by
    obtain ⟨o, e, c, d⟩ := st
    exact ⟨o, k it (by simp) o e, c, d⟩
  item := by
    intro X hP hw hK hc i pins s σ H E I hf st hg
    subst hP hw hK
    obtain ⟨hq, hi⟩ := hg
    obtain ⟨vs, rv, da⟩ := dict_at hd (I.hok a _ hq)
    obtain ⟨k, v⟩ : ∃ kv, kvs[i]? = some kv := ⟨_, List.getElem?_eq_getElem hi⟩
    obtain ⟨k, v'⟩ := k
    obtain ⟨u, hu⟩ := kv_getD rv v
    obtain ⟨f0, f1, f2, f3, f4, f5⟩ := hf it (by simp)
    have hl : kvs.length = vs.length := rv.length
    rw [hl] at st
    refine wpAny_pyNext_dict_item st da hu fun key h' hk st' sb => ?_
    have I1 : Inv X pins σ H { s with heap := h' } := I.turned (t' := s.toks) (fun b o hb e => (sb.2 b hb).trans e) f0 f1 f3 f4 f5
    obtain ⟨ob, e, c, d⟩ := id st'
    have rk : RelV (kV k) key := by
      rcases keyIs_shape (show keyIs k key = true from hk) with ⟨j, t, rfl, rfl⟩ | ⟨y, t, rfl, rfl⟩
      · exact ⟨t, rfl⟩
      · exact ⟨t, rfl⟩
    rw [← hl] at st'
    exact ⟨key, rfl, go_of (s := { s with heap := h' }) e c d (by decide) ⟨kV k, H, I1, rk, ⟨rfl, k, v', v, rfl⟩, st', fun b hb => (hf b hb).1⟩⟩
  done := by
    intro X hP hw hK hc i pins s σ H E I hf st hg
    subst hP hw hK
    obtain ⟨hq, hi⟩ := hg
    obtain ⟨vs, rv, da⟩ := dict_at hd (I.hok a _ hq)
    obtain ⟨f0, f1, f2, f3, f4, f5⟩ := hf it (by simp)
    have hl : kvs.length = vs.length := rv.length
    rw [hl] at st
    exact wpAny_pyNext_dict_end (I.ok.hd hc) st da (List.getElem?_eq_none (by omega)) fun h' eb => ⟨rfl, I.turned (t' := s.toks) (fun b o hb e => eb b o hb e) f0 f1 f3 f4 f5⟩
  self := fun _ _ _ _ _ st h => wpAny_pyIter_keyiter st h
def iDict (tl : TE) : TI := fun σ H R => tl σ H fun x H1 => ∃ a kvs, x = .ref a ∧ H1 a = some (.dK kvs) ∧ ∀ o, R (Itd a o kvs) (upd H1 a (.frz o (.dK kvs)))
theorem pi_dict {l : Expr} {tl : TE} (hl : PE X l tl) : PI X tg l (iDict tl) := by
  intro pins s σ H R I h
  refine thn (hl pins s σ H _ I h) fun v s1 ⟨x, H1, I1, r1, q1⟩ => ?_
  obtain ⟨a, kvs, e, hq, q⟩ := q1
  subst e
  cases r1
  have ok := I1.hok a _ hq
  obtain ⟨z1, z2, vs, rv, o, es, ep, e1, c1, c2, c3⟩ := id ok
  have da : s1.heap.DictAt (mixKind X.prog X.w) a vs ep := ⟨o, es, e1, c1, c2, c3⟩
  have I2 : Inv X pins σ (upd H1 a (.frz o (.dK kvs))) s1 := I1.relabel hq (fun _ z => by cases z) (fun _ z => by cases z) (fun o' z' e' => by
    have := I1.base.frzs a o' z' e'
    rw [hq] at this
    cases this) (fun _ z => by cases z) ⟨e1, ok.stay (fun _ _ _ q => q) (fun c q => by rw [upd_ne (ne_of q hq (by intro z; cases z))]; exact q) fun c xs q => by rw [upd_ne (ne_of q hq (by intro z; cases z))]; exact q⟩
  refine wpAny_pyIter_dict z2 da ?_
  have hlen : kvs.length = vs.length := rv.length
  refine ⟨s1.heap.objs.size, [s1.heap.objs.size], _, _, _, rfl, I2.kept (t' := s1.toks) fun b o e => Heap.get?_push_of_some _ e, turn_dict a _ c2, ⟨_, Heap.get?_push_size _ rfl, rfl, by rw [← hlen]; rfl⟩, fun b hb => ?_, q o⟩
  have e : b = s1.heap.objs.size := by simpa using hb
  subst e
  exact I2.fpOk (Nat.le_refl _) (I2.hok.fresh (Nat.le_refl _))
def tThaw (H₀ : Hp) (t : TS) : TS := fun D σ H => t { D with nx := fun σ' H' => ∃ a o kvs, H' a = some (.frz o (.dK kvs)) ∧ (∀ o z, H₀ a ≠ some (.frz o z)) ∧ D.nx σ' (upd H' a (.dK kvs)) } σ H
theorem ps_thaw {st : Stmt} {t : TS} (h : PS X st t) : PS X st (tThaw X.H₀ t) := by
  intro pins s σ H D I q
  refine thn (h pins s σ H _ I q) fun f s1 q1 => ?_
  cases f with
  | next =>
    obtain ⟨σ', H', I', a, o, kvs, e, hn, q'⟩ := q1
    have ok := I'.hok a _ e
    exact ⟨σ', _, I'.relabel e (fun _ z => by cases z) (fun _ z => by cases z) hn (fun _ z => by cases z) (ok.2.stay (fun _ _ _ q => q) (fun c q => by rw [upd_ne (ne_of q e (by intro z; cases z))]; exact q) fun c xs q => by rw [upd_ne (ne_of q e (by intro z; cases z))]; exact q), q'⟩
  | cont => exact q1
  | brk => exact q1
  | ret v => exact q1
theorem for_dict {a : Addr} {o : Obj} {kvs : List (Key × V)} {g : TG} {tb : TS} {D : Ends} {σ : St} {H : Hp} (Pv : Nat → St → Hp → Prop) (h0 : Pv 0 σ H) (hl : ∀ i σ H, i ≤ kvs.length → Pv i σ H → H a = some (.frz o (.dK kvs)))
    (hs : ∀ i k v σ H, kvs[i]? = some (k, v) → Pv i σ H → g (kV k) σ H fun σ2 H2 => tb { D with nx := Pv (i + 1), ct := Pv (i + 1), bk := D.nx } σ2 H2) (hd : ∀ σ H, Pv kvs.length σ H → D.nx σ H) :
    ∃ W : Nat → Nat → St → Hp → Prop, (∃ m, W 0 m σ H) ∧ ∀ i m σ H, W i m σ H →
      ((Itd a o kvs).stop i H ∧ D.nx σ H) ∨ ((Itd a o kvs).go i H ∧ ∃ N : St → Hp → Prop, (∀ σ' H', N σ' H' → ∃ m', m' < m ∧ W (i + 1) m' σ' H') ∧ ∀ x H', (Itd a o kvs).yld i H x H' → g x σ H' fun σ2 H2 => tb { D with nx := N, ct := N, bk := D.nx } σ2 H2) := by
  refine ⟨fun i m σ H => m = kvs.length - i ∧ i ≤ kvs.length ∧ Pv i σ H, ⟨kvs.length, by simp, Nat.zero_le _, h0⟩, ?_⟩
  rintro i m σ H ⟨rfl, hi, p⟩
  have q := hl i σ H hi p
  by_cases hlt : i < kvs.length
  · refine .inr ⟨⟨q, hlt⟩, Pv (i + 1), fun σ' H' p' => ⟨kvs.length - (i + 1), by omega, rfl, hlt, p'⟩, fun x H' y => ?_⟩
    obtain ⟨rfl, k, v, e, rfl⟩ := y
    exact hs i k v σ _ e p
  · have : i = kvs.length := by omega
    subst this
    exact .inl ⟨⟨q, Nat.le_refl _⟩, hd σ H p⟩
end
end L2
set_option Elab.async false
set_option linter.all false
set_option maxRecDepth 100000
namespace HT
open PySem PySem.Spec PyProof.Rows L2
open PySem.SeqAt
open PySem.AutoSeq1 (wpAny_loadPart')
open PySem.MeetsSeq PySem.MeetsSeq2 PySem.MeetsSeq3
section
variable {prog : Program} {w : World} {A : Around} {E : Value → Shared → Prop} {s : Shared}
theorem getItem_tuple_whole {t sl : Addr} {items : Array Value} {vl vu : Value} {lo hi : Option Int} {Q : Value → Shared → Prop} (ht : IsTup s.heap t items) (hs : s.heap.IsSliceOf sl vl vu .none) (pl : IsPart vl lo) (pu : IsPart vu hi)
    (hw : sIx items.size 0 lo = 0 ∧ sIx items.size items.size hi = items.size) (h : Q (.ref t) s) : wpAny (model prog w) A (getItem (.ref t) (.ref sl)) Q E s := by
  obtain ⟨os, hos, hcs, hds⟩ := id hs
  have hTs : s.TypeIs (.ref sl) "slice" := ⟨os, hos, hcs⟩
  unfold getItem
  try with_reducible refine wpAny_holding ?_
  first | refine wpAny_bind (wpAny_pure ?_) | skip
  refine wpAny_bind (wpAny_sequenceKey ht.typeIs (by decide) ?_)
  refine wpAny_bind (wpAny_callSpecial?_slot (name := Str.ofString "__getitem__") ht.typeIs PyProof.Rows.slot_tuple_getitem
    (wpAny_call_entry PyProof.Rows.slot_tuple_getitem ht.typeIs entry_tuple_getitem ?_ (args_tuple_getitem _ _)))
  show wpAny _ _ (Builtin.Tuple.tupleItemsOf (.ref t) >>= _) _ _ s
  refine wpAny_bind (tupleItemsOf_ ht ?_)
  refine wpAny_bind (wpAny_typeOf hTs ?_)
  rw [if_pos (by decide)]
  refine wpAny_bind (sliceApplied_gen hs pl pu ?_)
  have hyes : (((sIx items.size 0 lo : Nat) : Int) == 0 && (1 : Int) == 1 && (sIx items.size items.size hi - sIx items.size 0 lo) == items.size) = true := by
    rw [hw.1, hw.2]
    simp
  show wpAny _ _ (if (((sIx items.size 0 lo : Nat) : Int) == 0 && (1 : Int) == 1 && (sIx items.size items.size hi - sIx items.size 0 lo) == items.size) = true then _ else _) _ _ s
  rw [if_pos hyes]
  refine wpAny_bind ?_
  unfold Builtin.Tuple.tupleIsExact
  first
    | refine wpAny_bind (wpAny_typeOf ht.typeIs (wpAny_pure ?_))
    | trace_state
  rw [if_pos (by decide)]
  refine wpAny_bind (wpAny_rule ?_)
  exact wpAny_pure ⟨_, rfl, wpAny_pure h⟩
end
end HT
namespace L2
open PySem PySem.Spec PyProof.Rows
def rSlTA (K : PySem.W.Frag) : V → Option Int → Option Int → Hp → VK → Prop := fun x lo hi H Q => ∃ a xs, x = .ref a ∧ SqT K H a xs ∧
  ((HT.sIx xs.length 0 lo = 0 ∧ HT.sIx xs.length xs.length hi = xs.length) → Q (.ref a) H) ∧ (¬ (HT.sIx xs.length 0 lo = 0 ∧ HT.sIx xs.length xs.length hi = xs.length) → ∀ p, H p = none → Q (.ref p) (upd H p (.tup (cutV xs lo hi))))
theorem sl_tupA {X : Cx} : SlR X (rSlTA X.K) := by
  intro pins s σ H x v vl vu lo hi sl Q I rx hs pl pu h
  obtain ⟨a, xs, rfl, hx, q1, q2⟩ := h
  by_cases hw : HT.sIx xs.length 0 lo = 0 ∧ HT.sIx xs.length xs.length hi = xs.length
  · cases rx
    obtain ⟨its, r, ht, hz⟩ := I.tuple hx
    have hlen : its.toArray.size = xs.length := by rw [List.size_toArray]; exact r.length.symm
    refine ⟨"tuple", _, PyProof.Rows.slot_tuple_getitem.lookup, ht.typeIs, ?_⟩
    exact HT.getItem_tuple_whole ht hs pl pu (by rw [hlen]; exact hw) ⟨.ref a, H, I, rfl, q1 hw⟩
  · exact sl_tup pins s σ H (.ref a) v vl vu lo hi sl Q I rx hs pl pu ⟨a, xs, rfl, hx, hw, q2 hw⟩
end L2
namespace L2
open PySem PySem.Spec PyProof.Rows
theorem cutV_whole {xs : List V} {lo hi : Option Int} (h : HT.sIx xs.length 0 lo = 0 ∧ HT.sIx xs.length xs.length hi = xs.length) : cutV xs lo hi = xs := by
  unfold cutV
  rw [h.1, h.2, List.drop_zero, Nat.sub_zero, List.take_length]
def rSlTB (K : PySem.W.Frag) : V → Option Int → Option Int → Hp → VK → Prop := fun x lo hi H Q => ∃ a xs, x = .ref a ∧ SqT K H a xs ∧ ∀ p H', Same H H' → SqT K H' p (cutV xs lo hi) → Q (.ref p) H'
theorem sl_tupB {X : Cx} : SlR X (rSlTB X.K) := by
  intro pins s σ H x v vl vu lo hi sl Q I rx hs pl pu h
  obtain ⟨a, xs, e, hx, q⟩ := h
  refine sl_tupA pins s σ H x v vl vu lo hi sl Q I rx hs pl pu ⟨a, xs, e, hx, fun hw => q a H (Same.refl _) (by rw [cutV_whole hw]; exact hx), fun _ p hp => q p _ (fun b u z => by rw [upd_ne (ne_of_none z hp)]; exact z) (SqT.of upd_same)⟩
end L2
set_option Elab.async false
set_option linter.all false
set_option maxRecDepth 100000
namespace LW
open PySem L2
def top (i : Nat) : Stmt := PySem.Challenge.pw_outlineward_k12_whole_rows_written.main.body.getD i (.Pass ⟨0, 0, 0, 0⟩)
abbrev sDeal : Stmt := top 6
abbrev sDraw : Stmt := top 7
abbrev sMany : Stmt := top 8
abbrev sNumber : Stmt := top 9
abbrev sAlike : Stmt := top 10
def Keep (a : Addr) (H H' : Hp) : Prop := ∀ b o, b ≠ a → H b = some o → H' b = some o
theorem Keep.upd (a : Addr) (H : Hp) (o : HO) : Keep a H (L2.upd H a o) := fun b u hb e => by rw [upd_ne hb]; exact e
theorem Keep.trans {a : Addr} {H H1 H2 : Hp} (h : Keep a H H1) (h' : Keep a H1 H2) : Keep a H H2 := fun b o hb e => h' b o hb (h b o hb e)
theorem Keep.refl (a : Addr) (H : Hp) : Keep a H H := fun _ _ _ e => e
theorem Keep.same {a : Addr} {H H' : Hp} (h : Same H H') : Keep a H H' := fun b o _ e => h b o e
theorem same_new {H : Hp} {p : Addr} (h : H p = none) (o : HO) : Same H (upd H p o) := fun b u q => by rw [upd_ne (ne_of_none q h)]; exact q
theorem small {n : Nat} (h : n ≤ 1000) : n ≤ sizeLine := Nat.le_of_lt (small1000 h)
theorem sm {n : Nat} (h : n.ble 1000 = true) : n ≤ sizeLine := small (Nat.le_of_ble_eq_true h)
def dealN (ns : List Int) (k : Int) : Int × Int :=
  let w := if 0 < ns.length then ns.getD 0 0 % 2 else 1
  let n := if 0 < ns.length then ns.getD (k % (ns.length : Int)).toNat 0 * 48271 + 7919 * k * k else 7919 * k + 11
  if k < (ns.length : Int) ∧ w = 0 then (w, if k = 0 then ns.getD k.toNat 0 / 2 else ns.getD k.toNat 0) else (w, n)
def drawN (w n m : Int) : Int × Int :=
  if w = 0 then (n % m, n / m) else
  let n1 := (n * 48271 + 7919) % 2147483647
  let n2 := (n1 * 40692 + 104729) % 2147483399
  ((n1 * n1 % 2147483629 * 2147483563 + n2 * n2 % 2147483563) % m, n2)
theorem drawN_lo (w n : Int) {m : Int} (h : 0 < m) : 0 ≤ (drawN w n m).1 := by
  unfold drawN
  split
  · exact Int.emod_nonneg _ (by omega)
  · exact Int.emod_nonneg _ (by omega)
theorem drawN_hi (w n : Int) {m : Int} (h : 0 < m) : (drawN w n m).1 < m := by
  unfold drawN
  split
  · exact Int.emod_lt_of_pos _ h
  · exact Int.emod_lt_of_pos _ h
def numN (w n : Int) : Int × Int :=
  let a := drawN w n 3
  if a.1 = 0 then ((drawN w a.2 11).1 - 5, (drawN w a.2 11).2)
  else ((drawN w a.2 (2 * 10 ^ 18 - 3)).1 - 10 ^ 18 + 2, (drawN w a.2 (2 * 10 ^ 18 - 3)).2)
theorem at_map {ns : List Int} {k : Int} (h0 : 0 ≤ k) (h : k < (ns.length : Int)) : atI (ns.map V.int) k = some (.int (ns.getD k.toNat 0)) := by
  have hk : k.toNat < ns.length := by omega
  have ek : k = ((k.toNat : Nat) : Int) := by omega
  have q : atI (ns.map V.int) ((k.toNat : Nat) : Int) = some (.int (ns.getD k.toNat 0)) := atI_nat (by rw [List.getElem?_map, List.getElem?_eq_getElem hk, List.getD_eq_getElem?_getD, List.getElem?_eq_getElem hk] <;> rfl)
  rw [← ek] at q
  exact q
def spDeal (K : PySem.W.Frag) : Sp := fun vs H Q _ => ∃ (a : Addr) (ns : List Int) (k : Int), vs = [.ref a, .int k] ∧ SqL K H a (ns.map V.int) ∧ ns.length ≤ 63 ∧ 0 ≤ k ∧ k ≤ 1000 ∧
  ∀ (r : Addr) (H' : Hp), H r = none → Same H H' → H' r = some (.lst [.int (dealN ns k).1, .int (dealN ns k).2]) → Q (.ref r) H'
def spDraw : Sp := fun vs H Q _ => ∃ (a : Addr) (w n m : Int), vs = [.ref a, .int m] ∧ H a = some (.lst [.int w, .int n]) ∧ 0 < m ∧ m < 2 ^ 200 ∧ Q (.int (drawN w n m).1) (upd H a (.lst [.int w, .int (drawN w n m).2]))
def spMany (K : PySem.W.Frag) : Sp := fun vs H Q _ => ∃ (a : Addr) (ns : List Int), vs = [.ref a] ∧ SqL K H a (ns.map V.int) ∧ ns.length ≤ 63 ∧ ∀ m : Int, 1 ≤ m → m ≤ 63 → Q (.int m) H
def spNumber : Sp := fun vs H Q _ => ∃ (a : Addr) (w n : Int), vs = [.ref a] ∧ H a = some (.lst [.int w, .int n]) ∧ Q (.int (numN w n).1) (upd H a (.lst [.int w, .int (numN w n).2]))
def Fits : Nat → D → Prop
  | 0, _ => False
  | n + 1, .tup ds => ds.length ≤ 1000 ∧ ∀ d ∈ ds, Fits n d
  | _ + 1, _ => True
def spAlike (n : Nat) : Sp := fun vs H Q _ => ∃ (x y : V) (d : D), vs = [x, y] ∧ Held H d x ∧ Held H d y ∧ Fits n d ∧ ∀ H', Same H H' → Q (.bl true) H'
section
variable {P : Program} {w : World} {K : PySem.W.Frag} {mg : Str → Option Value} {base : Heap}
theorem ok_deal {f : Addr} {fd : FuncData} (F : Fun K "_law_deal" "_law_deal" sDeal f fd) (B : Free0 mg) : FnOk P w K mg base CX0 1 f fd ["_law_script", "_law_k"] (spDeal K) := by
  have sc : FnScope ["_law_script", "_law_k", "_law_number_here", "_law_way_of"] ["_law_script", "_law_k"] (defScope sDeal) := ⟨rfl, rfl, rfl, by decide +kernel, rfl, by decide +kernel, by decide +kernel⟩
  refine F.ok sc (fun vs H Q E h => ?_) (fun cdv A outer s H vs Q E hr h => ?_)
  · obtain ⟨a, ns, k, rfl, _⟩ := h
    rfl
  obtain ⟨a, ns, k, rfl, hS, h63, h0, h1, q⟩ := h
  have hu := hu_of hr
  refine ⟨_, (pss_cons (ps_set (i := 2) sc.nd rfl (by first | exact Or.inl rfl | exact Or.inr rfl) (pe_op op_add (pe_op op_mul pe_int (pv 1)) pe_int))
      (pss_cons (ps_set (i := 3) sc.nd rfl (by first | exact Or.inl rfl | exact Or.inr rfl) pe_int)
      (pss_cons (ps_if (pt_cmpR op_gt (pe_cB call_len_seq (by rfl) B.len_ bt_len (pa_c (pv 0) pa_nil)) pe_int (nomark _)) (pss_cons (ps_set (i := 2) sc.nd rfl (by first | exact Or.inl rfl | exact Or.inr rfl) (pe_op op_add (pe_op op_mul (pe_ix ix_list (pv 0) (pe_op op_mod (pv 1) (pe_cB call_len_seq (by rfl) B.len_ bt_len (pa_c (pv 0) pa_nil))) (fun _ _ => rfl)) pe_int) (pe_op op_mul (pe_op op_mul pe_int (pv 1)) (pv 1))))
      (pss_one (ps_set (i := 3) sc.nd rfl (by first | exact Or.inl rfl | exact Or.inr rfl) (pe_op op_mod (pe_ix ix_list (pv 0) pe_int (fun _ _ => rfl)) pe_int)))) pss_nil)
      (pss_cons (ps_if (pw_and (pt_cmpR op_lt (pv 1) (pe_cB call_len_seq (by rfl) B.len_ bt_len (pa_c (pv 0) pa_nil)) (nomark _)) (pw_and1 (pt_cmpR op_eq (pv 3) pe_int (nomark _)))).pt (pss_one (ps_set (i := 2) sc.nd rfl (by first | exact Or.inl rfl | exact Or.inr rfl) (pe_ix ix_list (pe_lst (pa_c (pe_ix ix_list (pv 0) (pv 1) (fun _ _ => rfl)) (pa_c (pe_op op_fdivB (pe_ix ix_list (pv 0) (pv 1) (fun _ _ => rfl)) pe_int) pa_nil))) (pe_cT call_int1 (by rfl) B.int_ bt_int (pa_c (pe_cmpR op_eq (pv 1) pe_int (nomark _)) pa_nil)) (fun _ _ => rfl)))) pss_nil)
      (pss_one (ps_ret (pe_lst (pa_c (pv 3) (pa_c (pv 2) pa_nil))))))))), ?_⟩
  have hl : (ns.map V.int).length = ns.length := List.length_map _
  refine ⟨_, rfl, _, _, rfl, rfl, .inl ⟨by decide, by decide⟩, _, _, rfl, rfl, ?_⟩
  refine ⟨_, rfl, a, _, rfl, .inl hS, _, _, rfl, rfl, _, rfl, ?_⟩
  refine ite2 (fun c => ?_) (fun c => ?_)
  · have c' : 0 < ns.length := by
      have := of_decide_eq_true c
      rw [hl] at this
      omega
    have hm0 : 0 ≤ k % (ns.length : Int) := Int.emod_nonneg _ (by omega)
    have hm1 : k % (ns.length : Int) < (ns.length : Int) := Int.emod_lt_of_pos _ (by omega)
    have hat : atI (ns.map V.int) (k % (((ns.map V.int).length : Nat) : Int)) = some (.int (ns.getD (k % (ns.length : Int)).toNat 0)) := by
      rw [hl]
      exact at_map hm0 hm1
    have hat0 : atI (ns.map V.int) 0 = some (.int (ns.getD 0 0)) := at_map (k := 0) (by omega) (by omega)
    refine ⟨_, rfl, _, rfl, _, rfl, a, _, rfl, .inl hS, _, _, rfl, rfl, (by rw [hl]; omega), a, _, _, _, rfl, rfl, hS, hat, _, _, rfl, rfl, .inr ⟨by decide, by decide⟩, _, rfl, _, _, rfl, rfl, .inl ⟨by decide, by decide⟩, _, rfl, _, _, rfl, rfl, .inl ⟨by omega, by omega⟩, _, _, rfl, rfl, ?_⟩
    refine ⟨_, rfl, a, _, _, _, rfl, rfl, hS, hat0, _, _, rfl, rfl, (by show (0 : Int) < _; decide), ?_⟩
    refine ⟨_, rfl, _, rfl, a, _, rfl, .inl hS, _, _, rfl, rfl, _, rfl, ?_⟩
    refine ite2 (fun c1 => ?_) (fun c1 => ?_)
    · have c1' : k < (ns.length : Int) := by
        have := of_decide_eq_true c1
        rw [hl] at this
        exact this
      refine ⟨_, rfl, rfl, _, rfl, ?_⟩
      refine ite2 (fun c2 => ?_) (fun c2 => ?_)
      · have c2' : ns.getD 0 0 % 2 = 0 := by
          have := of_decide_eq_true c2
          injection this
        have hatk : atI (ns.map V.int) k = some (.int (ns.getD k.toNat 0)) := at_map h0 c1'
        refine ⟨_, rfl, _, rfl, a, _, _, _, rfl, rfl, hS, hatk, _, rfl, _, rfl, a, _, _, _, rfl, rfl, hS, hatk, _, _, rfl, rfl, ⟨by decide, by decide⟩, sm rfl, fun p hp => ?_⟩
        have g1 : Same H (upd H p (.lst [.int (ns.getD k.toNat 0), .int (ns.getD k.toNat 0 / 2)])) := same_new hp _
        refine ⟨_, rfl, rfl, .inr ⟨_, rfl, ?_⟩⟩
        have hix : atI [V.int (ns.getD k.toNat 0), V.int (ns.getD k.toNat 0 / 2)] (if decide (V.int k = V.int 0) = true then 1 else 0) = some (.int (if k = 0 then ns.getD k.toNat 0 / 2 else ns.getD k.toNat 0)) := by
          by_cases hk : k = 0
          · subst hk; rfl
          · have : ¬ (V.int k = V.int 0) := fun e => hk (by injection e)
            rw [decide_eq_false this, if_neg Bool.false_ne_true, if_neg hk]
            rfl
        refine ⟨p, _, _, _, rfl, rfl, SqL.of upd_same, hix, ?_⟩
        refine ⟨_, rfl, _, rfl, sm rfl, fun r hr' => ?_⟩
        refine q r _ (g1.free hr') (g1.trans (same_new hr' _)) ?_
        rw [upd_same]
        unfold dealN
        simp only [c', c1', c2', if_true, and_self]
      · have c2' : ¬ ns.getD 0 0 % 2 = 0 := fun e => c2 (decide_eq_true (congrArg V.int e))
        refine ⟨_, rfl, _, rfl, sm rfl, fun r hr' => ?_⟩
        refine q r _ hr' (same_new hr' _) ?_
        rw [upd_same]
        unfold dealN
        simp only [c', if_true, c2', and_false, if_false]
    · have c1' : ¬ k < (ns.length : Int) := by
        intro e
        refine c1 (decide_eq_true ?_)
        rw [hl]
        exact e
      refine iteF ?_
      refine ⟨_, rfl, _, rfl, sm rfl, fun r hr' => ?_⟩
      refine q r _ hr' (same_new hr' _) ?_
      rw [upd_same]
      unfold dealN
      simp only [c', if_true, c1', false_and, if_false]
  · have c' : ns = [] := by
      have : ¬ (0 < ns.length) := fun e => c (decide_eq_true (by rw [hl]; omega))
      exact List.length_eq_zero_iff.mp (by omega)
    subst c'
    refine ⟨_, rfl, _, rfl, a, _, rfl, .inl hS, _, _, rfl, rfl, _, rfl, ?_⟩
    have c1 : ¬ k < (([] : List Int).map V.int).length := by
      rw [hl]
      show ¬ k < 0
      omega
    rw [decide_eq_false c1]
    refine iteF (iteF ?_)
    refine ⟨_, rfl, _, rfl, sm rfl, fun r hr' => ?_⟩
    refine q r _ hr' (same_new hr' _) ?_
    rw [upd_same]
    unfold dealN
    have c2 : ¬ (k < ((([] : List Int).length : Nat) : Int)) := by show ¬ k < 0; omega
    simp only [c2, false_and, if_false]
    rfl
theorem ok_draw {f : Addr} {fd : FuncData} (F : Fun K "_law_draw" "_law_draw" sDraw f fd) : FnOk P w K mg base CX0 1 f fd ["_law_deal_here", "_law_many_here"] spDraw := by
  have sc : FnScope ["_law_deal_here", "_law_many_here", "_law_number_here", "_law_one", "_law_two"] ["_law_deal_here", "_law_many_here"] (defScope sDraw) := ⟨rfl, rfl, rfl, by decide +kernel, rfl, by decide +kernel, by decide +kernel⟩
  refine F.ok sc (fun vs H Q E h => ?_) (fun cdv A outer s H vs Q E hr h => ?_)
  · obtain ⟨a, w, n, m, rfl, _⟩ := h
    rfl
  obtain ⟨a, w, n, m, rfl, hS, h0, h1, q⟩ := h
  refine ⟨_, (pss_cons (ps_set (i := 2) sc.nd rfl (by first | exact Or.inl rfl | exact Or.inr rfl) (pe_ix ix_list (pv 0) pe_int (fun _ _ => rfl)))
      (pss_cons (ps_if (pt_cmpR op_eq (pe_ix ix_list (pv 0) pe_int (fun _ _ => rfl)) pe_int (nomark _)) (pss_cons (ps_asg (pe_op op_fdivB (pv 2) (pv 1)) (pg_sub (pv 0) pe_int set_list))
      (pss_one (ps_ret (pe_op op_mod (pv 2) (pv 1))))) pss_nil)
      (pss_cons (ps_set (i := 2) sc.nd rfl (by first | exact Or.inl rfl | exact Or.inr rfl) (pe_op op_mod (pe_op op_add (pe_op op_mul (pv 2) pe_int) pe_int) pe_int))
      (pss_cons (ps_asg (pe_op op_mod (pe_op op_add (pe_op op_mul (pv 2) pe_int) pe_int) pe_int) (pg_sub (pv 0) pe_int set_list))
      (pss_cons (ps_set (i := 3) sc.nd rfl (by first | exact Or.inl rfl | exact Or.inr rfl) (pe_op op_mod (pe_op op_mul (pv 2) (pv 2)) pe_int))
      (pss_cons (ps_set (i := 4) sc.nd rfl (by first | exact Or.inl rfl | exact Or.inr rfl) (pe_op op_mod (pe_op op_mul (pe_ix ix_list (pv 0) pe_int (fun _ _ => rfl)) (pe_ix ix_list (pv 0) pe_int (fun _ _ => rfl))) pe_int))
      (pss_one (ps_ret (pe_op op_mod (pe_op op_add (pe_op op_mul (pv 3) pe_int) (pv 4)) (pv 1)))))))))), ?_⟩
  refine ⟨_, rfl, a, _, _, _, rfl, rfl, SqL.of hS, rfl, ?_⟩
  refine ⟨_, rfl, a, _, _, _, rfl, rfl, SqL.of hS, rfl, rfl, _, rfl, ?_⟩
  refine ite2 (fun c => ?_) (fun c => ?_)
  · have c' : w = 0 := by
      have := of_decide_eq_true c
      injection this
    refine ⟨_, rfl, _, rfl, _, _, rfl, rfl, ⟨h0, h1⟩, _, rfl, a, _, _, 1, rfl, rfl, hS, rfl, ?_⟩
    refine ⟨_, rfl, _, rfl, _, _, rfl, rfl, h0, ?_⟩
    unfold drawN at q
    rw [if_pos c'] at q
    exact q
  · have c' : ¬ w = 0 := fun e => c (decide_eq_true (congrArg V.int e))
    have b1 : ∀ x : Int, 0 ≤ x % 2147483647 ∧ x % 2147483647 < 2147483647 := fun x => ⟨Int.emod_nonneg _ (by decide), Int.emod_lt_of_pos _ (by decide)⟩
    have b2 : ∀ x : Int, 0 ≤ x % 2147483399 ∧ x % 2147483399 < 2147483399 := fun x => ⟨Int.emod_nonneg _ (by decide), Int.emod_lt_of_pos _ (by decide)⟩
    refine ⟨_, rfl, _, _, rfl, rfl, .inr ⟨by decide, by decide⟩, _, _, rfl, rfl, _, _, rfl, rfl, (by show (0 : Int) < _; decide), ?_⟩
    obtain ⟨x1, x2⟩ := b1 (n * 48271 + 7919)
    unfold drawN at q
    rw [if_neg c'] at q
    dsimp only at q
    refine ⟨_, rfl, _, _, rfl, rfl, .inr ⟨by decide, by decide⟩, _, _, rfl, rfl, _, _, rfl, rfl, (by show (0 : Int) < _; decide), _, rfl, a, _, _, 1, rfl, rfl, hS, rfl, ?_⟩
    obtain ⟨y1, y2⟩ := b2 ((n * 48271 + 7919) % 2147483647 * 40692 + 104729)
    refine ⟨_, rfl, _, rfl, _, _, rfl, rfl, .inl ⟨by omega, by omega⟩, _, _, rfl, rfl, (by show (0 : Int) < _; decide), ?_⟩
    refine ⟨_, rfl, a, _, _, _, rfl, rfl, SqL.of upd_same, rfl, _, rfl, a, _, _, _, rfl, rfl, SqL.of upd_same, rfl, _, _, rfl, rfl, .inl ⟨by omega, by omega⟩, _, _, rfl, rfl, (by show (0 : Int) < _; decide), ?_⟩
    refine ⟨_, rfl, _, _, rfl, rfl, .inr ⟨by decide, by decide⟩, _, rfl, _, _, rfl, rfl, _, rfl, _, _, rfl, rfl, h0, ?_⟩
    exact q
theorem ok_many {f : Addr} {fd : FuncData} (F : Fun K "_law_many" "_law_many" sMany f fd) (B : Free0 mg) : FnOk P w K mg base CX0 1 f fd ["_law_script"] (spMany K) := by
  have sc : FnScope ["_law_script"] ["_law_script"] (defScope sMany) := ⟨rfl, rfl, rfl, by decide +kernel, rfl, by decide +kernel, by decide +kernel⟩
  refine F.ok sc (fun vs H Q E h => ?_) (fun cdv A outer s H vs Q E hr h => ?_)
  · obtain ⟨a, ns, rfl, _⟩ := h
    rfl
  obtain ⟨a, ns, rfl, hS, h63, q⟩ := h
  refine ⟨_, (pss_one (ps_ret (pe_cB (call_max2 rfl) (by rfl) B.max_ bt_max (pa_c pe_int (pa_c (pe_cB (call_min2 rfl) (by rfl) B.min_ bt_min (pa_c pe_int (pa_c (pe_cB call_len_seq (by rfl) B.len_ bt_len (pa_c (pv 0) pa_nil)) pa_nil))) pa_nil))))), ?_⟩
  refine ⟨_, rfl, a, _, rfl, .inl hS, _, _, rfl, _, _, rfl, ?_⟩
  exact q _ (by split <;> omega) (by rw [List.length_map]; split <;> (try split) <;> omega)
theorem ok_number {f : Addr} {fd : FuncData} (F : Fun K "_law_number" "_law_number" sNumber f fd) (F_draw : Fn P w K mg base 1 "_law_draw" ["_law_deal_here", "_law_many_here"] spDraw) : FnOk P w K mg base CX0 2 f fd ["_law_deal_here"] spNumber := by
  have sc : FnScope ["_law_deal_here"] ["_law_deal_here"] (defScope sNumber) := ⟨rfl, rfl, rfl, by decide +kernel, rfl, by decide +kernel, by decide +kernel⟩
  refine F.ok sc (fun vs H Q E h => ?_) (fun cdv A outer s H vs Q E hr h => ?_)
  · obtain ⟨a, w, n, rfl, _⟩ := h
    rfl
  obtain ⟨a, w, n, rfl, hS, q⟩ := h
  refine ⟨_, (pss_cons (ps_if (pt_cmpR op_eq (pe_fn F_draw hr (pa_c (pv 0) (pa_c pe_int pa_nil))) pe_int (nomark _)) (pss_one (ps_ret (pe_op op_sub (pe_fn F_draw hr (pa_c (pv 0) (pa_c pe_int pa_nil))) pe_int))) pss_nil)
      (pss_one (ps_ret (pe_op op_add (pe_op op_sub (pe_fn F_draw hr (pa_c (pv 0) (pa_c (pe_op op_sub (pe_op op_mul pe_int (pe_op op_pow pe_int pe_int)) pe_int) pa_nil))) (pe_op op_pow pe_int pe_int)) pe_int)))), ?_⟩
  refine ⟨_, rfl, a, w, n, 3, rfl, hS, by decide, by decide, ?_⟩
  refine ⟨rfl, _, rfl, ?_⟩
  unfold numN at q
  dsimp only at q
  refine ite2 (fun c => ?_) (fun c => ?_)
  · have c' : (drawN w n 3).1 = 0 := by
      have := of_decide_eq_true c
      injection this
    rw [if_pos c'] at q
    refine ⟨_, rfl, a, w, _, 11, rfl, upd_same, by decide, by decide, _, _, rfl, rfl, ?_⟩
    rw [upd_upd]
    exact q
  · have c' : ¬ (drawN w n 3).1 = 0 := fun e => c (decide_eq_true (congrArg V.int e))
    rw [if_neg c'] at q
    refine ⟨_, rfl, _, _, rfl, rfl, ⟨by decide, by decide, by decide⟩, _, _, rfl, rfl, .inl ⟨by decide, by decide⟩, _, _, rfl, rfl, ?_⟩
    refine ⟨a, w, _, 2 * 10 ^ 18 - 3, rfl, upd_same, by decide, by decide, _, _, rfl, rfl, ⟨by decide, by decide, by decide⟩, _, _, rfl, rfl, _, _, rfl, rfl, ?_⟩
    rw [upd_upd]
    exact q
end
end LW
set_option Elab.async false
set_option linter.all false
set_option maxRecDepth 100000
namespace LW
open PySem L2
section
variable {P : Program} {w : World} {K : PySem.W.Frag} {mg : Str → Option Value} {base : Heap}
theorem scAlike : FnScope ["_law_found", "_law_due_here"] ["_law_found", "_law_due_here"] (defScope sAlike) := ⟨rfl, rfl, rfl, by decide +kernel, rfl, by decide +kernel, by decide +kernel⟩
theorem ok_alike {f : Addr} {fd : FuncData} {n : Nat} (F : Fun K "_law_alike" "_law_alike" sAlike f fd) (B : Free0 mg) (F_alike : Fn P w K mg base n "_law_alike" ["_law_found", "_law_due_here"] (spAlike n)) : FnOk P w K mg base CX0 (n + 1) f fd ["_law_found", "_law_due_here"] (spAlike (n + 1)) := by
  have sc := scAlike
  refine F.ok sc (fun vs H Q E h => ?_) (fun cdv A outer s H vs Q E hr h => ?_)
  · obtain ⟨x, y, d, rfl, _⟩ := h
    rfl
  obtain ⟨x, y, d, rfl, hx, hy, hd, q⟩ := h
  refine ⟨_, (pss_cons (ps_if (pt_val (pe_cB call_isinst (by rfl) B.isinstance_ bt_isinstance (pa_c (pv 1) (pa_c (pe_bltn (v := .ty "tuple") (by rfl) B.tuple_ bt_tuple (by rfl)) pa_nil)))) (pss_cons (ps_if (pw_or (pt_not (pt_val (pe_cB call_isinst (by rfl) B.isinstance_ bt_isinstance (pa_c (pv 0) (pa_c (pe_bltn (v := .ty "tuple") (by rfl) B.tuple_ bt_tuple (by rfl)) pa_nil))))) (pw_or1 (pt_cmpR op_ne (pe_cB call_len_seq (by rfl) B.len_ bt_len (pa_c (pv 0) pa_nil)) (pe_cB call_len_seq (by rfl) B.len_ bt_len (pa_c (pv 1) pa_nil)) (nomark _)))).pt (pss_one (ps_ret pe_bl)) pss_nil)
      (pss_one (ps_ret (pe_cB (call_all rfl) (by rfl) B.all_ bt_all (pa_c (pe_comp ["_law_k"] [0, 1] rfl (comp_ok (sc := defScope sAlike) (N := ["_law_found", "_law_due_here"]) rfl rfl (by decide +kernel)) (pi_range1 (by rfl) B.range_ (pa_c (pe_cB call_len_seq (by rfl) B.len_ bt_len (pa_c (pv 1) pa_nil)) pa_nil)) (fun s H ex => ⟨(pg_name (i := 0) (show List.Nodup (["_law_k", "_law_found", "_law_due_here"] : List Str) by decide +kernel) rfl (by first | exact Or.inl rfl | exact Or.inr rfl)), pts_nil, (pe_fn F_alike hr (pa_c (pe_ix (ix_tupK (K := K)) (pv 1) (pv 0) (fun _ _ => rfl)) (pa_c (pe_ix (ix_tupK (K := K)) (pv 2) (pv 0) (fun _ _ => rfl)) pa_nil)) (Nat.le_refl _))⟩)) pa_nil))))) pss_nil)
      (pss_cons (ps_if (pt_val (pe_cB call_isinst (by rfl) B.isinstance_ bt_isinstance (pa_c (pv 1) (pa_c (pe_bltn (v := .ty "int") (by rfl) B.int_ bt_int (by rfl)) pa_nil)))) (pss_one (ps_ret (pe_and (pe_cB call_isinst (by rfl) B.isinstance_ bt_isinstance (pa_c (pv 0) (pa_c (pe_bltn (v := .ty "int") (by rfl) B.int_ bt_int (by rfl)) pa_nil))) (pe_and (pe_not (pe_cB call_isinst (by rfl) B.isinstance_ bt_isinstance (pa_c (pv 0) (pa_c (pe_bltn (v := .ty "bool") (by rfl) B.bool_ bt_bool (by rfl)) pa_nil)))) (pe_one (pe_cmpR op_eq (pv 0) (pv 1) (nomark _))))))) pss_nil)
      (pss_one (ps_ret (pe_and (pe_cB call_isinst (by rfl) B.isinstance_ bt_isinstance (pa_c (pv 0) (pa_c (pe_bltn (v := .ty "str") (by rfl) B.str_ bt_str (by rfl)) pa_nil))) (pe_one (pe_cmpR op_eq (pv 0) (pv 1) (nomark _)))))))), ?_⟩
  cases d with
  | int i =>
    unfold Held at hx hy
    subst hx hy
    refine ⟨_, rfl, _, _, _, _, rfl, TyOf.int i, kit_it K, _, rfl, iteF ?_⟩
    refine ⟨_, rfl, _, _, _, _, rfl, TyOf.int i, kit_ii K, _, rfl, iteT ?_⟩
    refine ⟨_, rfl, _, _, _, _, rfl, TyOf.int i, kit_ii K, _, rfl, iteT ?_⟩
    refine ⟨_, rfl, _, _, _, _, rfl, TyOf.int i, kit_ib K, _, rfl, _, rfl, iteT ?_⟩
    refine ⟨_, rfl, _, rfl, rfl, ?_⟩
    rw [decide_eq_true rfl]
    exact q H (Same.refl H)
  | str z =>
    unfold Held at hx hy
    subst hx hy
    refine ⟨_, rfl, _, _, _, _, rfl, TyOf.str z, kit_st K, _, rfl, iteF ?_⟩
    refine ⟨_, rfl, _, _, _, _, rfl, TyOf.str z, kit_si K, _, rfl, iteF ?_⟩
    refine ⟨_, rfl, _, _, _, _, rfl, TyOf.str z, kit_ss K, _, rfl, iteT ?_⟩
    refine ⟨_, rfl, _, rfl, rfl, ?_⟩
    rw [decide_eq_true rfl]
    exact q H (Same.refl H)
  | tup ds =>
    unfold Held at hx hy
    obtain ⟨a, xs, rfl, ha, hxs⟩ := hx
    obtain ⟨b, ys, rfl, hb, hys⟩ := hy
    have lx := hxs.length
    have ly := hys.length
    refine ⟨_, rfl, _, _, _, _, rfl, TyOf.tup hb, kit_tt K, _, rfl, iteT ?_⟩
    refine ⟨_, rfl, _, _, _, _, rfl, TyOf.tup ha, kit_tt K, _, rfl, iteF ?_⟩
    refine ⟨_, rfl, a, _, rfl, .inr (SqT.of ha), _, rfl, b, _, rfl, .inr (SqT.of hb), rfl, _, rfl, iteNS (by rw [← lx, ← ly]) ?_⟩
    obtain ⟨hw, hd⟩ := (show ds.length ≤ 1000 ∧ ∀ d ∈ ds, Fits n d from hd)
    refine ⟨_, rfl, b, _, rfl, .inr (SqT.of hb), _, rfl, (by omega), (by omega), fun p hp => ?_⟩
    have en : ((ys.length : Nat) : Int).toNat = ds.length := by omega
    rw [en]
    refine comp_range (fun i σ' H' => ∃ v, σ' = [v, some (.ref a), some (.ref b)] ∧ Same H H' ∧ H' p = some (.lst (List.replicate i (V.bl true)))) ?_ ?_ ?_
    · exact ⟨none, rfl, same_new hp _, upd_same⟩
    · rintro i σ' H1 hi ⟨v, rfl, sm1, hp1⟩
      have ej : ds[i]? = some ds[i] := List.getElem?_eq_getElem hi
      obtain ⟨x', hx', gx⟩ := hxs.get ej
      obtain ⟨y', hy', gy⟩ := hys.get ej
      have ax : atI xs (0 + (i : Int)) = some x' := by rw [Int.zero_add]; exact atI_nat hx'
      have ay : atI ys (0 + (i : Int)) = some y' := by rw [Int.zero_add]; exact atI_nat hy'
      unfold gName tYes
      refine iteT ?_
      refine ⟨_, rfl, _, rfl, a, _, _, _, rfl, rfl, SqT.of (sm1 _ _ ha), ax, _, rfl, _, rfl, b, _, _, _, rfl, rfl, SqT.of (sm1 _ _ hb), ay, ?_⟩
      refine ⟨x', y', ds[i], rfl, gx.mono sm1, gy.mono sm1, hd _ (List.getElem_mem hi), fun H2 sm2 => ?_⟩
      refine ⟨_, sm2 _ _ hp1, (by rw [List.length_replicate]; exact small1000 (by omega)), _, rfl, ?_, ?_⟩
      · intro c o e
        rw [upd_ne (ne_of_none e hp)]
        exact sm2 _ _ (sm1 _ _ e)
      · rw [upd_same, List.replicate_succ']
    · rintro σ' H1 ⟨v, rfl, sm1, hp1⟩
      refine ⟨p, List.replicate ds.length true, rfl, SqL.of (by rw [List.map_replicate]; exact hp1), ?_⟩
      have e : (List.replicate ds.length true).all id = true := by
        rw [List.all_eq_true]
        intro z hz
        rw [(List.mem_replicate.mp hz).2]
        rfl
      rw [e]
      exact q H1 sm1
theorem fn_alike {f : Addr} {fd : FuncData} (F : Fun K "_law_alike" "_law_alike" sAlike f fd) (b : Binds K fd ["_law_found", "_law_due_here"] []) (m : mg "_law_alike" = some (.ref f)) (B : Free0 mg) : ∀ n : Nat, Fn P w K mg base n "_law_alike" ["_law_found", "_law_due_here"] (spAlike n)
  | 0 => by
    have no : ∀ vs H Q E, ¬ spAlike 0 vs H Q E := fun vs H Q E h => by
      obtain ⟨x, y, d, _, _, _, z, _⟩ := h
      exact z
    exact Fn.mk' F b m ⟨fun vs H Q E h => absurd h (no vs H Q E), fun A outer s H args us vs Q E _ _ _ _ h => absurd h (no vs H Q E)⟩
  | n + 1 => Fn.mk' F b m (ok_alike F B (fn_alike F b m B n))
end
end LW
set_option Elab.async false
set_option linter.all false
set_option maxRecDepth 100000
namespace LW
open PySem L2
def heldN (base : Int) (ps : List (Int × Int)) (p : Int) : Int := ps.foldl (fun f q => if q.1 ≤ p then q.2 else f) base
theorem heldN_nil (b p : Int) : heldN b [] p = b := rfl
theorem heldN_snoc (b : Int) (ps : List (Int × Int)) (q : Int × Int) (p : Int) : heldN b (ps ++ [q]) p = if q.1 ≤ p then q.2 else heldN b ps p := by unfold heldN; rw [List.foldl_append]; rfl
theorem heldN_none {p : Int} : ∀ {ps : List (Int × Int)} {b : Int}, (∀ q ∈ ps, ¬ q.1 ≤ p) → heldN b ps p = b
  | [], _, _ => rfl
  | q :: r, b, h => by
    show heldN (if q.1 ≤ p then q.2 else b) r p = b
    rw [if_neg (h q List.mem_cons_self)]
    exact heldN_none fun q hq => h q (List.mem_cons_of_mem _ hq)
theorem heldN_all {p : Int} : ∀ {ps : List (Int × Int)} {b : Int}, (∀ q ∈ ps, q.1 ≤ p) → heldN b ps p = ((ps.getLast?).map (·.2)).getD b
  | [], _, _ => rfl
  | [q], b, h => by
    show (if q.1 ≤ p then q.2 else b) = q.2
    rw [if_pos (h q List.mem_cons_self)]
  | q :: q' :: r, b, h => by
    show heldN (if q.1 ≤ p then q.2 else b) (q' :: r) p = _
    rw [heldN_all fun q hq => h q (List.mem_cons_of_mem _ hq), List.getLast?_cons_cons]
    cases e : (q' :: r).getLast? with
    | none => simp at e
    | some z => rfl
theorem heldN_append (b : Int) (ps qs : List (Int × Int)) (p : Int) : heldN b (ps ++ qs) p = heldN (heldN b ps p) qs p := by unfold heldN; rw [List.foldl_append]
def Cut (ps : List (Int × Int)) (p : Int) (c : Nat) : Prop := c ≤ ps.length ∧ (∀ i (h : i < ps.length), i < c → ps[i].1 ≤ p) ∧ ∀ i (h : i < ps.length), c ≤ i → p < ps[i].1
theorem held_cut {b p : Int} {ps : List (Int × Int)} {c : Nat} (h : Cut ps p c) : heldN b ps p = if c = 0 then b else (ps.getD (c - 1) (0, 0)).2 := by
  obtain ⟨h1, h2, h3⟩ := h
  have e : ps = ps.take c ++ ps.drop c := (List.take_append_drop c ps).symm
  have a1 : ∀ q ∈ ps.take c, q.1 ≤ p := fun q hq => by
    obtain ⟨i, hi, rfl⟩ := List.mem_iff_getElem.mp hq
    rw [List.length_take] at hi
    rw [List.getElem_take]
    exact h2 i (by omega) (by omega)
  have a2 : ∀ q ∈ ps.drop c, ¬ q.1 ≤ p := fun q hq => by
    obtain ⟨i, hi, rfl⟩ := List.mem_iff_getElem.mp hq
    rw [List.length_drop] at hi
    rw [List.getElem_drop]
    have := h3 (c + i) (by omega) (by omega)
    omega
  have e2 : heldN b ps p = heldN b (ps.take c ++ ps.drop c) p := congrArg (fun z => heldN b z p) e
  rw [e2, heldN_append, heldN_none a2, heldN_all a1]
  by_cases h0 : c = 0
  · subst h0
    rfl
  · rw [if_neg h0, List.getLast?_eq_getElem?, List.length_take, Nat.min_eq_left h1, List.getElem?_take, if_pos (by omega), List.getElem?_eq_getElem (by omega), List.getD_eq_getElem?_getD, List.getElem?_eq_getElem (by omega)]
    rfl
abbrev Rising (ps : List (Int × Int)) : Prop := ps.Pairwise (fun x y => x.1 < y.1)
theorem rising_lt {ps : List (Int × Int)} (h : Rising ps) {i j : Nat} (hi : i < ps.length) (hj : j < ps.length) (l : i ≤ j) : ps[i].1 ≤ ps[j].1 := by
  rcases Nat.lt_or_ge i j with k | k
  · exact Int.le_of_lt (List.pairwise_iff_getElem.mp h i j hi hj k)
  · have : i = j := by omega
    subst this
    exact Int.le_refl _
def StepsAt (K : PySem.W.Frag) (H : Hp) (qs : List V) (ps : List (Int × Int)) : Prop := qs.length = ps.length ∧ ∀ i (h : i < ps.length), ∃ c, qs[i]? = some (.ref c) ∧ SqT K H c [.int ps[i].1, .int ps[i].2]
structure RowAt (K : PySem.W.Frag) (H : Hp) (v : V) (r : Int × List (Int × Int)) : Prop where
  ex : ∃ a b qs, v = .ref a ∧ SqT K H a [.int r.1, .ref b] ∧ SqT K H b qs ∧ StepsAt K H qs r.2
theorem StepsAt.mono {K : PySem.W.Frag} {H H' : Hp} {qs : List V} {ps : List (Int × Int)} (e : Same H H') (h : StepsAt K H qs ps) : StepsAt K H' qs ps := ⟨h.1, fun i hi => by
  obtain ⟨c, e1, e2⟩ := h.2 i hi
  exact ⟨c, e1, e.sqT e2⟩⟩
theorem RowAt.mono {K : PySem.W.Frag} {H H' : Hp} {v : V} {r : Int × List (Int × Int)} (e : Same H H') (h : RowAt K H v r) : RowAt K H' v r := by
  obtain ⟨a, b, qs, e1, e2, e3, e4⟩ := h.ex
  exact ⟨a, b, qs, e1, e.sqT e2, e.sqT e3, e4.mono e⟩
def RowOk (r : Int × List (Int × Int)) : Prop := Rising r.2 ∧ r.2.length ≤ 600
def stN (base : Int) (ps : List (Int × Int)) : Int × List (Int × Int) := ps.foldl (fun st q => if q.2 = st.1 then st else (q.2, st.2 ++ [q])) (base, [])
theorem stN_snoc (base : Int) (ps : List (Int × Int)) (q : Int × Int) : stN base (ps ++ [q]) = if q.2 = (stN base ps).1 then stN base ps else (q.2, (stN base ps).2 ++ [q]) := by unfold stN; rw [List.foldl_append]; rfl
theorem stN_take {base : Int} {ps : List (Int × Int)} {i : Nat} (h : i < ps.length) : stN base (ps.take (i + 1)) = if ps[i].2 = (stN base (ps.take i)).1 then stN base (ps.take i) else (ps[i].2, (stN base (ps.take i)).2 ++ [ps[i]]) := by
  rw [List.take_succ, List.getElem?_eq_getElem h]
  exact stN_snoc _ _ _
theorem stN_len (base : Int) (ps : List (Int × Int)) : (stN base ps).2.length ≤ ps.length := by
  have key : ∀ (ps : List (Int × Int)) (st : Int × List (Int × Int)), (ps.foldl (fun st q => if q.2 = st.1 then st else (q.2, st.2 ++ [q])) st).2.length ≤ st.2.length + ps.length := by
    intro ps
    induction ps with
    | nil => intro st; exact Nat.le_refl _
    | cons q r ih =>
      intro st
      rw [List.foldl_cons]
      refine Nat.le_trans (ih _) ?_
      split
      · simp
      · simp; omega
  have := key ps (base, [])
  simpa [stN] using this
def rowD (base : Int) (ps : List (Int × Int)) : D := .tup [.int base, .tup (ps.map pD)]
theorem heldL_snoc {H : Hp} : ∀ {ds : List D} {vs : List V} {d : D} {v : V}, HeldL H ds vs → Held H d v → HeldL H (ds ++ [d]) (vs ++ [v])
  | [], vs, d, v, h, hv => by
    unfold HeldL at h
    subst h
    exact heldL_cons hv heldL_nil
  | d' :: ds, vs, d, v, h, hv => by
    unfold HeldL at h
    obtain ⟨u, r, rfl, h1, h2⟩ := h
    exact heldL_cons h1 (heldL_snoc h2 hv)
mutual
theorem held_tk {H H' : Hp} (e : ∀ b xs, H b = some (.tup xs) → H' b = some (.tup xs)) : ∀ {d : D} {v : V}, Held H d v → Held H' d v
  | .int i, v, h => by unfold Held at h ⊢; exact h
  | .str x, v, h => by unfold Held at h ⊢; exact h
  | .tup ds, v, h => by
    unfold Held at h ⊢
    obtain ⟨a, xs, e1, e2, e3⟩ := h
    exact ⟨a, xs, e1, e a _ e2, heldL_tk e e3⟩
theorem heldL_tk {H H' : Hp} (e : ∀ b xs, H b = some (.tup xs) → H' b = some (.tup xs)) : ∀ {ds : List D} {vs : List V}, HeldL H ds vs → HeldL H' ds vs
  | [], vs, h => by unfold HeldL at h ⊢; exact h
  | d :: ds, vs, h => by
    unfold HeldL at h ⊢
    obtain ⟨v, r, e1, e2, e3⟩ := h
    exact ⟨v, r, e1, held_tk e e2, heldL_tk e e3⟩
end
def TK (G G' : Hp) : Prop := ∀ b xs, G b = some (.tup xs) → G' b = some (.tup xs)
theorem TK.trans {G G1 G2 : Hp} (h : TK G G1) (h' : TK G1 G2) : TK G G2 := fun b xs e => h' b xs (h b xs e)
theorem TK.same {G G' : Hp} (h : Same G G') : TK G G' := fun b xs e => h b _ e
theorem TK.upd {G : Hp} {a : Addr} {o u : HO} (h : G a = some o) (hn : ∀ xs, o ≠ .tup xs) : TK G (L2.upd G a u) := fun b xs e => by
  rw [upd_ne (ne_of e h (fun z => hn xs z.symm))]
  exact e
theorem TK.heldL {G G' : Hp} (h : TK G G') {d : List D} {v : List V} (x : HeldL G d v) : HeldL G' d v := heldL_tk h x
theorem TK.held {G G' : Hp} (h : TK G G') {d : D} {v : V} (x : Held G d v) : Held G' d v := held_tk h x
def lastV (b : Int) (L : List (Int × Int)) : Int := ((L.getLast?).map (·.2)).getD b
theorem lastV_snoc (b : Int) (L : List (Int × Int)) (x : Int × Int) : lastV b (L ++ [x]) = x.2 := by
  unfold lastV
  rw [List.getLast?_concat]
  rfl
theorem snoc_ind {P : List (Int × Int) → Prop} (h0 : P []) (h1 : ∀ L x, P L → P (L ++ [x])) (L : List (Int × Int)) : P L := by
  have key : ∀ M : List (Int × Int), P M.reverse := by
    intro M
    induction M with
    | nil => exact h0
    | cons x r ih => rw [List.reverse_cons]; exact h1 _ _ ih
  have := key L.reverse
  rwa [List.reverse_reverse] at this
theorem st_last (b : Int) (L : List (Int × Int)) : (stN b L).1 = lastV b L := by
  refine snoc_ind (P := fun L => (stN b L).1 = lastV b L) rfl (fun L x ih => ?_) L
  rw [lastV_snoc, stN_snoc]
  split
  · next h => exact h.symm
  · rfl
theorem st_sub (b : Int) (L : List (Int × Int)) : (stN b L).2.Sublist L := by
  refine snoc_ind (P := fun L => (stN b L).2.Sublist L) (List.Sublist.refl _) (fun L x ih => ?_) L
  rw [stN_snoc]
  split
  · exact ih.trans (List.sublist_append_left _ _)
  · exact ih.append (List.Sublist.refl _)
theorem rising_init {L : List (Int × Int)} {x : Int × Int} (h : Rising (L ++ [x])) : Rising L ∧ ∀ y ∈ L, y.1 < x.1 := by
  obtain ⟨h1, _, h3⟩ := List.pairwise_append.mp h
  exact ⟨h1, fun y hy => h3 y hy x (by simp)⟩
theorem held_st (b : Int) (L : List (Int × Int)) (h : Rising L) (p : Int) : heldN b (stN b L).2 p = heldN b L p := by
  refine snoc_ind (P := fun L => Rising L → heldN b (stN b L).2 p = heldN b L p) (fun _ => rfl) (fun L x ih h => ?_) L h
  obtain ⟨h1, h2⟩ := rising_init h
  rw [stN_snoc, heldN_snoc]
  split
  · next e =>
    rw [ih h1]
    split
    · next hp =>
      rw [heldN_all fun q hq => by have := h2 q hq; omega]
      rw [st_last] at e
      exact e.symm
    · rfl
  · show heldN b ((stN b L).2 ++ [x]) p = _
    rw [heldN_snoc, ih h1]
def noRep : Int → List (Int × Int) → Prop
  | _, [] => True
  | b, q :: r => q.2 ≠ b ∧ noRep q.2 r
theorem noRep_snoc : ∀ {L : List (Int × Int)} {b : Int} {x : Int × Int}, noRep b L → x.2 ≠ lastV b L → noRep b (L ++ [x])
  | [], b, x, _, h => ⟨h, trivial⟩
  | q :: r, b, x, h, hx => by
    refine ⟨h.1, noRep_snoc h.2 ?_⟩
    intro e
    apply hx
    rw [e]
    unfold lastV
    cases r with
    | nil => rfl
    | cons q' r' =>
      rw [List.getLast?_cons_cons]
      cases e' : (q' :: r').getLast? with
      | none => simp at e'
      | some z => rfl
theorem lastV_st (b : Int) (L : List (Int × Int)) : lastV b (stN b L).2 = (stN b L).1 := by
  refine snoc_ind (P := fun L => lastV b (stN b L).2 = (stN b L).1) rfl (fun L x ih => ?_) L
  rw [stN_snoc]
  split
  · exact ih
  · exact lastV_snoc _ _ _
theorem noRep_st (b : Int) (L : List (Int × Int)) : noRep b (stN b L).2 := by
  refine snoc_ind (P := fun L => noRep b (stN b L).2) trivial (fun L x ih => ?_) L
  rw [stN_snoc]
  split
  · exact ih
  · next h =>
    refine noRep_snoc ih ?_
    rw [lastV_st]
    exact h
structure Canon (b : Int) (L : List (Int × Int)) : Prop where
  up : Rising L
  no : noRep b L
theorem canon_st (b : Int) {L : List (Int × Int)} (h : Rising L) : Canon b (stN b L).2 := ⟨h.sublist (st_sub b L), noRep_st b L⟩
theorem heldN_cons (b : Int) (q : Int × Int) (r : List (Int × Int)) (p : Int) : heldN b (q :: r) p = heldN (if q.1 ≤ p then q.2 else b) r p := rfl
theorem rising_tail {q : Int × Int} {r : List (Int × Int)} (h : Rising (q :: r)) : Rising r ∧ ∀ y ∈ r, q.1 < y.1 := ⟨(List.pairwise_cons.mp h).2, (List.pairwise_cons.mp h).1⟩
theorem canon_eq : ∀ {L M : List (Int × Int)} {b : Int}, Canon b L → Canon b M → (∀ p, heldN b L p = heldN b M p) → L = M
  | [], [], _, _, _, _ => rfl
  | [], y :: M, b, _, hM, h => by
    have e := h y.1
    rw [heldN_nil, heldN_cons, if_pos (Int.le_refl _), heldN_none fun q hq => by have := (rising_tail hM.up).2 q hq; omega] at e
    exact absurd e.symm hM.no.1
  | x :: L, [], b, hL, _, h => by
    have e := h x.1
    rw [heldN_nil, heldN_cons, if_pos (Int.le_refl _), heldN_none fun q hq => by have := (rising_tail hL.up).2 q hq; omega] at e
    exact absurd e hL.no.1
  | x :: L, y :: M, b, hL, hM, h => by
    have rL := rising_tail hL.up
    have rM := rising_tail hM.up
    have nL : ∀ {c : Int} (p : Int), p ≤ x.1 → heldN c L p = c := fun p hp => heldN_none fun q hq => by have := rL.2 q hq; omega
    have nM : ∀ {c : Int} (p : Int), p ≤ y.1 → heldN c M p = c := fun p hp => heldN_none fun q hq => by have := rM.2 q hq; omega
    rcases Int.lt_trichotomy x.1 y.1 with c | c | c
    · have e := h x.1
      rw [heldN_cons, heldN_cons, if_pos (Int.le_refl _), if_neg (by omega), nL _ (Int.le_refl _), nM _ (by omega)] at e
      exact absurd e hL.no.1
    · have e := h x.1
      rw [heldN_cons, heldN_cons, if_pos (Int.le_refl _), if_pos (by omega), nL _ (Int.le_refl _), nM _ (by omega)] at e
      have exy : x = y := Prod.ext c e
      subst exy
      have := canon_eq (L := L) (M := M) (b := x.2) ⟨rL.1, hL.no.2⟩ ⟨rM.1, hM.no.2⟩ fun p => by
        by_cases hp : x.1 ≤ p
        · have e := h p
          rw [heldN_cons, heldN_cons, if_pos hp] at e
          exact e
        · rw [nL p (by omega), nM p (by omega)]
      rw [this]
    · have e := h y.1
      rw [heldN_cons, heldN_cons, if_pos (Int.le_refl _), if_neg (by omega), nM _ (Int.le_refl _), nL _ (by omega)] at e
      exact absurd e.symm hM.no.1
theorem held_max (b : Int) (L : List (Int × Int)) (h : Rising L) (p : Int) : ((∀ y ∈ L, ¬ y.1 ≤ p) ∧ heldN b L p = b) ∨ ∃ x ∈ L, x.1 ≤ p ∧ (∀ y ∈ L, y.1 ≤ p → y.1 ≤ x.1) ∧ heldN b L p = x.2 := by
  refine snoc_ind (P := fun L => Rising L → ((∀ y ∈ L, ¬ y.1 ≤ p) ∧ heldN b L p = b) ∨ ∃ x ∈ L, x.1 ≤ p ∧ (∀ y ∈ L, y.1 ≤ p → y.1 ≤ x.1) ∧ heldN b L p = x.2) (fun _ => .inl ⟨fun y hy => (by cases hy), rfl⟩) (fun L x ih h => ?_) L h
  obtain ⟨h1, h2⟩ := rising_init h
  rw [heldN_snoc]
  by_cases hp : x.1 ≤ p
  · rw [if_pos hp]
    refine .inr ⟨x, by simp, hp, fun y hy _ => ?_, rfl⟩
    rcases List.mem_append.mp hy with hy | hy
    · have := h2 y hy; omega
    · rw [List.mem_singleton.mp hy]; exact Int.le_refl _
  · rw [if_neg hp]
    rcases ih h1 with ⟨a, e⟩ | ⟨z, hz, a1, a2, e⟩
    · refine .inl ⟨fun y hy => ?_, e⟩
      rcases List.mem_append.mp hy with hy | hy
      · exact a y hy
      · rw [List.mem_singleton.mp hy]; exact hp
    · refine .inr ⟨z, List.mem_append_left _ hz, a1, fun y hy hyp => ?_, e⟩
      rcases List.mem_append.mp hy with hy | hy
      · exact a2 y hy hyp
      · rw [List.mem_singleton.mp hy] at hyp; exact absurd hyp hp
theorem mem_rising_eq {L : List (Int × Int)} (h : Rising L) {x y : Int × Int} (hx : x ∈ L) (hy : y ∈ L) (e : x.1 = y.1) : x = y := by
  obtain ⟨i, hi, rfl⟩ := List.mem_iff_getElem.mp hx
  obtain ⟨j, hj, rfl⟩ := List.mem_iff_getElem.mp hy
  have pw := List.pairwise_iff_getElem.mp h
  rcases Nat.lt_trichotomy i j with c | c | c
  · have := pw i j hi hj c; omega
  · subst c; rfl
  · have := pw j i hj hi c; omega
theorem held_like {b : Int} {L : List (Int × Int)} (h : Rising L) {p q : Int} (hpq : p ≤ q) (no : ∀ y ∈ L, ¬ (p < y.1 ∧ y.1 ≤ q)) : heldN b L q = heldN b L p := by
  rcases held_max b L h q with ⟨a, e⟩ | ⟨z, hz, a1, a2, e⟩
  · rw [e, heldN_none fun y hy => by have := a y hy; omega]
  · rcases held_max b L h p with ⟨a, _⟩ | ⟨z', hz', b1, b2, e'⟩
    · exact absurd ⟨by have := a z hz; omega, a1⟩ (no z hz)
    · rw [e, e']
      have hzp : z.1 ≤ p := by have := no z hz; omega
      have c1 := b2 z hz hzp
      have c2 := a2 z' hz' (by omega)
      rw [mem_rising_eq h hz hz' (by omega)]
def wrN (b : Int) (ps : List (Int × Int)) (c1 c2 : Nat) (p v : Int) : List (Int × Int) := ps.take c1 ++ [(p, v), (p + 1, heldN b ps (p + 1))] ++ ps.drop c2
theorem cut_take {ps : List (Int × Int)} {p : Int} {c : Nat} (h : Cut ps p c) : (∀ y ∈ ps.take c, y.1 ≤ p) ∧ ∀ y ∈ ps.drop c, p < y.1 := by
  obtain ⟨h1, h2, h3⟩ := h
  refine ⟨fun q hq => ?_, fun q hq => ?_⟩
  · obtain ⟨i, hi, rfl⟩ := List.mem_iff_getElem.mp hq
    rw [List.length_take] at hi
    rw [List.getElem_take]
    exact h2 i (by omega) (by omega)
  · obtain ⟨i, hi, rfl⟩ := List.mem_iff_getElem.mp hq
    rw [List.length_drop] at hi
    rw [List.getElem_drop]
    exact h3 (c + i) (by omega) (by omega)
theorem wr_len {b : Int} {ps : List (Int × Int)} {c1 c2 : Nat} {p v : Int} (h1 : Cut ps (p - 1) c1) (h2 : Cut ps (p + 1) c2) : (wrN b ps c1 c2 p v).length ≤ ps.length + 2 := by
  have : c1 ≤ c2 := by
    rcases Nat.lt_or_ge c2 c1 with c | c
    · have := h1.1
      have a := h1.2.1 c2 (by omega) c
      have b := h2.2.2 c2 (by omega) (Nat.le_refl _)
      omega
    · exact c
  have := h1.1
  have := h2.1
  unfold wrN
  simp only [List.length_append, List.length_take, List.length_drop, List.length_cons, List.length_nil]
  omega
theorem wr_up {b : Int} {ps : List (Int × Int)} {c1 c2 : Nat} {p v : Int} (h : Rising ps) (h1 : Cut ps (p - 1) c1) (h2 : Cut ps (p + 1) c2) : Rising (wrN b ps c1 c2 p v) := by
  have t1 := (cut_take h1).1
  have t2 := (cut_take h2).2
  unfold wrN
  refine List.pairwise_append.mpr ⟨List.pairwise_append.mpr ⟨h.sublist (List.take_sublist _ _), ?_, fun x hx y hy => ?_⟩, h.sublist (List.drop_sublist _ _), fun x hx y hy => ?_⟩
  · refine List.pairwise_cons.mpr ⟨fun y hy => ?_, List.pairwise_singleton _ _⟩
    rw [List.mem_singleton.mp hy]
    show p < p + 1
    omega
  · have := t1 x hx
    rcases List.mem_cons.mp hy with rfl | hy
    · show x.1 < p; omega
    · rw [List.mem_singleton.mp hy]; show x.1 < p + 1; omega
  · have := t2 y hy
    rcases List.mem_append.mp hx with hx | hx
    · have := t1 x hx; omega
    · rcases List.mem_cons.mp hx with rfl | hx
      · show p < y.1; omega
      · rw [List.mem_singleton.mp hx]; show p + 1 < y.1; omega
theorem wr_held {b : Int} {ps : List (Int × Int)} {c1 c2 : Nat} {p v : Int} (h1 : Cut ps (p - 1) c1) (h2 : Cut ps (p + 1) c2) (q : Int) : heldN b (wrN b ps c1 c2 p v) q = if q = p then v else heldN b ps q := by
  have t1 := cut_take h1
  have t2 := cut_take h2
  have a1 : ∀ z, heldN b ps z = heldN (heldN b (ps.take c1) z) (ps.drop c1) z := fun z => by rw [← heldN_append, List.take_append_drop]
  have a2 : ∀ z, heldN b ps z = heldN (heldN b (ps.take c2) z) (ps.drop c2) z := fun z => by rw [← heldN_append, List.take_append_drop]
  have e : heldN b (wrN b ps c1 c2 p v) q = heldN (if p + 1 ≤ q then heldN b ps (p + 1) else if p ≤ q then v else heldN b (ps.take c1) q) (ps.drop c2) q := by
    unfold wrN
    rw [heldN_append, heldN_append]
    rfl
  rw [e]
  rcases Int.lt_trichotomy q p with c | c | c
  · rw [if_neg (by omega), if_neg (by omega), if_neg (by omega), heldN_none (fun y hy => by have := t2.2 y hy; omega), a1 q, heldN_none (ps := ps.drop c1) (fun y hy => by have := t1.2 y hy; omega)]
  · rw [if_neg (by omega), if_pos (by omega), if_pos c, heldN_none (fun y hy => by have := t2.2 y hy; omega)]
  · rw [if_pos (by omega), if_neg (by omega), a2 q, a2 (p + 1), heldN_none (p := p + 1) (ps := ps.drop c2) (fun y hy => by have := t2.2 y hy; omega), heldN_all (p := p + 1) (ps := ps.take c2) t2.1, heldN_all (p := q) (ps := ps.take c2) fun y hy => by have := t2.1 y hy; omega]
def lk (ps : List (Int × Int)) (p : Int) : Option Int := (ps.find? fun q => decide (q.1 = p)).map (·.2)
def heldP (b : Int) (ps pl : List (Int × Int)) (p : Int) : Int := (lk pl p).getD (heldN b ps p)
structure EndsOk (ps pl : List (Int × Int)) (ms : List Int) : Prop where
  up : ms.Pairwise (· < ·)
  mem : ∀ m, m ∈ ms ↔ (∃ q ∈ ps, q.1 = m) ∨ ∃ q ∈ pl, q.1 = m ∨ q.1 + 1 = m
theorem lk_none {pl : List (Int × Int)} {p : Int} (h : ∀ q ∈ pl, q.1 ≠ p) : lk pl p = none := by
  unfold lk
  rw [List.find?_eq_none.mpr fun q hq => by simpa using h q hq]
  rfl
theorem due_held {b : Int} {ps pl : List (Int × Int)} {ms : List Int} (h : Rising ps) (E : EndsOk ps pl ms) (p : Int) : heldN b (ms.map fun m => (m, heldP b ps pl m)) p = heldP b ps pl p := by
  have up : Rising (ms.map fun m => (m, heldP b ps pl m)) := by
    show List.Pairwise _ _
    rw [List.pairwise_map]
    exact E.up
  rcases held_max b _ up p with ⟨a, e⟩ | ⟨z, hz, a1, a2, e⟩
  · have no : ∀ m ∈ ms, ¬ m ≤ p := fun m hm => a (m, _) (List.mem_map.mpr ⟨m, hm, rfl⟩)
    rw [e]
    unfold heldP
    rw [lk_none fun q hq z => no p ((E.mem p).mpr (.inr ⟨q, hq, .inl z⟩)) (Int.le_refl _), heldN_none fun q hq => no q.1 ((E.mem q.1).mpr (.inl ⟨q, hq, rfl⟩))]
    rfl
  · obtain ⟨m, hm, rfl⟩ := List.mem_map.mp hz
    have most : ∀ m' ∈ ms, m' ≤ p → m' ≤ m := fun m' hm' hp => a2 (m', _) (List.mem_map.mpr ⟨m', hm', rfl⟩) hp
    have hmp : m ≤ p := a1
    rw [e]
    show heldP b ps pl m = heldP b ps pl p
    by_cases hpm : p = m
    · rw [hpm]
    · unfold heldP
      have n1 : lk pl p = none := lk_none fun q hq z => by
        have := most p ((E.mem p).mpr (.inr ⟨q, hq, .inl z⟩)) (Int.le_refl _)
        omega
      have n2 : lk pl m = none := lk_none fun q hq z => by
        have := most (m + 1) ((E.mem (m + 1)).mpr (.inr ⟨q, hq, .inr (by omega)⟩)) (by omega)
        omega
      rw [n1, n2]
      show heldN b ps m = heldN b ps p
      refine (held_like h hmp fun y hy c => ?_).symm
      have := most y.1 ((E.mem y.1).mpr (.inl ⟨y, hy, rfl⟩)) c.2
      omega
end LW
set_option Elab.async false
set_option linter.all false
set_option maxRecDepth 100000
set_option maxHeartbeats 2000000
namespace LW
open PySem L2
abbrev sStairs : Stmt := top 1
abbrev sEntry : Stmt := top 2
abbrev sWritten : Stmt := top 3
abbrev sSteps_up_to : Stmt := top 4
def spSteps (K : PySem.W.Frag) : Sp := fun vs H Q _ => ∃ (b : Addr) (p : Int) (qs : List V) (ps : List (Int × Int)), vs = [.ref b, .int p] ∧ SqT K H b qs ∧ StepsAt K H qs ps ∧ Rising ps ∧ ps.length ≤ 600 ∧ ∀ c : Nat, Cut ps p c → Q (.int c) H
def spEntry (K : PySem.W.Frag) : Sp := fun vs H Q _ => ∃ (v : V) (p : Int) (r : Int × List (Int × Int)), vs = [v, .int p] ∧ RowAt K H v r ∧ RowOk r ∧ Q (.int (heldN r.1 r.2 p)) H
def spStairs (K : PySem.W.Frag) : Sp := fun vs H Q _ => ∃ (base : Int) (p : Addr) (qs : List V) (ps : List (Int × Int)), vs = [.int base, .ref p] ∧ SqL K H p qs ∧ PairsL K H qs ps ∧ Rising ps ∧ ps.length ≤ 1000 ∧
  ∀ r H', Same H H' → Held H' (rowD base (stN base ps).2) r → Q r H'
def spWritten : Sp := fun vs H Q _ => ∃ (v : V) (p x b : Int) (ps : List (Int × Int)), vs = [v, .int p, .int x] ∧ Held H (rowD b ps) v ∧ Rising ps ∧ ps.length ≤ 400 ∧
  ∀ ps' r H', Same H H' → Canon b ps' → (∀ q, heldN b ps' q = if q = p then x else heldN b ps q) → ps'.length ≤ ps.length + 2 → Held H' (rowD b ps') r → Q r H'
theorem held_int_inv {H : Hp} {x : Int} {v : V} (h : Held H (.int x) v) : v = .int x := by unfold Held at h; exact h
theorem held_tup_inv {H : Hp} {ds : List D} {v : V} (h : Held H (.tup ds) v) : ∃ a xs, v = .ref a ∧ H a = some (.tup xs) ∧ HeldL H ds xs := by unfold Held at h; exact h
theorem heldL_nil_inv {H : Hp} {vs : List V} (h : HeldL H [] vs) : vs = [] := by unfold HeldL at h; exact h
theorem heldL_cons_inv {H : Hp} {d : D} {ds : List D} {vs : List V} (h : HeldL H (d :: ds) vs) : ∃ v r, vs = v :: r ∧ Held H d v ∧ HeldL H ds r := by unfold HeldL at h; exact h
theorem row_inv {H : Hp} {b : Int} {ps : List (Int × Int)} {v : V} (h : Held H (rowD b ps) v) : ∃ a c qs, v = .ref a ∧ H a = some (.tup [.int b, .ref c]) ∧ H c = some (.tup qs) ∧ HeldL H (ps.map pD) qs := by
  obtain ⟨a, xs, rfl, ha, h1⟩ := held_tup_inv h
  obtain ⟨v1, r1, rfl, e1, h2⟩ := heldL_cons_inv h1
  obtain ⟨v2, r2, rfl, e2, h3⟩ := heldL_cons_inv h2
  cases heldL_nil_inv h3
  cases held_int_inv e1
  obtain ⟨c, qs, rfl, hb, h4⟩ := held_tup_inv e2
  exact ⟨a, c, qs, rfl, ha, hb, h4⟩
theorem pD_inv {H : Hp} {q : Int × Int} {v : V} (h : Held H (pD q) v) : ∃ a, v = .ref a ∧ H a = some (.tup [.int q.1, .int q.2]) := by
  obtain ⟨a, xs, rfl, ha, h1⟩ := held_tup_inv h
  obtain ⟨v1, r1, rfl, e1, h2⟩ := heldL_cons_inv h1
  obtain ⟨v2, r2, rfl, e2, h3⟩ := heldL_cons_inv h2
  cases heldL_nil_inv h3
  cases held_int_inv e1
  cases held_int_inv e2
  exact ⟨a, rfl, ha⟩
theorem steps_held {K : PySem.W.Frag} {H : Hp} {ps : List (Int × Int)} {qs : List V} (hq : HeldL H (ps.map pD) qs) : StepsAt K H qs ps := by
  have hl := hq.length
  rw [List.length_map] at hl
  refine ⟨hl.symm, fun i hi => ?_⟩
  obtain ⟨v, e1, e2⟩ := hq.get (j := i) (d := pD ps[i]) (by rw [List.getElem?_map, List.getElem?_eq_getElem hi]; rfl)
  obtain ⟨c, rfl, hc⟩ := pD_inv e2
  exact ⟨c, e1, SqT.of hc⟩
theorem row_at_held {K : PySem.W.Frag} {H : Hp} {b : Int} {ps : List (Int × Int)} {v : V} (h : Held H (rowD b ps) v) : RowAt K H v (b, ps) := by
  obtain ⟨a, c, qs, rfl, ha, hb, hq⟩ := row_inv h
  exact ⟨a, c, qs, rfl, SqT.of ha, SqT.of hb, steps_held hq⟩
theorem pairs_app {K : PySem.W.Frag} {H : Hp} {qs qs' : List V} {ps ps' : List (Int × Int)} (h : PairsL K H qs ps) (h' : PairsL K H qs' ps') : PairsL K H (qs ++ qs') (ps ++ ps') := by
  refine ⟨by rw [List.length_append, List.length_append, h.1, h'.1], fun i hi => ?_⟩
  rw [List.length_append] at hi
  by_cases c : i < ps.length
  · obtain ⟨a, e1, e2⟩ := h.2 i c
    refine ⟨a, ?_, ?_⟩
    · rw [List.getElem?_append_left (by rw [h.1]; exact c)]; exact e1
    · rw [List.getElem_append_left c]; exact e2
  · obtain ⟨a, e1, e2⟩ := h'.2 (i - ps.length) (by omega)
    refine ⟨a, ?_, ?_⟩
    · rw [List.getElem?_append_right (by rw [h.1]; omega), h.1]; exact e1
    · rw [List.getElem_append_right (by omega)]; exact e2
theorem pairs_take {K : PySem.W.Frag} {H : Hp} {qs : List V} {ps : List (Int × Int)} (h : PairsL K H qs ps) (n : Nat) : PairsL K H (qs.take n) (ps.take n) := by
  refine ⟨by rw [List.length_take, List.length_take, h.1], fun i hi => ?_⟩
  rw [List.length_take] at hi
  obtain ⟨a, e1, e2⟩ := h.2 i (by omega)
  exact ⟨a, by rw [List.getElem?_take, if_pos (by omega)]; exact e1, by rw [List.getElem_take]; exact e2⟩
theorem pairs_drop {K : PySem.W.Frag} {H : Hp} {qs : List V} {ps : List (Int × Int)} (h : PairsL K H qs ps) (n : Nat) : PairsL K H (qs.drop n) (ps.drop n) := by
  refine ⟨by rw [List.length_drop, List.length_drop, h.1], fun i hi => ?_⟩
  rw [List.length_drop] at hi
  obtain ⟨a, e1, e2⟩ := h.2 (n + i) (by omega)
  exact ⟨a, by rw [List.getElem?_drop]; exact e1, by rw [List.getElem_drop]; exact e2⟩
theorem pairs_two {K : PySem.W.Frag} {H : Hp} {a b : Addr} {x y x' y' : Int} (h1 : H a = some (.tup [.int x, .int y])) (h2 : H b = some (.tup [.int x', .int y'])) : PairsL K H [.ref a, .ref b] [(x, y), (x', y')] := by
  refine ⟨rfl, fun i hi => ?_⟩
  match i, hi with
  | 0, _ => exact ⟨a, rfl, SqT.of h1⟩
  | 1, _ => exact ⟨b, rfl, SqT.of h2⟩
theorem pairs_upd {K : PySem.W.Frag} {G : Hp} {l : Addr} {ys : List V} {o : HO} {qs : List V} {ps : List (Int × Int)} (hl : G l = some (.lst ys)) (h : PairsL K G qs ps) : PairsL K (upd G l o) qs ps := ⟨h.1, fun i hi => by
  obtain ⟨c, e1, e2⟩ := h.2 i hi
  refine ⟨c, e1, ?_⟩
  rcases e2 with (e2 | ⟨u, e2⟩) | e2
  · exact .inl (.inl (by rw [upd_ne (ne_of e2 hl (by intro z; cases z))]; exact e2))
  · exact .inl (.inr ⟨u, by rw [upd_ne (ne_of e2 hl (by intro z; cases z))]; exact e2⟩)
  · exact .inr e2⟩
section
variable {P : Program} {w : World} {K : PySem.W.Frag} {mg : Str → Option Value} {base : Heap}
theorem ok_steps {f : Addr} {fd : FuncData} (F : Fun K "steps_up_to" "steps_up_to" sSteps_up_to f fd) (B : Free0 mg) : FnOk P w K mg base CX0 1 f fd ["steps", "p"] (spSteps K) := by
  have sc : FnScope ["steps", "p", "low", "high", "middle"] ["steps", "p"] (defScope sSteps_up_to) := ⟨rfl, rfl, rfl, by decide +kernel, rfl, by decide +kernel, by decide +kernel⟩
  refine F.ok sc (fun vs H Q E h => ?_) (fun cdv A outer s H vs Q E hr h => ?_)
  · obtain ⟨b, p, qs, ps, rfl, _⟩ := h
    rfl
  obtain ⟨b, p, qs, ps, rfl, hb, hq, hR, hl, q⟩ := h
  refine ⟨_, (pss_cons (ps_set (i := 2) sc.nd rfl (by first | exact Or.inl rfl | exact Or.inr rfl) pe_int)
      (pss_cons (ps_set (i := 3) sc.nd rfl (by first | exact Or.inl rfl | exact Or.inr rfl) (pe_cB call_len_seq (by rfl) B.len_ bt_len (pa_c (pv 0) pa_nil)))
      (pss_cons (ps_while PassesOwn.never (pt_cmpR op_lt (pv 2) (pv 3) (nomark _)) (pss_cons (ps_set (i := 4) sc.nd rfl (by first | exact Or.inl rfl | exact Or.inr rfl) (pe_op op_fdivB (pe_op op_add (pv 2) (pv 3)) pe_int))
      (pss_one (ps_if (pt_cmpR op_le (pe_ix ix_tup (pe_ix ix_tup (pv 0) (pv 4) (fun _ _ => rfl)) pe_int (fun _ _ => rfl)) (pv 1) (nomark _)) (pss_one (ps_set (i := 2) sc.nd rfl (by first | exact Or.inl rfl | exact Or.inr rfl) (pe_op op_add (pv 4) pe_int))) (pss_one (ps_set (i := 3) sc.nd rfl (by first | exact Or.inl rfl | exact Or.inr rfl) (pv 4)))))))
      (pss_one (ps_ret (pv 2)))))), ?_⟩
  refine ⟨_, rfl, b, _, rfl, .inr hb, ?_⟩
  have hlen := hq.1
  refine while_by (fun σ H1 => ∃ (lo hi : Nat) (v : Option V), σ = [some (.ref b), some (.int p), some (.int lo), some (.int hi), v] ∧ H1 = H ∧ lo ≤ hi ∧ hi ≤ ps.length ∧ (∀ i (h : i < ps.length), i < lo → ps[i].1 ≤ p) ∧ ∀ i (h : i < ps.length), hi ≤ i → p < ps[i].1)
    (fun σ _ => match σ with | [_, _, some (.int lo), some (.int hi), _] => (hi - lo).toNat | _ => 0) ?_ ?_ ?_
  · exact ⟨0, ps.length, none, by rw [hlen]; rfl, rfl, Nat.zero_le _, Nat.le_refl _, fun i _ h => by omega, fun i h h' => by omega⟩
  · rintro σ H1 ⟨lo, hi, v, rfl, rfl, h1, h2, h3, h4⟩
    refine ⟨_, rfl, _, rfl, _, _, rfl, rfl, _, rfl, ?_⟩
    refine ite2 (fun c => ?_) (fun c => ?_)
    · have c' : lo < hi := by
        have := of_decide_eq_true c
        omega
      have hm : (((lo : Int) + (hi : Int)) / 2) = (((lo + hi) / 2 : Nat) : Int) := by omega
      refine ⟨_, rfl, _, rfl, _, _, rfl, rfl, _, _, rfl, rfl, ⟨by decide, by decide⟩, ?_⟩
      dsimp only
      rw [hm]
      have hmid : (lo + hi) / 2 < ps.length := by omega
      generalize hg : (lo + hi) / 2 = mid at *
      obtain ⟨c1, e1, e2⟩ := hq.2 mid hmid
      refine ⟨_, rfl, _, rfl, b, _, _, _, rfl, rfl, hb, atI_nat e1, c1, _, _, _, rfl, rfl, e2, rfl, _, rfl, _, _, rfl, rfl, _, rfl, ?_⟩
      refine ite2 (fun d => ?_) (fun d => ?_)
      · have d' := of_decide_eq_true d
        refine ⟨_, rfl, _, _, rfl, rfl, ⟨mid + 1, hi, _, rfl, rfl, by omega, h2, fun i hi' hlt => ?_, h4⟩, ?_⟩
        · exact Int.le_trans (rising_lt hR hi' hmid (by omega)) d'
        · show ((hi : Int) - ((mid : Int) + 1)).toNat < ((hi : Int) - (lo : Int)).toNat
          omega
      · have d' : p < ps[mid].1 := by
          have : ¬ ps[mid].1 ≤ p := fun z => d (decide_eq_true z)
          omega
        refine ⟨_, rfl, ⟨lo, mid, _, rfl, rfl, by omega, by omega, h3, fun i hi' hlt => ?_⟩, ?_⟩
        · exact Int.lt_of_lt_of_le d' (rising_lt hR hmid hi' hlt)
        · show ((mid : Int) - (lo : Int)).toNat < ((hi : Int) - (lo : Int)).toNat
          omega
    · have c' : ¬ lo < hi := fun z => c (decide_eq_true (by omega))
      refine ⟨_, rfl, q lo ⟨by omega, h3, fun i h h' => h4 i h (by omega)⟩⟩
  · intro σ H1 Q1 Q2 hm h
    obtain ⟨v1, e1, v2, e2, i, j, e3, e4, k, e5, h⟩ := h
    exact ⟨v1, e1, v2, e2, i, j, e3, e4, k, e5, hm _ _ h⟩
theorem ok_entry {f : Addr} {fd : FuncData} (F : Fun K "entry" "entry" sEntry f fd) (F_steps_up_to : Fn P w K mg base 1 "steps_up_to" ["steps", "p"] (spSteps K)) : FnOk P w K mg base CX0 2 f fd ["row", "p"] (spEntry K) := by
  have sc : FnScope ["row", "p", "base", "steps", "count"] ["row", "p"] (defScope sEntry) := ⟨rfl, rfl, rfl, by decide +kernel, rfl, by decide +kernel, by decide +kernel⟩
  refine F.ok sc (fun vs H Q E h => ?_) (fun cdv A outer s H vs Q E hr h => ?_)
  · obtain ⟨v, p, r, rfl, _⟩ := h
    rfl
  obtain ⟨v, p, r, rfl, hv, ⟨hR, hl⟩, q⟩ := h
  obtain ⟨a, b, qs, rfl, ha, hb, hq⟩ := hv.ex
  refine ⟨_, (pss_cons (ps_asg (pv 0) (pg_tup rfl (pgs_cons (pg_name (i := 2) sc.nd rfl (by first | exact Or.inl rfl | exact Or.inr rfl)) (pgs_cons (pg_name (i := 3) sc.nd rfl (by first | exact Or.inl rfl | exact Or.inr rfl)) pgs_nil))))
      (pss_cons (ps_set (i := 4) sc.nd rfl (by first | exact Or.inl rfl | exact Or.inr rfl) (pe_fn F_steps_up_to hr (pa_c (pv 3) (pa_c (pv 1) pa_nil))))
      (pss_cons (ps_if (pt_cmpR op_eq (pv 4) pe_int (nomark _)) (pss_one (ps_ret (pv 2))) pss_nil)
      (pss_one (ps_ret (pe_ix ix_tup (pe_ix ix_tup (pv 3) (pe_op op_sub (pv 4) pe_int) (fun _ _ => rfl)) pe_int (fun _ _ => rfl))))))), ?_⟩
  refine ⟨_, rfl, a, _, rfl, ha, rfl, _, _, rfl, _, _, rfl, rfl, ?_⟩
  refine ⟨_, rfl, _, rfl, b, p, qs, r.2, rfl, hb, hq, hR, hl, fun c hc => ?_⟩
  rw [held_cut hc] at q
  refine ⟨_, rfl, rfl, _, rfl, ite2 (fun d => ?_) (fun d => ?_)⟩
  · have d' : c = 0 := by
      have := of_decide_eq_true d
      injection this with this
      omega
    rw [if_pos d'] at q
    exact ⟨_, rfl, q⟩
  · have d' : ¬ c = 0 := fun z => d (decide_eq_true (by rw [z]; rfl))
    rw [if_neg d'] at q
    have hlt : c - 1 < r.2.length := by have := hc.1; omega
    obtain ⟨c1, e1, e2⟩ := hq.2 (c - 1) hlt
    have ei : ((c : Int) - 1) = ((c - 1 : Nat) : Int) := by omega
    rw [List.getD_eq_getElem?_getD, List.getElem?_eq_getElem hlt] at q
    refine ⟨_, rfl, _, rfl, _, _, rfl, rfl, b, _, _, _, rfl, rfl, hb, (by rw [ei]; exact atI_nat e1), c1, _, _, _, rfl, rfl, e2, rfl, ?_⟩
    exact q
theorem ok_stairs {f : Addr} {fd : FuncData} (F : Fun K "stairs" "stairs" sStairs f fd) (B : Free0 mg) : FnOk P w K mg base CX0 1 f fd ["base", "pairs"] (spStairs K) := by
  have sc : FnScope ["base", "pairs", "steps", "ahead", "place", "value"] ["base", "pairs"] (defScope sStairs) := ⟨rfl, rfl, rfl, by decide +kernel, rfl, by decide +kernel, by decide +kernel⟩
  refine F.ok sc (fun vs H Q E h => ?_) (fun cdv A outer s H vs Q E hr h => ?_)
  · obtain ⟨b, p, qs, ps, rfl, _⟩ := h
    rfl
  obtain ⟨b, p, qs2, ps2, rfl, hp, hq, hR, h64, q⟩ := h
  refine ⟨_, (pss_cons (ps_set (i := 2) sc.nd rfl (by first | exact Or.inl rfl | exact Or.inr rfl) (pe_lst pa_nil))
      (pss_cons (ps_set (i := 3) sc.nd rfl (by first | exact Or.inl rfl | exact Or.inr rfl) (pv 0))
      (pss_cons (ps_for PassesOwn.never rfl (pi_list (pe_cB call_sorted_rising (by rfl) B.sorted_ bt_sorted (pa_c (pv 1) pa_nil))) (pg_tup rfl (pgs_cons (pg_name (i := 4) sc.nd rfl (by first | exact Or.inl rfl | exact Or.inr rfl)) (pgs_cons (pg_name (i := 5) sc.nd rfl (by first | exact Or.inl rfl | exact Or.inr rfl)) pgs_nil))) (pss_one (ps_if (pt_cmpR op_ne (pv 5) (pv 3) (nomark _)) (pss_cons (ps_expr (pe_bm PySem.F.plainAttrs_list PySem.F.slot_list_append PySem.F.type_list_append mt_append (pv 2) (pa_c (pe_tup (pa_c (pv 4) (pa_c (pv 5) pa_nil))) pa_nil)))
      (pss_one (ps_set (i := 3) sc.nd rfl (by first | exact Or.inl rfl | exact Or.inr rfl) (pv 5)))) pss_nil)))
      (pss_one (ps_ret (pe_tup (pa_c (pv 0) (pa_c (pe_cT call_tuple_of (by rfl) B.tuple_ bt_tuple (pa_c (pv 2) pa_nil)) pa_nil)))))))), ?_⟩
  refine ⟨sm rfl, fun l hl => ?_⟩
  have s1 := same_new hl (.lst [])
  have e1 : upd H l (.lst []) l = some (.lst []) := upd_same
  generalize upd H l (.lst []) = H1 at *
  refine ⟨_, rfl, ?_⟩
  refine ⟨_, rfl, p, qs2, ps2, rfl, s1.seq hp, hq.mono s1, hR, h64, fun l2 hl2 => ?_⟩
  have hq2 := hq.mono s1
  have s2 := same_new hl2 (.lst qs2)
  have e2 : upd H1 l2 (.lst qs2) l2 = some (.lst qs2) := upd_same
  have nll : l2 ≠ l := (ne_of_none e1 hl2).symm
  have hq3 := hq2.mono s2
  generalize upd H1 l2 (.lst qs2) = H2 at *
  have hl0 : H2 l = some (.lst []) := s2 _ _ e1
  have s12 := s1.trans s2
  have hlen := hq3.1
  refine ⟨l2, rfl, ⟨_, SqL.of e2⟩, for_list (xs := qs2) (fun i σ G => ∃ u v xs, σ = [some (.int b), some (.ref p), some (.ref l), some (.int (stN b (ps2.take i)).1), u, v] ∧ Same H G ∧ PairsL K G qs2 ps2 ∧ G l2 = some (.lst qs2) ∧ G l = some (.lst xs) ∧ HeldL G ((stN b (ps2.take i)).2.map pD) xs) ⟨none, none, [], rfl, s12, hq3, e2, hl0, heldL_nil⟩ ?_ ?_ ?_⟩
  · rintro i σ G _ ⟨u, v, xs, rfl, sG, hqG, hG2, hGl, hx⟩
    exact SqL.of hG2
  · rintro i x σ G hx ⟨u, v, xs, rfl, sG, hqG, hG2, hGl, hxs⟩
    have hi : i < ps2.length := by
      rw [← hlen]
      exact (List.getElem?_eq_some_iff.mp hx).1
    obtain ⟨c, f1, f2⟩ := hqG.2 i hi
    rw [hx] at f1
    cases f1
    have est := stN_take (base := b) hi
    have hsl : (stN b (ps2.take i)).2.length ≤ i := by
      have := stN_len b (ps2.take i)
      rw [List.length_take] at this
      omega
    generalize stN b (ps2.take i) = ST at *
    obtain ⟨ah, st⟩ := ST
    dsimp only at *
    refine ⟨c, _, rfl, f2, rfl, _, _, rfl, _, _, rfl, rfl, ?_⟩
    refine ⟨_, rfl, _, rfl, rfl, _, rfl, ?_⟩
    by_cases hva : ps2[i].2 = ah
    · rw [if_pos hva] at est
      rw [hva, decide_eq_true rfl]
      refine iteF ?_
      exact ⟨some (.int ps2[i].1), some (.int ah), xs, by rw [est, ← hva]; rfl, sG, hqG, hG2, hGl, by rw [est]; exact hxs⟩
    · rw [if_neg hva] at est
      rw [decide_eq_false (fun z => hva (by injection z))]
      refine iteT ?_
      refine ⟨_, rfl, .inl ⟨rfl, _, SqL.of hGl⟩, _, rfl, _, rfl, sm rfl, fun t ht => ?_⟩
      have s3 := same_new ht (.tup [V.int ps2[i].1, V.int ps2[i].2])
      have e3 : upd G t (.tup [V.int ps2[i].1, V.int ps2[i].2]) t = some (.tup [V.int ps2[i].1, V.int ps2[i].2]) := upd_same
      have hqG' := hqG.mono s3
      generalize upd G t (.tup [V.int ps2[i].1, V.int ps2[i].2]) = G1 at *
      have hxl := hxs.length
      rw [List.length_map] at hxl
      refine ⟨l, _, _, rfl, rfl, s3 _ _ hGl, small1000 (by omega), ?_⟩
      have tk : TK G1 (upd G1 l (.lst (xs ++ [.ref t]))) := TK.upd (s3 _ _ hGl) (by intro xs z; cases z)
      refine ⟨_, rfl, some (.int ps2[i].1), some (.int ps2[i].2), xs ++ [.ref t], by rw [est]; rfl, ?_, ?_, ?_, upd_same, ?_⟩
      · intro c o e
        rw [upd_ne (ne_of_none e hl)]
        exact s3 _ _ (sG _ _ e)
      · exact pairs_upd (s3 _ _ hGl) hqG'
      · rw [upd_ne nll]
        exact s3 _ _ hG2
      · rw [est, List.map_append]
        exact heldL_snoc (tk.heldL (hxs.mono s3)) (tk.held (held_tup e3 (heldL_cons held_int (heldL_cons held_int heldL_nil))))
  · rintro σ G ⟨u, v, xs, rfl, sG, hqG, hG2, hGl, hxs⟩
    rw [hlen, List.take_length] at hxs
    refine ⟨_, rfl, _, rfl, l, _, rfl, .inl ⟨SqL.of hGl, fun t ht => ?_⟩⟩
    have s3 := same_new ht (.tup xs)
    have e3 : upd G t (.tup xs) t = some (.tup xs) := upd_same
    generalize upd G t (.tup xs) = G1 at *
    refine ⟨sm rfl, fun r hr' => ?_⟩
    have s4 := same_new hr' (.tup [V.int b, V.ref t])
    exact q _ _ (sG.trans (s3.trans s4)) (held_tup upd_same (heldL_cons held_int (heldL_cons (held_tup (s4 _ _ e3) (hxs.mono (s3.trans s4))) heldL_nil)))
theorem ok_written {f : Addr} {fd : FuncData} (F : Fun K "written" "written" sWritten f fd) (B : Free0 mg) (F_steps_up_to : Fn P w K mg base 1 "steps_up_to" ["steps", "p"] (spSteps K)) (F_entry : Fn P w K mg base 2 "entry" ["row", "p"] (spEntry K)) (F_stairs : Fn P w K mg base 1 "stairs" ["base", "pairs"] (spStairs K)) : FnOk P w K mg base CX0 3 f fd ["row", "p", "v"] spWritten := by
  have sc : FnScope ["row", "p", "v", "base", "steps", "ahead", "behind"] ["row", "p", "v"] (defScope sWritten) := ⟨rfl, rfl, rfl, by decide +kernel, rfl, by decide +kernel, by decide +kernel⟩
  refine F.ok sc (fun vs H Q E h => ?_) (fun cdv A outer s H vs Q E hr h => ?_)
  · obtain ⟨v, p, x, b, ps, rfl, _⟩ := h
    rfl
  obtain ⟨v, p, x, b, ps, rfl, hv, hR, hl, q⟩ := h
  have hrow := row_at_held (K := K) hv
  obtain ⟨a, c, qs, rfl, ha, hc, hq⟩ := row_inv hv
  have hS := steps_held (K := K) hq
  have hql : qs.length = ps.length := hS.1
  refine ⟨_, (pss_cons (ps_asg (pv 0) (pg_tup rfl (pgs_cons (pg_name (i := 3) sc.nd rfl (by first | exact Or.inl rfl | exact Or.inr rfl)) (pgs_cons (pg_name (i := 4) sc.nd rfl (by first | exact Or.inl rfl | exact Or.inr rfl)) pgs_nil))))
      (pss_cons (ps_set (i := 5) sc.nd rfl (by first | exact Or.inl rfl | exact Or.inr rfl) (pe_cT call_list_of (by rfl) B.list_ bt_list (pa_c (pe_slice sl_tupB (pv 4) po_none (po_some (pe_fn F_steps_up_to hr (pa_c (pv 4) (pa_c (pe_op op_sub (pv 1) pe_int) pa_nil))))) pa_nil)))
      (pss_cons (ps_set (i := 6) sc.nd rfl (by first | exact Or.inl rfl | exact Or.inr rfl) (pe_cT call_list_of (by rfl) B.list_ bt_list (pa_c (pe_slice sl_tupB (pv 4) (po_some (pe_fn F_steps_up_to hr (pa_c (pv 4) (pa_c (pe_op op_add (pv 1) pe_int) pa_nil)))) po_none) pa_nil)))
      (pss_one (ps_ret (pe_fn F_stairs hr (pa_c (pv 3) (pa_c (pe_op op_add_list (pe_op op_add_list (pv 5) (pe_lst (pa_c (pe_tup (pa_c (pv 1) (pa_c (pv 2) pa_nil))) (pa_c (pe_tup (pa_c (pe_op op_add (pv 1) pe_int) (pa_c (pe_fn F_entry hr (pa_c (pv 0) (pa_c (pe_op op_add (pv 1) pe_int) pa_nil))) pa_nil))) pa_nil)))) (pv 6)) pa_nil)))))))), ?_⟩
  refine ⟨_, rfl, a, _, rfl, SqT.of ha, rfl, _, _, rfl, _, _, rfl, rfl, ?_⟩
  refine ⟨_, rfl, _, rfl, _, rfl, _, _, rfl, rfl, c, p - 1, qs, ps, rfl, SqT.of hc, hS, hR, by omega, fun c1 hc1 => ?_⟩
  refine ⟨_, rfl, c, qs, rfl, SqT.of hc, fun t1 H1 s1 ht1 => ?_⟩
  have e1 : cutV qs none (some (c1 : Int)) = qs.take c1 := by
    unfold cutV
    rw [HT.sIx_none, HT.sIx_nat, List.drop_zero, Nat.sub_zero, Nat.min_eq_left (by rw [hql]; exact hc1.1)]
  rw [e1] at ht1
  refine ⟨t1, _, rfl, .inr ht1, fun l1 hl1 => ?_⟩
  have s2 := same_new hl1 (.lst (qs.take c1))
  have e2 : upd H1 l1 (.lst (qs.take c1)) l1 = some (.lst (qs.take c1)) := upd_same
  generalize upd H1 l1 (.lst (qs.take c1)) = H2 at *
  have s02 := s1.trans s2
  refine ⟨_, rfl, _, rfl, _, rfl, _, _, rfl, rfl, c, p + 1, qs, ps, rfl, SqT.of (s02 _ _ hc), hS.mono s02, hR, by omega, fun c2 hc2 => ?_⟩
  refine ⟨_, rfl, c, qs, rfl, SqT.of (s02 _ _ hc), fun t3 H3 s3 ht3 => ?_⟩
  have e3 : cutV qs (some (c2 : Int)) none = qs.drop c2 := by
    unfold cutV
    rw [HT.sIx_none, HT.sIx_nat, Nat.min_eq_left (by rw [hql]; exact hc2.1), List.take_of_length_le (by rw [List.length_drop]; omega)]
  rw [e3] at ht3
  refine ⟨t3, _, rfl, .inr ht3, fun l4 hl4 => ?_⟩
  have s4 := same_new hl4 (.lst (qs.drop c2))
  have e4 : upd H3 l4 (.lst (qs.drop c2)) l4 = some (.lst (qs.drop c2)) := upd_same
  generalize upd H3 l4 (.lst (qs.drop c2)) = H4 at *
  have s24 := s3.trans s4
  have s04 := s02.trans s24
  refine ⟨_, rfl, _, rfl, _, rfl, _, rfl, sm rfl, fun t5 ht5 => ?_⟩
  have s5 := same_new ht5 (.tup [V.int p, V.int x])
  have e5 : upd H4 t5 (.tup [V.int p, V.int x]) t5 = some (.tup [V.int p, V.int x]) := upd_same
  generalize upd H4 t5 (.tup [V.int p, V.int x]) = H5 at *
  have s05 := s04.trans s5
  refine ⟨_, rfl, _, _, rfl, rfl, _, rfl, _, rfl, _, _, rfl, rfl, .ref a, p + 1, (b, ps), rfl, hrow.mono s05, ⟨hR, by show ps.length ≤ 600; omega⟩, ?_⟩
  refine ⟨sm rfl, fun t6 ht6 => ?_⟩
  have s6 := same_new ht6 (.tup [V.int (p + 1), V.int (heldN b ps (p + 1))])
  have e6 : upd H5 t6 (.tup [V.int (p + 1), V.int (heldN b ps (p + 1))]) t6 = some (.tup [V.int (p + 1), V.int (heldN b ps (p + 1))]) := upd_same
  generalize upd H5 t6 (.tup [V.int (p + 1), V.int (heldN b ps (p + 1))]) = H6 at *
  refine ⟨sm rfl, fun l7 hl7 => ?_⟩
  have s7 := same_new hl7 (.lst [V.ref t5, V.ref t6])
  have e7 : upd H6 l7 (.lst [V.ref t5, V.ref t6]) l7 = some (.lst [V.ref t5, V.ref t6]) := upd_same
  generalize upd H6 l7 (.lst [V.ref t5, V.ref t6]) = H7 at *
  have s47 := s5.trans (s6.trans s7)
  have s07 := s04.trans s47
  have hc1l := hc1.1
  have hc2l := hc2.1
  refine ⟨l1, l7, _, _, rfl, rfl, SqL.of (s47 _ _ (s24 _ _ e2)), SqL.of e7, small (by rw [List.length_take]; simp only [List.length_cons, List.length_nil]; omega), fun l8 hl8 => ?_⟩
  have s8 := same_new hl8 (.lst (qs.take c1 ++ [V.ref t5, V.ref t6]))
  have e8 : upd H7 l8 (.lst (qs.take c1 ++ [V.ref t5, V.ref t6])) l8 = some (.lst (qs.take c1 ++ [V.ref t5, V.ref t6])) := upd_same
  generalize upd H7 l8 (.lst (qs.take c1 ++ [V.ref t5, V.ref t6])) = H8 at *
  have s48 := s47.trans s8
  refine ⟨_, rfl, l8, l4, _, _, rfl, rfl, SqL.of e8, SqL.of (s48 _ _ e4), small (by rw [List.length_append, List.length_take, List.length_drop]; simp only [List.length_cons, List.length_nil]; omega), fun l9 hl9 => ?_⟩
  have s9 := same_new hl9 (.lst (qs.take c1 ++ [V.ref t5, V.ref t6] ++ qs.drop c2))
  have e9 : upd H8 l9 (.lst (qs.take c1 ++ [V.ref t5, V.ref t6] ++ qs.drop c2)) l9 = some (.lst (qs.take c1 ++ [V.ref t5, V.ref t6] ++ qs.drop c2)) := upd_same
  generalize upd H8 l9 (.lst (qs.take c1 ++ [V.ref t5, V.ref t6] ++ qs.drop c2)) = H9 at *
  have s79 := s8.trans s9
  have s09 := s07.trans s79
  have hup := wr_up (b := b) (v := x) hR hc1 hc2
  have hln := wr_len (b := b) (v := x) hc1 hc2
  have hP : PairsL K H9 (qs.take c1 ++ [V.ref t5, V.ref t6] ++ qs.drop c2) (wrN b ps c1 c2 p x) := pairs_app (pairs_app (pairs_take (hS.mono s09) c1) (pairs_two ((s6.trans (s7.trans s79)) _ _ e5) ((s7.trans s79) _ _ e6))) (pairs_drop (hS.mono s09) c2)
  refine ⟨b, l9, _, _, rfl, SqL.of e9, hP, hup, by omega, fun r H' sH hr' => ?_⟩
  refine q _ r H' (s09.trans sH) (canon_st b hup) (fun z => ?_) ?_ hr'
  · rw [held_st b _ hup, wr_held hc1 hc2]
  · exact Nat.le_trans (stN_len b _) hln
end
end LW
set_option Elab.async false
set_option linter.all false
set_option maxRecDepth 100000
set_option maxHeartbeats 2000000
namespace LW
open PySem L2
abbrev sFirst : Stmt := top 11
abbrev sHeld : Stmt := top 12
def stepF (w : Int) (st : Int × Int × Int × List (Int × Int)) : Int × Int × Int × List (Int × Int) :=
  let a := drawN w st.1 2
  let b := drawN w a.2 (if a.1 = 0 then 3 else 10 ^ 16)
  let c := numN w b.2
  let pl := st.2.1 + 1 + b.1
  let v := if c.1 = st.2.2.1 then c.1 - 1 else c.1
  (c.2, pl, v, st.2.2.2 ++ [(pl, v)])
def goF (w : Int) (st : Int × Int × Int × List (Int × Int)) : Nat → Int × Int × Int × List (Int × Int)
  | 0 => st
  | i + 1 => stepF w (goF w st i)
def firstN (ns : List Int) : Int × List (Int × Int) :=
  let w := (dealN ns 0).1
  let a := numN w (dealN ns 0).2
  let b := numN w a.2
  let c := drawN w b.2 8
  let e := drawN w c.2 (if c.1 / 7 = 0 then 7 else 41)
  (a.1, (goF w (e.2, b.1 / 2, a.1, []) e.1.toNat).2.2.2)
theorem go_ok (w n pl b : Int) : ∀ i : Nat, Canon b (goF w (n, pl, b, []) i).2.2.2 ∧ (∀ q ∈ (goF w (n, pl, b, []) i).2.2.2, q.1 ≤ (goF w (n, pl, b, []) i).2.1) ∧ lastV b (goF w (n, pl, b, []) i).2.2.2 = (goF w (n, pl, b, []) i).2.2.1 ∧ (goF w (n, pl, b, []) i).2.2.2.length = i
  | 0 => ⟨⟨List.Pairwise.nil, trivial⟩, fun q h => (by cases h), rfl, rfl⟩
  | i + 1 => by
    obtain ⟨h1, h2, h3, h4⟩ := go_ok w n pl b i
    show Canon b (stepF w (goF w (n, pl, b, []) i)).2.2.2 ∧ (∀ q ∈ (stepF w (goF w (n, pl, b, []) i)).2.2.2, q.1 ≤ (stepF w (goF w (n, pl, b, []) i)).2.1) ∧ lastV b (stepF w (goF w (n, pl, b, []) i)).2.2.2 = (stepF w (goF w (n, pl, b, []) i)).2.2.1 ∧ (stepF w (goF w (n, pl, b, []) i)).2.2.2.length = i + 1
    generalize goF w (n, pl, b, []) i = st at *
    unfold stepF
    dsimp only
    have d0 := drawN_lo w (drawN w st.1 2).2 (m := if (drawN w st.1 2).1 = 0 then 3 else 10 ^ 16) (by split <;> decide)
    generalize (drawN w (drawN w st.1 2).2 (if (drawN w st.1 2).1 = 0 then 3 else 10 ^ 16)) = dd at *
    generalize (numN w dd.2).1 = c at *
    have hv : (if c = st.2.2.1 then c - 1 else c) ≠ st.2.2.1 := by
      split
      · omega
      · next h => exact h
    generalize (if c = st.2.2.1 then c - 1 else c) = v at *
    refine ⟨⟨List.pairwise_append.mpr ⟨h1.up, List.pairwise_singleton _ _, fun x hx y hy => ?_⟩, noRep_snoc h1.no (by rw [h3]; exact hv)⟩, fun q hq => ?_, lastV_snoc _ _ _, by rw [List.length_append, h4]; rfl⟩
    · rw [List.mem_singleton.mp hy]
      have := h2 x hx
      show x.1 < st.2.1 + 1 + dd.1
      omega
    · rcases List.mem_append.mp hq with hq | hq
      · have := h2 q hq
        omega
      · rw [List.mem_singleton.mp hq]
        exact Int.le_refl _
theorem first_ok (ns : List Int) : Canon (firstN ns).1 (firstN ns).2 ∧ (firstN ns).2.length ≤ 40 := by
  unfold firstN
  dsimp only
  generalize (dealN ns 0).1 = w
  generalize numN w (dealN ns 0).2 = a
  generalize numN w a.2 = b
  have h1 := drawN_hi w (drawN w b.2 8).2 (m := if (drawN w b.2 8).1 / 7 = 0 then 7 else 41) (by split <;> decide)
  have h0 := drawN_lo w (drawN w b.2 8).2 (m := if (drawN w b.2 8).1 / 7 = 0 then 7 else 41) (by split <;> decide)
  generalize drawN w (drawN w b.2 8).2 (if (drawN w b.2 8).1 / 7 = 0 then 7 else 41) = e at *
  have g := go_ok w e.2 (b.1 / 2) a.1 e.1.toNat
  refine ⟨g.1, ?_⟩
  rw [g.2.2.2]
  split at h1 <;> omega
theorem two_at {x y : V} {i : Int} (h0 : 0 ≤ i) (h1 : i < 2) : atI [x, y] i = some (if i = 0 then x else y) := by
  have : i = 0 ∨ i = 1 := by omega
  rcases this with rfl | rfl
  · rfl
  · rfl
structure RS (H : Hp) (a l : Addr) (w k : Int) (R : List (Int × Int)) (G : Hp) : Prop where
  same : Same H G
  deal : G a = some (.lst [.int w, .int k])
  runs : ∃ qs, G l = some (.lst qs) ∧ HeldL G (R.map pD) qs
theorem RS.draw {H : Hp} {a l : Addr} {w k : Int} {R : List (Int × Int)} {G : Hp} (S : RS H a l w k R G) (na : H a = none) (hla : l ≠ a) (k' : Int) : RS H a l w k' R (upd G a (.lst [.int w, .int k'])) := by
  obtain ⟨qs, h1, h2⟩ := S.runs
  exact ⟨fun b o e => by rw [upd_ne (ne_of_none e na)]; exact S.same _ _ e, upd_same, qs, by rw [upd_ne hla]; exact h1, (TK.upd S.deal (by intro xs z; cases z)).heldL h2⟩
theorem RS.new {H : Hp} {a l : Addr} {w k : Int} {R : List (Int × Int)} {G : Hp} (S : RS H a l w k R G) {r : Addr} (hr : G r = none) (o : HO) : RS H a l w k R (upd G r o) := by
  obtain ⟨qs, h1, h2⟩ := S.runs
  have s := same_new hr o
  exact ⟨S.same.trans s, s _ _ S.deal, qs, s _ _ h1, h2.mono s⟩
def spFirst (K : PySem.W.Frag) : Sp := fun vs H Q _ => ∃ (sa : Addr) (ns : List Int), vs = [.ref sa] ∧ SqL K H sa (ns.map V.int) ∧ ns.length ≤ 63 ∧ ∀ r H', Same H H' → Held H' (rowD (firstN ns).1 (firstN ns).2) r → Q r H'
def spHeld (K : PySem.W.Frag) : Sp := fun vs H Q _ => ∃ (v : V) (m : Addr) (p b : Int) (ps pl : List (Int × Int)), vs = [v, .ref m, .int p] ∧ Held H (rowD b ps) v ∧ H m = some (.dK (pKV pl)) ∧ Q (.int (heldP b ps pl p)) H
theorem lk_kv (pl : List (Int × Int)) (p : Int) : valV (pKV pl) (Sum.inl p) = (lk pl p).map V.int := by
  unfold valV lk pKV
  rw [List.find?_map, Option.map_map, Option.map_map]
  congr 1
  congr 1
  funext q
  show decide ((Sum.inl q.1 : Key) = Sum.inl p) = _
  rw [decide_eq_decide]
  exact ⟨fun h => Sum.inl.inj h, fun h => by rw [h]⟩
section
variable {P : Program} {w : World} {K : PySem.W.Frag} {mg : Str → Option Value} {base : Heap}
theorem ok_first {f : Addr} {fd : FuncData} (F : Fun K "_law_first" "_law_first" sFirst f fd) (B : Free0 mg) (F_deal : Fn P w K mg base 1 "_law_deal" ["_law_script", "_law_k"] (spDeal K)) (F_draw : Fn P w K mg base 1 "_law_draw" ["_law_deal_here", "_law_many_here"] spDraw) (F_number : Fn P w K mg base 2 "_law_number" ["_law_deal_here"] spNumber) : FnOk P w K mg base CX0 3 f fd ["_law_script"] (spFirst K) := by
  have sc : FnScope ["_law_script", "_law_deal_here", "_law_base", "_law_steps", "_law_place_here", "_law_here", "_law_k", "_law_value"] ["_law_script"] (defScope sFirst) := ⟨rfl, rfl, rfl, by decide +kernel, rfl, by decide +kernel, by decide +kernel⟩
  refine F.ok sc (fun vs H Q E h => ?_) (fun cdv A outer s H vs Q E hr h => ?_)
  · obtain ⟨sa, ns, rfl, _⟩ := h
    rfl
  obtain ⟨sa, ns, rfl, hS, h63, q⟩ := h
  have hu := hu_of hr
  refine ⟨_, (pss_cons (ps_set (i := 1) sc.nd rfl (by first | exact Or.inl rfl | exact Or.inr rfl) (pe_fn F_deal hr (pa_c (pv 0) (pa_c pe_int pa_nil))))
      (pss_cons (ps_set (i := 2) sc.nd rfl (by first | exact Or.inl rfl | exact Or.inr rfl) (pe_fn F_number hr (pa_c (pv 1) pa_nil)))
      (pss_cons (ps_set (i := 3) sc.nd rfl (by first | exact Or.inl rfl | exact Or.inr rfl) (pe_lst pa_nil))
      (pss_cons (ps_set (i := 4) sc.nd rfl (by first | exact Or.inl rfl | exact Or.inr rfl) (pe_op op_fdivB (pe_fn F_number hr (pa_c (pv 1) pa_nil)) pe_int))
      (pss_cons (ps_set (i := 5) sc.nd rfl (by first | exact Or.inl rfl | exact Or.inr rfl) (pv 2))
      (pss_cons (ps_for PassesOwn.never rfl (pi_range1 (by rfl) B.range_ (pa_c (pe_fn F_draw hr (pa_c (pv 1) (pa_c (pe_ix ix_list (pe_lst (pa_c pe_int (pa_c pe_int pa_nil))) (pe_op op_fdivB (pe_fn F_draw hr (pa_c (pv 1) (pa_c pe_int pa_nil))) pe_int) (fun _ _ => rfl)) pa_nil))) pa_nil)) (pg_name (i := 6) sc.nd rfl (by first | exact Or.inl rfl | exact Or.inr rfl)) (pss_cons (ps_set (i := 4) sc.nd rfl (by first | exact Or.inl rfl | exact Or.inr rfl) (pe_op op_add (pe_op op_add (pv 4) pe_int) (pe_fn F_draw hr (pa_c (pv 1) (pa_c (pe_ix ix_list (pe_lst (pa_c pe_int (pa_c (pe_op op_pow pe_int pe_int) pa_nil))) (pe_fn F_draw hr (pa_c (pv 1) (pa_c pe_int pa_nil))) (fun _ _ => rfl)) pa_nil)))))
      (pss_cons (ps_set (i := 7) sc.nd rfl (by first | exact Or.inl rfl | exact Or.inr rfl) (pe_fn F_number hr (pa_c (pv 1) pa_nil)))
      (pss_cons (ps_if (pt_cmpR op_eq (pv 7) (pv 5) (nomark _)) (pss_one (ps_set (i := 7) sc.nd rfl (by first | exact Or.inl rfl | exact Or.inr rfl) (pe_op op_sub (pv 7) pe_int))) pss_nil)
      (pss_cons (ps_set (i := 5) sc.nd rfl (by first | exact Or.inl rfl | exact Or.inr rfl) (pv 7))
      (pss_one (ps_expr (pe_bm PySem.F.plainAttrs_list PySem.F.slot_list_append PySem.F.type_list_append mt_append (pv 3) (pa_c (pe_tup (pa_c (pv 4) (pa_c (pv 5) pa_nil))) pa_nil)))))))))
      (pss_one (ps_ret (pe_tup (pa_c (pv 2) (pa_c (pe_cT call_tuple_of (by rfl) B.tuple_ bt_tuple (pa_c (pv 3) pa_nil)) pa_nil))))))))))), ?_⟩
  refine ⟨_, rfl, sa, ns, 0, rfl, hS, h63, by decide, by decide, fun a H1 na s1 ha => ?_⟩
  unfold firstN at q
  dsimp only at q
  generalize dealN ns 0 = dl at *
  obtain ⟨w, k0⟩ := dl
  dsimp only at *
  refine ⟨_, rfl, a, w, k0, rfl, ha, ?_⟩
  have ha2 : upd H1 a (.lst [.int w, .int (numN w k0).2]) a = some (.lst [.int w, .int (numN w k0).2]) := upd_same
  have sH2 : Same H (upd H1 a (.lst [.int w, .int (numN w k0).2])) := fun b o e => by rw [upd_ne (ne_of_none e na)]; exact s1 _ _ e
  generalize upd H1 a (.lst [.int w, .int (numN w k0).2]) = H2 at *
  generalize numN w k0 = A1 at *
  obtain ⟨bn, k1⟩ := A1
  dsimp only at *
  refine ⟨sm rfl, fun l hl => ?_⟩
  have hla : l ≠ a := (ne_of_none ha2 hl).symm
  have nl : H l = none := sH2.free hl
  have S3 : RS H a l w k1 [] (upd H2 l (.lst [])) := ⟨sH2.trans (same_new hl _), same_new hl _ _ _ ha2, [], upd_same, heldL_nil⟩
  generalize upd H2 l (.lst []) = H3 at *
  refine ⟨_, rfl, a, w, k1, rfl, S3.deal, _, _, rfl, rfl, ⟨by decide, by decide⟩, ?_⟩
  have S4 := S3.draw na hla (numN w k1).2
  generalize upd H3 a (.lst [.int w, .int (numN w k1).2]) = H4 at *
  generalize numN w k1 = A2 at *
  obtain ⟨pl, k2⟩ := A2
  dsimp only at *
  refine ⟨_, rfl, ?_⟩
  refine ⟨_, rfl, sm rfl, fun l5 hl5 => ?_⟩
  have S5 := S4.new hl5 (.lst [V.int 7, V.int 41])
  have f5 : upd H4 l5 (.lst [V.int 7, V.int 41]) l5 = some (.lst [V.int 7, V.int 41]) := upd_same
  have n5 : l5 ≠ a := (ne_of_none S4.deal hl5).symm
  generalize upd H4 l5 (.lst [V.int 7, V.int 41]) = H5 at *
  have d80 := drawN_lo w k2 (m := 8) (by decide)
  have d81 := drawN_hi w k2 (m := 8) (by decide)
  have hM : atI [V.int 7, V.int 41] ((drawN w k2 8).1 / 7) = some (.int (if (drawN w k2 8).1 / 7 = 0 then 7 else 41)) := by
    rw [two_at (by omega) (by omega)]
    split <;> rfl
  refine ⟨_, rfl, a, w, k2, 8, rfl, S5.deal, by decide, by decide, _, _, rfl, rfl, ⟨by decide, by decide⟩, l5, _, _, _, rfl, rfl, SqL.of (by rw [upd_ne n5]; exact f5), hM, ?_⟩
  have S6 := S5.draw na hla (drawN w k2 8).2
  generalize upd H5 a (.lst [.int w, .int (drawN w k2 8).2]) = H6 at *
  clear hM
  have hM0 : (0 : Int) < (if (drawN w k2 8).1 / 7 = 0 then 7 else 41) := by split <;> decide
  have hM1 : (if (drawN w k2 8).1 / 7 = 0 then 7 else 41 : Int) ≤ 41 := by split <;> decide
  generalize (if (drawN w k2 8).1 / 7 = 0 then 7 else 41 : Int) = M at *
  generalize (drawN w k2 8).2 = k3 at *
  refine ⟨a, w, k3, M, rfl, S6.deal, hM0, (by have : (2 : Int) ^ 200 > 1000 := (by decide); omega), ?_⟩
  have S7 := S6.draw na hla (drawN w k3 M).2
  have e0 := drawN_lo w k3 (m := M) hM0
  have e1 := drawN_hi w k3 (m := M) hM0
  generalize upd H6 a (.lst [.int w, .int (drawN w k3 M).2]) = H7 at *
  generalize drawN w k3 M = DM at *
  obtain ⟨cnt, k4⟩ := DM
  dsimp only at S7 e0 e1 q
  have hlen := fun i => (go_ok w k4 (pl / 2) bn i).2.2.2
  refine ⟨cnt, rfl, by omega, by omega, ?_⟩
  refine for_range (n := cnt.toNat) (fun i σ G => ∃ (u1 u2 : Option V), σ = [some (.ref sa), some (.ref a), some (.int bn), some (.ref l), some (.int (goF w (k4, pl / 2, bn, []) i).2.1), some (.int (goF w (k4, pl / 2, bn, []) i).2.2.1), u1, u2] ∧
    RS H a l w (goF w (k4, pl / 2, bn, []) i).1 (goF w (k4, pl / 2, bn, []) i).2.2.2 G) ?_ ?_ ?_
  · exact ⟨none, none, rfl, S7⟩
  · rintro i σ G hi ⟨u1, u2, rfl, S⟩
    have hli := hlen i
    have est : goF w (k4, pl / 2, bn, []) (i + 1) = stepF w (goF w (k4, pl / 2, bn, []) i) := rfl
    rw [est]
    generalize goF w (k4, pl / 2, bn, []) i = st at *
    obtain ⟨k, place, here, R⟩ := st
    dsimp only at *
    unfold stepF
    dsimp only
    refine ⟨_, rfl, _, _, rfl, rfl, _, rfl, _, _, rfl, rfl, ⟨by decide, by decide, by decide⟩, sm rfl, fun l1 hl1 => ?_⟩
    have S1 := S.new hl1 (.lst [V.int 3, V.int (10 ^ Int.toNat 16)])
    have f1 : upd G l1 (.lst [V.int 3, V.int (10 ^ Int.toNat 16)]) l1 = some (.lst [V.int 3, V.int (10 ^ Int.toNat 16)]) := upd_same
    have n1 : l1 ≠ a := (ne_of_none S.deal hl1).symm
    generalize upd G l1 (.lst [V.int 3, V.int (10 ^ Int.toNat 16)]) = G1 at *
    have d0 := drawN_lo w k (m := 2) (by decide)
    have d1 := drawN_hi w k (m := 2) (by decide)
    have hN : atI [V.int 3, V.int (10 ^ Int.toNat 16)] (drawN w k 2).1 = some (.int (if (drawN w k 2).1 = 0 then 3 else 10 ^ 16)) := by
      rw [two_at d0 d1]
      split <;> rfl
    refine ⟨_, rfl, a, w, k, 2, rfl, S1.deal, by decide, by decide, l1, _, _, _, rfl, rfl, SqL.of (by rw [upd_ne n1]; exact f1), hN, ?_⟩
    have S2 := S1.draw na hla (drawN w k 2).2
    generalize upd G1 a (.lst [.int w, .int (drawN w k 2).2]) = G2 at *
    clear hN
    have hN0 : (0 : Int) < (if (drawN w k 2).1 = 0 then 3 else 10 ^ 16) := by split <;> decide
    have hN1 : (if (drawN w k 2).1 = 0 then 3 else 10 ^ 16 : Int) < 2 ^ 200 := by split <;> decide
    generalize (if (drawN w k 2).1 = 0 then 3 else 10 ^ 16 : Int) = N at *
    generalize (drawN w k 2).2 = ka at *
    refine ⟨a, w, ka, N, rfl, S2.deal, hN0, hN1, _, _, rfl, rfl, ?_⟩
    have S3' := S2.draw na hla (drawN w ka N).2
    generalize upd G2 a (.lst [.int w, .int (drawN w ka N).2]) = G3 at *
    dsimp only
    generalize drawN w ka N = DN at *
    obtain ⟨gap, kb⟩ := DN
    dsimp only at *
    generalize place + 1 + gap = pn at *
    refine ⟨_, rfl, a, w, kb, rfl, S3'.deal, ?_⟩
    have S4' := S3'.draw na hla (numN w kb).2
    generalize upd G3 a (.lst [.int w, .int (numN w kb).2]) = G4 at *
    generalize numN w kb = NV at *
    obtain ⟨val, kc⟩ := NV
    dsimp only at *
    refine ⟨_, rfl, _, rfl, rfl, _, rfl, ?_⟩
    refine ite2 (fun c => ?ga) (fun c => ?gb)
    case' ga =>
      have c' : val = here := by
        have := of_decide_eq_true c
        injection this
      rw [if_pos c']
      refine ⟨_, rfl, _, _, rfl, rfl, ?_⟩
      dsimp only
      generalize val - 1 = vn at *
    case' gb =>
      have c' : ¬ val = here := fun e => c (decide_eq_true (congrArg V.int e))
      rw [if_neg c']
      clear c c'
      generalize val = vn at *
    all_goals
      refine ⟨_, rfl, ?_⟩
      obtain ⟨qs, hq1, hq2⟩ := S4'.runs
      have hql := hq2.length
      rw [List.length_map, hli] at hql
      refine ⟨_, rfl, .inl ⟨rfl, _, SqL.of hq1⟩, _, rfl, _, rfl, sm rfl, fun t2 ht2 => ?_⟩
      have s5 := same_new ht2 (.tup [V.int pn, V.int vn])
      have g5 : upd G4 t2 (.tup [V.int pn, V.int vn]) t2 = some (.tup [V.int pn, V.int vn]) := upd_same
      generalize upd G4 t2 (.tup [V.int pn, V.int vn]) = G5 at *
      have hq15 := s5 _ _ hq1
      refine ⟨l, _, _, rfl, rfl, hq15, small1000 (by omega), ?_⟩
      have tk6 : TK G5 (upd G5 l (.lst (qs ++ [.ref t2]))) := TK.upd hq15 (by intro xs z; cases z)
      refine ⟨_, _, rfl, fun b o e => ?_, ?_, _, upd_same, ?_⟩
      · rw [upd_ne (ne_of_none e nl)]
        exact s5 _ _ (S4'.same b o e)
      · rw [upd_ne hla.symm]
        exact s5 _ _ S4'.deal
      · rw [List.map_append]
        exact heldL_snoc (tk6.heldL (hq2.mono s5)) (tk6.held (held_tup g5 (heldL_cons held_int (heldL_cons held_int heldL_nil))))
  · rintro σ G ⟨u1, u2, rfl, S⟩
    obtain ⟨qs, hq1, hq2⟩ := S.runs
    refine ⟨_, rfl, _, rfl, l, _, rfl, .inl ⟨SqL.of hq1, fun t ht => ?_⟩⟩
    have s3 := same_new ht (.tup qs)
    have e3 : upd G t (.tup qs) t = some (.tup qs) := upd_same
    generalize upd G t (.tup qs) = G1 at *
    refine ⟨sm rfl, fun r hr' => ?_⟩
    have s4 := same_new hr' (.tup [V.int bn, V.ref t])
    exact q _ _ (S.same.trans (s3.trans s4)) (held_tup upd_same (heldL_cons held_int (heldL_cons (held_tup (s4 _ _ e3) (hq2.mono (s3.trans s4))) heldL_nil)))
theorem ok_held {f : Addr} {fd : FuncData} (F : Fun K "_law_held" "_law_held" sHeld f fd) : FnOk P w K mg base CX0 1 f fd ["_law_row", "_law_places", "_law_p"] (spHeld K) := by
  have sc : FnScope ["_law_row", "_law_places", "_law_p", "_law_found", "_law_place_here", "_law_value"] ["_law_row", "_law_places", "_law_p"] (defScope sHeld) := ⟨rfl, rfl, rfl, by decide +kernel, rfl, by decide +kernel, by decide +kernel⟩
  refine F.ok sc (fun vs H Q E h => ?_) (fun cdv A outer s H vs Q E hr h => ?_)
  · obtain ⟨v, m, p, b, ps, pl, rfl, _⟩ := h
    rfl
  obtain ⟨v, m, p, b, ps, pl, rfl, hv, hm, q⟩ := h
  have hu := hu_of hr
  obtain ⟨a, cc, qs, rfl, ha, hb, hqq⟩ := row_inv hv
  have hq := steps_held (K := K) hqq
  refine ⟨_, (pss_cons (ps_if (pt_cmp (pc_din hu (pv 2) (pv 1))) (pss_one (ps_ret (pe_dget hu (pv 1) (pv 2) (fun _ _ => rfl)))) pss_nil)
      (pss_cons (ps_set (i := 3) sc.nd rfl (by first | exact Or.inl rfl | exact Or.inr rfl) (pe_ix ix_tup (pv 0) pe_int (fun _ _ => rfl)))
      (pss_cons (ps_for PassesOwn.never rfl (pi_tup (pe_ix ix_tup (pv 0) pe_int (fun _ _ => rfl))) (pg_tup rfl (pgs_cons (pg_name (i := 4) sc.nd rfl (by first | exact Or.inl rfl | exact Or.inr rfl)) (pgs_cons (pg_name (i := 5) sc.nd rfl (by first | exact Or.inl rfl | exact Or.inr rfl)) pgs_nil))) (pss_one (ps_if (pt_cmpR op_le (pv 4) (pv 2) (nomark _)) (pss_one (ps_set (i := 3) sc.nd rfl (by first | exact Or.inl rfl | exact Or.inr rfl) (pv 5))) pss_nil)))
      (pss_one (ps_ret (pv 3)))))), ?_⟩
  have g := DGet.k (k := Sum.inl p) hm
  rw [lk_kv] at g
  refine ⟨_, rfl, _, rfl, m, _, rfl, g, _, rfl, ?_⟩
  unfold heldP at q
  cases e : lk pl p with
  | some x =>
    rw [e] at g q
    refine iteT ?_
    exact ⟨_, rfl, _, rfl, m, _, rfl, g, q⟩
  | none =>
    rw [e] at q
    refine iteF ?_
    refine ⟨_, rfl, a, _, _, _, rfl, rfl, SqT.of ha, rfl, ?_⟩
    refine ⟨_, rfl, a, _, _, _, rfl, rfl, SqT.of ha, rfl, cc, rfl, ⟨_, SqT.of hb⟩, ?_⟩
    have hlen := hq.1
    refine for_tup (xs := qs) (fun i σ G => ∃ u v, σ = [some (.ref a), some (.ref m), some (.int p), some (.int (heldN b (ps.take i) p)), u, v] ∧ G = H) ⟨none, none, rfl, rfl⟩ ?_ ?_ ?_
    · rintro i σ G _ ⟨u, v, rfl, rfl⟩
      exact SqT.of hb
    · rintro i x σ G hx ⟨u, v, rfl, rfl⟩
      have hi : i < ps.length := by
        rw [← hlen]
        exact (List.getElem?_eq_some_iff.mp hx).1
      obtain ⟨c, e1, e2⟩ := hq.2 i hi
      rw [hx] at e1
      cases e1
      have es : heldN b (ps.take (i + 1)) p = if ps[i].1 ≤ p then ps[i].2 else heldN b (ps.take i) p := by
        rw [List.take_succ, List.getElem?_eq_getElem hi]
        exact heldN_snoc _ _ _ _
      refine ⟨c, _, rfl, e2, rfl, _, _, rfl, _, _, rfl, rfl, ?_⟩
      refine ⟨_, rfl, _, rfl, _, _, rfl, rfl, _, rfl, ite2 (fun d => ?_) (fun d => ?_)⟩
      · have d' := of_decide_eq_true d
        rw [if_pos d'] at es
        exact ⟨_, rfl, some (.int ps[i].1), some (.int ps[i].2), by rw [es]; rfl, rfl⟩
      · have d' : ¬ ps[i].1 ≤ p := fun z => d (decide_eq_true z)
        rw [if_neg d'] at es
        exact ⟨some (.int ps[i].1), some (.int ps[i].2), by rw [es]; rfl, rfl⟩
    · rintro σ G ⟨u, v, rfl, rfl⟩
      rw [hlen, List.take_length]
      exact ⟨_, rfl, q⟩
end
end LW
set_option Elab.async false
set_option linter.all false
set_option maxRecDepth 100000
set_option maxHeartbeats 2000000
namespace LW
open PySem L2
abbrev sPlace : Stmt := top 14
abbrev sDue : Stmt := top 13
def spPlace : Sp := fun vs H Q _ => ∃ (a : Addr) (v : V) (la w k b : Int) (ps : List (Int × Int)), vs = [.ref a, v, .int la] ∧ H a = some (.lst [.int w, .int k]) ∧ Held H (rowD b ps) v ∧ ps.length ≤ 600 ∧
  ∀ (x k' : Int) (H' : Hp), Keep a H H' → H' a = some (.lst [.int w, .int k']) → Q (.int x) H'
def spDue : Sp := fun vs H Q _ => ∃ (v : V) (m : Addr) (b : Int) (ps pl : List (Int × Int)), vs = [v, .ref m] ∧ Held H (rowD b ps) v ∧ H m = some (.dK (pKV pl)) ∧ ps.length ≤ 40 ∧ pl.length ≤ 63 ∧
  ∀ ms r H', EndsOk ps pl ms → Same H H' → Held H' (rowD b (stN b (ms.map fun x => (x, heldP b ps pl x))).2) r → Q r H'
theorem kv_nth {pl : List (Int × Int)} {i : Nat} {k : Key} {v : V} (h : (pKV pl)[i]? = some (k, v)) : ∃ hi : i < pl.length, k = Sum.inl pl[i].1 ∧ v = .int pl[i].2 := by
  unfold pKV at h
  rw [List.getElem?_map] at h
  have hi : i < pl.length := by
    by_cases hi : i < pl.length
    · exact hi
    · rw [List.getElem?_eq_none (by omega)] at h
      cases h
  rw [List.getElem?_eq_getElem hi] at h
  cases h
  exact ⟨hi, rfl, rfl⟩
def endsN (ps pl : List (Int × Int)) : List Int := ps.map (·.1) ++ pl.flatMap fun q => [q.1, q.1 + 1]
theorem ends_len (ps pl : List (Int × Int)) : (endsN ps pl).length = ps.length + 2 * pl.length := by
  unfold endsN
  rw [List.length_append, List.length_map]
  congr 1
  induction pl with
  | nil => rfl
  | cons q r ih => rw [List.flatMap_cons, List.length_append, ih, List.length_cons]; simp only [List.length_cons, List.length_nil]; omega
theorem ends_take {ps pl : List (Int × Int)} {i : Nat} (h : i < pl.length) : endsN ps (pl.take (i + 1)) = endsN ps (pl.take i) ++ [pl[i].1, pl[i].1 + 1] := by
  unfold endsN
  rw [List.take_succ, List.getElem?_eq_getElem h, List.flatMap_append, List.append_assoc]
  simp
theorem ends_ok {ps pl : List (Int × Int)} {ms : List Int} (hp : ms.Perm (dedup (endsN ps pl))) (hs : ms.Pairwise (· ≤ ·)) : EndsOk ps pl ms := by
  obtain ⟨d1, d2, d3⟩ := dedup_ok (endsN ps pl)
  have nd : ms.Nodup := hp.nodup_iff.mpr d1
  refine ⟨?_, fun m => ?_⟩
  · have := hs.and nd
    exact this.imp fun h => by have h1 := h.1; have h2 : _ ≠ _ := h.2; omega
  · rw [hp.mem_iff, d3]
    unfold endsN
    rw [List.mem_append, List.mem_map, List.mem_flatMap]
    refine or_congr ⟨fun ⟨q, h1, h2⟩ => ⟨q, h1, h2⟩, fun ⟨q, h1, h2⟩ => ⟨q, h1, h2⟩⟩ ⟨fun ⟨q, h1, h2⟩ => ⟨q, h1, ?_⟩, fun ⟨q, h1, h2⟩ => ⟨q, h1, ?_⟩⟩
    · rcases List.mem_cons.mp h2 with h | h
      · exact .inl h.symm
      · exact .inr (List.mem_singleton.mp h).symm
    · rcases h2 with h | h
      · rw [← h]; exact List.mem_cons_self
      · rw [← h]; exact List.mem_cons_of_mem _ (List.mem_singleton.mpr rfl)
section
variable {P : Program} {w : World} {K : PySem.W.Frag} {mg : Str → Option Value} {base : Heap}
theorem ok_place {f : Addr} {fd : FuncData} (F : Fun K "_law_place" "_law_place" sPlace f fd) (B : Free0 mg) (F_draw : Fn P w K mg base 1 "_law_draw" ["_law_deal_here", "_law_many_here"] spDraw) (F_number : Fn P w K mg base 2 "_law_number" ["_law_deal_here"] spNumber) : FnOk P w K mg base CX0 3 f fd ["_law_deal_here", "_law_row", "_law_last"] spPlace := by
  have sc : FnScope ["_law_deal_here", "_law_row", "_law_last", "_law_near", "_law_p"] ["_law_deal_here", "_law_row", "_law_last"] (defScope sPlace) := ⟨rfl, rfl, rfl, by decide +kernel, rfl, by decide +kernel, by decide +kernel⟩
  refine F.ok sc (fun vs H Q E h => ?_) (fun cdv A outer s H vs Q E hr h => ?_)
  · obtain ⟨a, v, la, w, k, b, ps, rfl, _⟩ := h
    rfl
  obtain ⟨a, v, la, w, k, b, ps, rfl, ha, hv, hl, q⟩ := h
  have hu := hu_of hr
  obtain ⟨ar, c, qs, rfl, har, hc, hqq⟩ := row_inv hv
  have hq := steps_held (K := K) hqq
  have hlen := hq.1
  refine ⟨_, (pss_cons (ps_set (i := 3) sc.nd rfl (by first | exact Or.inl rfl | exact Or.inr rfl) (pe_op op_add_list (pe_lst (pa_c (pv 2) pa_nil)) (pe_comp ["_law_step"] [] rfl (comp_ok (sc := defScope sPlace) (N := ["_law_deal_here", "_law_row", "_law_last", "_law_near", "_law_p"]) rfl rfl (by decide +kernel)) (pi_tup (pe_ix ix_tup (pv 1) pe_int (fun _ _ => rfl))) (fun s H ex => ⟨(pg_name (i := 0) (show List.Nodup (["_law_step"] : List Str) by decide +kernel) rfl (by first | exact Or.inl rfl | exact Or.inr rfl)), pts_nil, (pe_ix (ix_tupK (K := K)) (pv 0) pe_int (fun _ _ => rfl))⟩))))
      (pss_cons (ps_if (pt_cmpR op_eq (pe_fn F_draw hr (pa_c (pv 0) (pa_c pe_int pa_nil))) pe_int (nomark _)) (pss_one (ps_ret (pe_fn F_number hr (pa_c (pv 0) pa_nil)))) pss_nil)
      (pss_cons (ps_set (i := 4) sc.nd rfl (by first | exact Or.inl rfl | exact Or.inr rfl) (pe_op op_sub (pe_op op_add (pe_ix ix_list (pv 3) (pe_fn F_draw hr (pa_c (pv 0) (pa_c (pe_cB call_len_seq (by rfl) B.len_ bt_len (pa_c (pv 3) pa_nil)) pa_nil))) (fun _ _ => rfl)) (pe_fn F_draw hr (pa_c (pv 0) (pa_c pe_int pa_nil)))) pe_int))
      (pss_one (ps_ret (pe_cB (call_min2 rfl) (by rfl) B.min_ bt_min (pa_c (pe_cB (call_max2 rfl) (by rfl) B.max_ bt_max (pa_c (pv 4) (pa_c (pe_op op_sub pe_int (pe_op op_pow pe_int pe_int)) pa_nil))) (pa_c (pe_op op_sub (pe_op op_pow pe_int pe_int) pe_int) pa_nil)))))))), ?_⟩
  refine ⟨_, rfl, sm rfl, fun l1 hl1 => ?_⟩
  have s1 := same_new hl1 (.lst [V.int la])
  have e1 : upd H l1 (.lst [V.int la]) l1 = some (.lst [V.int la]) := upd_same
  generalize upd H l1 (.lst [V.int la]) = H1 at *
  refine ⟨_, rfl, ar, _, _, _, rfl, rfl, SqT.of (s1 _ _ har), rfl, c, rfl, ⟨_, SqT.of (s1 _ _ hc)⟩, fun p hp => ?_⟩
  have s2 := same_new hp (.lst [])
  refine comp_tup (xs := qs) (fun i σ' G' => ∃ u3, σ' = [u3] ∧ Same H1 G' ∧ G' p = some (.lst ((ps.take i).map fun q => V.int q.1))) ⟨none, rfl, s2, upd_same⟩ ?_ ?_ ?_
  · rintro i σ' G' _ ⟨u3, rfl, sG', _⟩
    exact SqT.of (sG' _ _ (s1 _ _ hc))
  · rintro i x σ' G' hx ⟨u3, rfl, sG', hGp⟩
    have hi : i < ps.length := by
      rw [← hlen]
      exact (List.getElem?_eq_some_iff.mp hx).1
    obtain ⟨c', f1, f2⟩ := hq.2 i hi
    rw [hx] at f1
    cases f1
    unfold gName tYes
    refine iteT ?_
    refine ⟨_, rfl, c', _, _, _, rfl, rfl, (s1.trans sG').sqT f2, rfl, ?_⟩
    refine ⟨_, hGp, ?_, _, rfl, ?_, ?_⟩
    · rw [List.length_map, List.length_take]
      exact small1000 (by omega)
    · intro z o e
      rw [upd_ne (ne_of_none e hp)]
      exact sG' _ _ e
    · rw [upd_same, List.take_succ, List.getElem?_eq_getElem hi, List.map_append]
      rfl
  · rintro σ' G' ⟨u3, rfl, sG', hGp⟩
    rw [hlen, List.take_length] at hGp
    refine ⟨l1, p, _, _, rfl, rfl, SqL.of (sG' _ _ e1), SqL.of hGp, small (by rw [List.length_map]; simp only [List.length_cons, List.length_nil]; omega), fun l2 hl2 => ?_⟩
    have s3 := same_new hl2 (.lst ([V.int la] ++ ps.map fun q => V.int q.1))
    have e3 : upd G' l2 (.lst ([V.int la] ++ ps.map fun q => V.int q.1)) l2 = some (.lst ((la :: ps.map (·.1)).map V.int)) := by rw [upd_same, List.map_cons, List.map_map]; rfl
    have n2 : l2 ≠ a := (ne_of_none (sG' _ _ (s1 _ _ ha)) hl2).symm
    generalize upd G' l2 (.lst ([V.int la] ++ ps.map fun q => V.int q.1)) = G2 at *
    have s03 := s1.trans (sG'.trans s3)
    have ha3 := s03 _ _ ha
    have hll : ((la :: ps.map (·.1)).map V.int).length = ps.length + 1 := by rw [List.length_map, List.length_cons, List.length_map]
    have hl2' : (la :: ps.map (·.1)).length = ps.length + 1 := by rw [List.length_cons, List.length_map]
    generalize la :: ps.map (·.1) = nr at *
    clear hGp e1 sG' s2
    refine ⟨_, rfl, a, w, k, 4, rfl, ha3, by decide, by decide, rfl, _, rfl, ?_⟩
    have k4 := Keep.upd a G2 (.lst [.int w, .int (drawN w k 4).2])
    have ha4 : upd G2 a (.lst [.int w, .int (drawN w k 4).2]) a = some (.lst [.int w, .int (drawN w k 4).2]) := upd_same
    have e4 := k4 _ _ n2 e3
    have K4 := (Keep.same s03).trans k4
    generalize upd G2 a (.lst [.int w, .int (drawN w k 4).2]) = G4 at *
    have kk : ∃ z, z = (drawN w k 4).2 := ⟨_, rfl⟩
    obtain ⟨ka, eka⟩ := kk
    rw [← eka] at ha4
    clear eka
    refine ite2 (fun c => ?_) (fun c => ?_)
    · refine ⟨_, rfl, a, w, ka, rfl, ha4, ?_⟩
      exact q _ _ _ (K4.trans (Keep.upd a _ _)) upd_same
    · have m0 : (0 : Int) < ((((nr.map V.int).length : Nat)) : Int) := by omega
      have m1 : ((((nr.map V.int).length : Nat)) : Int) < 2 ^ 200 := by
        have : (2 : Int) ^ 200 > 1000 := (by decide)
        omega
      have d0 := drawN_lo w ka (m := (((nr.map V.int).length : Nat) : Int)) m0
      have d1 := drawN_hi w ka (m := (((nr.map V.int).length : Nat) : Int)) m0
      have hat := at_map (ns := nr) (k := (drawN w ka (((nr.map V.int).length : Nat) : Int)).1) d0 (by rw [hll] at d1; rw [hl2', ← hll, hll]; exact d1)
      have k5 := Keep.upd a G4 (.lst [.int w, .int (drawN w ka (((nr.map V.int).length : Nat) : Int)).2])
      refine ⟨_, rfl, _, rfl, _, rfl, l2, _, rfl, .inl (SqL.of e4), a, w, ka, _, rfl, ha4, m0, m1, l2, _, _, _, rfl, rfl, SqL.of (k5 _ _ n2 e4), hat, ?_⟩
      refine ⟨_, rfl, a, w, _, 5, rfl, upd_same, by decide, by decide, _, _, rfl, rfl, _, _, rfl, rfl, ?_⟩
      refine ⟨_, rfl, _, _, rfl, rfl, ⟨by decide, by decide, by decide⟩, _, _, rfl, rfl, _, _, rfl, _, _, rfl, rfl, ⟨by decide, by decide, by decide⟩, _, _, rfl, rfl, _, _, rfl, ?_⟩
      exact q _ _ _ ((K4.trans k5).trans (Keep.upd a _ _)) upd_same
theorem ok_due {f : Addr} {fd : FuncData} (F : Fun K "_law_due" "_law_due" sDue f fd) (B : Free0 mg) (F_held : Fn P w K mg base 1 "_law_held" ["_law_row", "_law_places", "_law_p"] (spHeld K)) : FnOk P w K mg base CX0 2 f fd ["_law_row", "_law_places"] spDue := by
  have sc : FnScope ["_law_row", "_law_places", "_law_ends", "_law_p", "_law_steps", "_law_here", "_law_value"] ["_law_row", "_law_places"] (defScope sDue) := ⟨rfl, rfl, rfl, by decide +kernel, rfl, by decide +kernel, by decide +kernel⟩
  refine F.ok sc (fun vs H Q E h => ?_) (fun cdv A outer s H vs Q E hr h => ?_)
  · obtain ⟨v, m, b, ps, pl, rfl, _⟩ := h
    rfl
  obtain ⟨v, m, b, ps, pl, rfl, hv, hm, hl, hpl, q⟩ := h
  have hu := hu_of hr
  obtain ⟨ar, c, qs, rfl, har, hc, hqq⟩ := row_inv hv
  have hq := steps_held (K := K) hqq
  have hlen := hq.1
  refine ⟨_, (pss_cons (ps_setcomp (i := 2) sc.nd rfl (by first | exact Or.inl rfl | exact Or.inr rfl) ["_law_step"] [] rfl (comp_ok (sc := defScope sDue) (N := ["_law_row", "_law_places", "_law_ends", "_law_p", "_law_steps", "_law_here", "_law_value"]) rfl rfl (by decide +kernel)) (pi_tup (pe_ix ix_tup (pv 0) pe_int (fun _ _ => rfl))) (fun s H ex => ⟨(pg_name (i := 0) (show List.Nodup (["_law_step"] : List Str) by decide +kernel) rfl (by first | exact Or.inl rfl | exact Or.inr rfl)), pts_nil, (pe_ix (ix_tupK (K := K)) (pv 0) pe_int (fun _ _ => rfl))⟩))
      (pss_cons (ps_thaw (ps_for PassesOwn.never rfl (pi_dict (pv 1)) (pg_name (i := 3) sc.nd rfl (by first | exact Or.inl rfl | exact Or.inr rfl)) (pss_one (ps_set (i := 2) sc.nd rfl (by first | exact Or.inl rfl | exact Or.inr rfl) (pe_op op_add_list (pv 2) (pe_lst (pa_c (pv 3) (pa_c (pe_op op_add (pv 3) pe_int) pa_nil))))))))
      (pss_cons (ps_set (i := 4) sc.nd rfl (by first | exact Or.inl rfl | exact Or.inr rfl) (pe_lst pa_nil))
      (pss_cons (ps_set (i := 5) sc.nd rfl (by first | exact Or.inl rfl | exact Or.inr rfl) (pe_ix ix_tup (pv 0) pe_int (fun _ _ => rfl)))
      (pss_cons (ps_for PassesOwn.never rfl (pi_list (pe_cB (call_sorted_setM (P := P) (w := w) rfl) (by rfl) B.sorted_ bt_sorted (pa_c (pe_cT (call_set_intsP (P := P) (w := w) rfl) (by rfl) B.set_ bt_set (pa_c (pv 2) pa_nil)) pa_nil))) (pg_name (i := 3) sc.nd rfl (by first | exact Or.inl rfl | exact Or.inr rfl)) (pss_cons (ps_set (i := 6) sc.nd rfl (by first | exact Or.inl rfl | exact Or.inr rfl) (pe_fn F_held hr (pa_c (pv 0) (pa_c (pv 1) (pa_c (pv 3) pa_nil)))))
      (pss_cons (ps_if (pt_cmpR op_ne (pv 6) (pv 5) (nomark _)) (pss_one (ps_expr (pe_bm PySem.F.plainAttrs_list PySem.F.slot_list_append PySem.F.type_list_append mt_append (pv 4) (pa_c (pe_tup (pa_c (pv 3) (pa_c (pv 6) pa_nil))) pa_nil)))) pss_nil)
      (pss_one (ps_set (i := 5) sc.nd rfl (by first | exact Or.inl rfl | exact Or.inr rfl) (pv 6))))))
      (pss_one (ps_ret (pe_tup (pa_c (pe_ix ix_tup (pv 0) pe_int (fun _ _ => rfl)) (pa_c (pe_cT call_tuple_of (by rfl) B.tuple_ bt_tuple (pa_c (pv 4) pa_nil)) pa_nil)))))))))), ?_⟩
  refine ⟨_, rfl, ar, _, _, _, rfl, rfl, SqT.of har, rfl, c, rfl, ⟨_, SqT.of hc⟩, fun p hp => ?_⟩
  have s2 := same_new hp (.lst [])
  refine comp_tup (xs := qs) (fun i σ' G' => ∃ u3, σ' = [u3] ∧ Same H G' ∧ G' p = some (.lst ((ps.take i).map fun q => V.int q.1))) ⟨none, rfl, s2, upd_same⟩ ?_ ?_ ?_
  · rintro i σ' G' _ ⟨u3, rfl, sG', _⟩
    exact SqT.of (sG' _ _ hc)
  · rintro i x σ' G' hx ⟨u3, rfl, sG', hGp⟩
    have hi : i < ps.length := by
      rw [← hlen]
      exact (List.getElem?_eq_some_iff.mp hx).1
    obtain ⟨c', f1, f2⟩ := hq.2 i hi
    rw [hx] at f1
    cases f1
    unfold gName tYes
    refine iteT ?_
    refine ⟨_, rfl, c', _, _, _, rfl, rfl, sG'.sqT f2, rfl, ?_⟩
    refine ⟨_, hGp, ?_, _, rfl, ?_, ?_⟩
    · rw [List.length_map, List.length_take]
      exact small1000 (by omega)
    · intro z o e
      rw [upd_ne (ne_of_none e hp)]
      exact sG' _ _ e
    · rw [upd_same, List.take_succ, List.getElem?_eq_getElem hi, List.map_append]
      rfl
  rintro σ' H1 ⟨u3, rfl, s1, hGp⟩
  rw [hlen, List.take_length] at hGp
  have e1 : H1 p = some (.lst ((endsN ps (pl.take 0)).map V.int)) := by
    rw [hGp]
    unfold endsN
    rw [List.take_zero, List.flatMap_nil, List.append_nil, List.map_map]
    rfl
  have npm : p ≠ m := (ne_of_none hm hp).symm
  clear hGp s2 hp
  have hm1 := s1 _ _ hm
  refine ⟨_, rfl, m, _, rfl, hm1, fun o => ?_⟩
  have hmf : upd H1 m (.frz o (.dK (pKV pl))) m = some (.frz o (.dK (pKV pl))) := upd_same
  have k0 : Keep m H (upd H1 m (.frz o (.dK (pKV pl)))) := fun z u hz e => by rw [upd_ne hz]; exact s1 _ _ e
  have e2 : upd H1 m (.frz o (.dK (pKV pl))) p = some (.lst ((endsN ps (pl.take 0)).map V.int)) := by rw [upd_ne npm]; exact e1
  generalize upd H1 m (.frz o (.dK (pKV pl))) = H2 at *
  have hkl : (pKV pl).length = pl.length := by unfold pKV; rw [List.length_map]
  refine for_dict (fun i σ G => ∃ l x3, σ = [some (.ref ar), some (.ref m), some (.ref l), x3, none, none, none] ∧ G m = some (.frz o (.dK (pKV pl))) ∧ Keep m H G ∧ G l = some (.lst ((endsN ps (pl.take i)).map V.int))) ⟨p, none, rfl, hmf, k0, e2⟩ ?_ ?_ ?_
  · rintro i σ G _ ⟨l, x3, rfl, hGm, kG, hGl⟩
    exact hGm
  · rintro i k v σ G hkv ⟨l, x3, rfl, hGm, kG, hGl⟩
    obtain ⟨hi, rfl, rfl⟩ := kv_nth hkv
    unfold gName
    refine ⟨_, rfl, _, rfl, _, rfl, _, _, rfl, rfl, sm rfl, fun l1 hl1 => ?_⟩
    dsimp only [kV]
    have t1 := same_new hl1 (.lst [V.int pl[i].1, V.int (pl[i].1 + 1)])
    have f1 : upd G l1 (.lst [V.int pl[i].1, V.int (pl[i].1 + 1)]) l1 = some (.lst [V.int pl[i].1, V.int (pl[i].1 + 1)]) := upd_same
    generalize upd G l1 (.lst [V.int pl[i].1, V.int (pl[i].1 + 1)]) = G1 at *
    refine ⟨l, l1, _, _, rfl, rfl, SqL.of (t1 _ _ hGl), SqL.of f1, small (by rw [List.length_map, ends_len, List.length_take]; simp only [List.length_cons, List.length_nil]; omega), fun l2 hl2 => ?_⟩
    have t2 := same_new hl2 (.lst ((endsN ps (pl.take i)).map V.int ++ [V.int pl[i].1, V.int (pl[i].1 + 1)]))
    refine ⟨l2, _, rfl, t2 _ _ (t1 _ _ hGm), kG.trans (Keep.same (t1.trans t2)), ?_⟩
    rw [upd_same, ends_take hi, List.map_append]
    rfl
  rintro σ G ⟨l, x3, rfl, hGm, kG, hGl⟩
  rw [hkl, List.take_length] at hGl
  refine ⟨m, o, _, hGm, (fun o z e => by have e' : H m = some (.frz o z) := e; rw [hm] at e'; cases e'), ?_⟩
  have s3 : Same H (upd G m (.dK (pKV pl))) := fun z u e => by
    by_cases hz : z = m
    · subst hz
      rw [upd_same, ← hm, e]
    · rw [upd_ne hz]
      exact kG _ _ hz e
  have e3 : upd G m (.dK (pKV pl)) l = some (.lst ((endsN ps pl).map V.int)) := by rw [upd_ne (ne_of hGl hGm (by intro z; cases z))]; exact hGl
  generalize upd G m (.dK (pKV pl)) = H3 at *
  clear hGm kG hGl hmf k0 e2 e1 npm hm1 s1
  refine ⟨sm rfl, fun ls hls => ?_⟩
  have t4 := same_new hls (.lst [])
  have e4 : upd H3 ls (.lst []) ls = some (.lst []) := upd_same
  generalize upd H3 ls (.lst []) = H4 at *
  have s4 := s3.trans t4
  refine ⟨_, rfl, ar, _, _, _, rfl, rfl, SqT.of (s4 _ _ har), rfl, ?_⟩
  have hel : (endsN ps pl).length ≤ 1000 := by rw [ends_len]; omega
  refine ⟨_, rfl, l, _, rfl, SqL.of (t4 _ _ e3), hel, fun v hvs => ?_⟩
  obtain ⟨d1, d2, d3⟩ := dedup_ok (endsN ps pl)
  refine ⟨v, _, rfl, upd_same, by omega, fun l5 ms hl5 hperm hsort => ?_⟩
  have t5 := (same_new hvs (setP P w v (dedup (endsN ps pl)))).trans (same_new hl5 (.lst (ms.map V.int)))
  have e5 : upd (upd H4 v (setP P w v (dedup (endsN ps pl)))) l5 (.lst (ms.map V.int)) l5 = some (.lst (ms.map V.int)) := upd_same
  have n5 : l5 ≠ ls := (ne_of_none ((same_new hvs (setP P w v (dedup (endsN ps pl)))) _ _ e4) hl5).symm
  generalize upd (upd H4 v (setP P w v (dedup (endsN ps pl)))) l5 (.lst (ms.map V.int)) = H5 at *
  have s5 := s4.trans t5
  have e45 := t5 _ _ e4
  have E := ends_ok hperm hsort
  have hml : ms.length ≤ 1000 := by rw [hperm.length_eq]; omega
  have hls0 : H ls = none := s3.free hls
  refine ⟨l5, rfl, ⟨_, SqL.of e5⟩, for_list (xs := ms.map V.int) (fun i σ G => ∃ x3 x6 xs, σ = [some (.ref ar), some (.ref m), some (.ref l), x3, some (.ref ls), some (.int (stN b ((ms.take i).map fun x => (x, heldP b ps pl x))).1), x6] ∧ Same H G ∧ G l5 = some (.lst (ms.map V.int)) ∧ G ls = some (.lst xs) ∧ HeldL G ((stN b ((ms.take i).map fun x => (x, heldP b ps pl x))).2.map pD) xs) ⟨x3, none, [], rfl, s5, e5, e45, heldL_nil⟩ ?_ ?_ ?_⟩
  · rintro i σ G _ ⟨x3, x6, xs, rfl, sG, hG5, hGs, hx⟩
    exact SqL.of hG5
  · rintro i x σ G hx ⟨x3, x6, xs, rfl, sG, hG5, hGs, hxs⟩
    have hi : i < ms.length := by
      have := (List.getElem?_eq_some_iff.mp hx).1
      rw [List.length_map] at this
      exact this
    rw [List.getElem?_map, List.getElem?_eq_getElem hi] at hx
    cases hx
    have est : stN b ((ms.take (i + 1)).map fun x => (x, heldP b ps pl x)) = if heldP b ps pl ms[i] = (stN b ((ms.take i).map fun x => (x, heldP b ps pl x))).1 then stN b ((ms.take i).map fun x => (x, heldP b ps pl x)) else (heldP b ps pl ms[i], (stN b ((ms.take i).map fun x => (x, heldP b ps pl x))).2 ++ [(ms[i], heldP b ps pl ms[i])]) := by
      rw [List.take_succ, List.getElem?_eq_getElem hi, List.map_append]
      exact stN_snoc _ _ _
    have hsl : (stN b ((ms.take i).map fun x => (x, heldP b ps pl x))).2.length ≤ i := by
      have := stN_len b ((ms.take i).map fun x => (x, heldP b ps pl x))
      rw [List.length_map, List.length_take] at this
      omega
    rw [est]
    generalize stN b ((ms.take i).map fun x => (x, heldP b ps pl x)) = ST at *
    obtain ⟨ah, st⟩ := ST
    dsimp only at hsl hxs est
    unfold gName
    refine ⟨_, rfl, _, rfl, _, rfl, .ref ar, m, ms[i], b, ps, pl, rfl, hv.mono sG, sG _ _ hm, ?_⟩
    generalize heldP b ps pl ms[i] = hp at *
    generalize ms[i] = mi at *
    refine ⟨_, rfl, _, rfl, rfl, _, rfl, ?_⟩
    by_cases hva : hp = ah
    · rw [hva, decide_eq_true rfl]
      refine iteF ?_
      refine ⟨_, rfl, some (.int mi), some (.int ah), xs, ?_, sG, hG5, hGs, ?_⟩
      · rw [if_pos rfl]; rfl
      · rw [if_pos rfl]; exact hxs
    · rw [decide_eq_false (fun z => hva (by injection z))]
      refine iteT ?_
      refine ⟨_, rfl, .inl ⟨rfl, _, SqL.of hGs⟩, _, rfl, _, rfl, sm rfl, fun t ht => ?_⟩
      have u3 := same_new ht (.tup [V.int mi, V.int hp])
      have g3 : upd G t (.tup [V.int mi, V.int hp]) t = some (.tup [V.int mi, V.int hp]) := upd_same
      generalize upd G t (.tup [V.int mi, V.int hp]) = G1 at *
      have hxl := hxs.length
      rw [List.length_map] at hxl
      refine ⟨ls, _, _, rfl, rfl, u3 _ _ hGs, small1000 (by omega), ?_⟩
      have tk : TK G1 (upd G1 ls (.lst (xs ++ [.ref t]))) := TK.upd (u3 _ _ hGs) (by intro xs z; cases z)
      refine ⟨_, rfl, some (.int mi), some (.int hp), xs ++ [.ref t], ?_, ?_, ?_, upd_same, ?_⟩
      · rw [if_neg hva]; rfl
      · intro c o e
        rw [upd_ne (ne_of_none e hls0)]
        exact u3 _ _ (sG _ _ e)
      · rw [upd_ne n5]
        exact u3 _ _ hG5
      · rw [if_neg hva, List.map_append]
        exact heldL_snoc (tk.heldL (hxs.mono u3)) (tk.held (held_tup g3 (heldL_cons held_int (heldL_cons held_int heldL_nil))))
  · rintro σ G ⟨x3, x6, xs, rfl, sG, hG5, hGs, hxs⟩
    rw [List.length_map, List.take_length] at hxs
    refine ⟨_, rfl, ar, _, _, _, rfl, rfl, SqT.of (sG _ _ har), rfl, _, rfl, ls, _, rfl, .inl ⟨SqL.of hGs, fun t ht => ?_⟩⟩
    have u3 := same_new ht (.tup xs)
    have g3 : upd G t (.tup xs) t = some (.tup xs) := upd_same
    generalize upd G t (.tup xs) = G1 at *
    refine ⟨sm rfl, fun r hr' => ?_⟩
    have u4 := same_new hr' (.tup [V.int b, V.ref t])
    exact q ms _ _ E (sG.trans (u3.trans u4)) (held_tup upd_same (heldL_cons held_int (heldL_cons (held_tup (u4 _ _ g3) (hxs.mono (u3.trans u4))) heldL_nil)))
end
end LW
set_option Elab.async false
set_option linter.all false
set_option maxRecDepth 100000
set_option maxHeartbeats 2000000
namespace LW
open PySem L2
abbrev sLaw : Stmt := top 15
def putP (ps : List (Int × Int)) (p v : Int) : List (Int × Int) := if (ps.any fun q => decide (q.1 = p)) = true then ps.map (fun q => if q.1 = p then (q.1, v) else q) else ps ++ [(p, v)]
theorem putP_kv (ps : List (Int × Int)) (p v : Int) : putK (pKV ps) (Sum.inl p) (.int v) = pKV (putP ps p v) := by
  unfold putK putP pKV
  have e : ((ps.map fun q => ((Sum.inl q.1 : Key), V.int q.2)).any fun kv => decide (kv.1 = (Sum.inl p : Key))) = ps.any fun q => decide (q.1 = p) := by
    rw [List.any_map]
    congr 1
    funext q
    show decide ((Sum.inl q.1 : Key) = Sum.inl p) = _
    rw [decide_eq_decide]
    exact ⟨fun h => Sum.inl.inj h, fun h => by rw [h]⟩
  rw [e]
  split
  · rw [List.map_map, List.map_map]
    apply List.map_congr_left
    intro q _
    show (if (Sum.inl q.1 : Key) = Sum.inl p then ((Sum.inl q.1 : Key), V.int v) else ((Sum.inl q.1 : Key), V.int q.2)) = ((Sum.inl (if q.1 = p then (q.1, v) else q).1 : Key), V.int (if q.1 = p then (q.1, v) else q).2)
    by_cases h : q.1 = p
    · rw [if_pos (by rw [h]), if_pos h]
    · rw [if_neg (fun z => h (Sum.inl.inj z)), if_neg h]
  · rw [List.map_append]
    rfl
theorem putP_len (ps : List (Int × Int)) (p v : Int) : (putP ps p v).length ≤ ps.length + 1 := by
  unfold putP
  split
  · rw [List.length_map]; omega
  · rw [List.length_append]; simp
theorem fits_pD (q : Int × Int) : Fits 2 (pD q) := ⟨by show 2 ≤ 1000; decide, fun d hd => by
  rcases List.mem_cons.mp hd with rfl | hd
  · exact True.intro
  rcases List.mem_cons.mp hd with rfl | hd
  · exact True.intro
  · exact absurd hd (by simp)⟩
theorem fits_row {base : Int} {ps : List (Int × Int)} (h : ps.length ≤ 1000) : Fits 4 (rowD base ps) := ⟨by show 2 ≤ 1000; decide, fun d hd => by
  rcases List.mem_cons.mp hd with rfl | hd
  · exact True.intro
  rcases List.mem_cons.mp hd with rfl | hd
  · refine ⟨by rw [List.length_map]; exact h, fun d hd => ?_⟩
    obtain ⟨q, _, rfl⟩ := List.mem_map.mp hd
    exact fits_pD q
  · exact absurd hd (by simp)⟩
theorem lk_put (pl : List (Int × Int)) (p v q : Int) : lk (putP pl p v) q = if q = p then some v else lk pl q := by
  have fnd : ∀ L : List (Int × Int), (∃ z ∈ L, z.1 = p) → lk (L.map fun z => if z.1 = p then (z.1, v) else z) q = if q = p then some v else lk L q := by
    intro L
    induction L with
    | nil => rintro ⟨z, hz, _⟩; cases hz
    | cons z r ih =>
      intro hz
      unfold lk at ih ⊢
      rw [List.map_cons, List.find?_cons, List.find?_cons]
      by_cases h1 : z.1 = p
      · rw [if_pos h1]
        by_cases h2 : q = p
        · rw [if_pos h2]
          have e : decide (z.1 = q) = true := decide_eq_true (by rw [h1, h2])
          dsimp only
          rw [e]
          rfl
        · rw [if_neg h2]
          have e : decide (z.1 = q) = false := decide_eq_false (by rw [h1]; exact fun t => h2 t.symm)
          dsimp only
          rw [e]
          dsimp only
          by_cases h3 : ∃ z ∈ r, z.1 = p
          · have := ih h3
            rw [if_neg h2] at this
            exact this
          · have em : (r.map fun z => if z.1 = p then (z.1, v) else z) = r := by
              conv => rhs; rw [← List.map_id r]
              apply List.map_congr_left
              intro y hy
              rw [if_neg fun t => h3 ⟨y, hy, t⟩]
              rfl
            rw [em]
      · rw [if_neg h1]
        have h3 : ∃ z ∈ r, z.1 = p := by
          obtain ⟨y, hy, e⟩ := hz
          rcases List.mem_cons.mp hy with rfl | hy
          · exact absurd e h1
          · exact ⟨y, hy, e⟩
        by_cases h4 : z.1 = q
        · have e : decide (z.1 = q) = true := decide_eq_true h4
          rw [e]
          dsimp only
          rw [if_neg (fun t => h1 (by rw [h4, t]))]
        · have e : decide (z.1 = q) = false := decide_eq_false h4
          rw [e]
          exact ih h3
  unfold putP
  split
  · next h =>
    obtain ⟨z, hz, e⟩ := List.any_eq_true.mp h
    exact fnd pl ⟨z, hz, of_decide_eq_true e⟩
  · next h =>
    have no : ∀ z ∈ pl, z.1 ≠ p := fun z hz e => h (List.any_eq_true.mpr ⟨z, hz, decide_eq_true e⟩)
    unfold lk
    rw [List.find?_append]
    by_cases h2 : q = p
    · rw [if_pos h2, List.find?_eq_none.mpr fun z hz => by rw [h2]; simpa using no z hz, h2]
      simp
    · rw [if_neg h2]
      have : ([(p, v)] : List (Int × Int)).find? (fun z => decide (z.1 = q)) = none := by
        rw [List.find?_eq_none]
        intro z hz
        rw [List.mem_singleton.mp hz]
        simpa using fun t => h2 t.symm
      rw [this, Option.or_none]
theorem heldP_put (b : Int) (ps pl : List (Int × Int)) (p v q : Int) : heldP b ps (putP pl p v) q = if q = p then v else heldP b ps pl q := by
  unfold heldP
  rw [lk_put]
  split <;> rfl
theorem lk_mem {pl : List (Int × Int)} {i : Nat} (h : i < pl.length) : ∃ x, lk pl pl[i].1 = some x := by
  unfold lk
  cases e : pl.find? fun q => decide (q.1 = pl[i].1) with
  | some z => exact ⟨z.2, rfl⟩
  | none => exact absurd (List.find?_eq_none.mp e pl[i] (List.getElem_mem h)) (by simp)
theorem sq_keep {K : PySem.W.Frag} {m a : Addr} {H G : Hp} {kv : List (Key × V)} {xs : List V} (k : Keep m H G) (hm : H m = some (.dK kv)) (h : SqL K H a xs) : SqL K G a xs := by
  rcases h with (z | ⟨o, z⟩) | z
  · exact .inl (.inl (k _ _ (ne_of z hm (by intro t; cases t)) z))
  · exact .inl (.inr ⟨o, k _ _ (ne_of z hm (by intro t; cases t)) z⟩)
  · exact .inr z
def spLaw (K : PySem.W.Frag) : Sp := fun vs H Q _ => ∃ (a : Addr) (ns : List Int), vs = [.ref a] ∧ SqL K H a (ns.map V.int) ∧ ns.length ≤ 63 ∧ ∀ H', Q (.bl true) H'
section
variable {P : Program} {w : World} {K : PySem.W.Frag} {mg : Str → Option Value} {base : Heap}
theorem three_v (x y z : Int) {i : Int} (h0 : 0 ≤ i) (h1 : i < 3) : ∃ v, atI [V.int x, V.int y, V.int z] i = some (.int v) := by
  have : i = 0 ∨ i = 1 ∨ i = 2 := by omega
  rcases this with rfl | rfl | rfl
  · exact ⟨_, rfl⟩
  · exact ⟨_, rfl⟩
  · exact ⟨_, rfl⟩
theorem ok_law {f : Addr} {fd : FuncData} (F : Fun K "law" "law" sLaw f fd) (B : Free0 mg) (F_deal : Fn P w K mg base 1 "_law_deal" ["_law_script", "_law_k"] (spDeal K)) (F_draw : Fn P w K mg base 1 "_law_draw" ["_law_deal_here", "_law_many_here"] spDraw) (F_number : Fn P w K mg base 2 "_law_number" ["_law_deal_here"] spNumber) (F_many : Fn P w K mg base 1 "_law_many" ["_law_script"] (spMany K))
    (F_alike : Fn P w K mg base 4 "_law_alike" ["_law_found", "_law_due_here"] (spAlike 4)) (F_entry : Fn P w K mg base 2 "entry" ["row", "p"] (spEntry K)) (F_written : Fn P w K mg base 3 "written" ["row", "p", "v"] spWritten) (F_first : Fn P w K mg base 3 "_law_first" ["_law_script"] (spFirst K)) (F_held : Fn P w K mg base 1 "_law_held" ["_law_row", "_law_places", "_law_p"] (spHeld K))
    (F_place : Fn P w K mg base 3 "_law_place" ["_law_deal_here", "_law_row", "_law_last"] spPlace) (F_due : Fn P w K mg base 2 "_law_due" ["_law_row", "_law_places"] spDue) : FnOk P w K mg base CX0 5 f fd ["_law_script"] (spLaw K) := by
  have sc : FnScope ["_law_script", "_law_first_here", "_law_row", "_law_places", "_law_p", "_law_k", "_law_deal_here", "_law_v", "_law_near"] ["_law_script"] (defScope sLaw) := ⟨rfl, rfl, rfl, by decide +kernel, rfl, by decide +kernel, by decide +kernel⟩
  refine F.ok sc (fun vs H Q E h => ?_) (fun cdv A outer s H vs Q E hr h => ?_)
  · obtain ⟨a, ns, rfl, _⟩ := h
    rfl
  obtain ⟨sa, ns, rfl, hS, h63, q⟩ := h
  have hu := hu_of hr
  refine ⟨_, (pss_cons (ps_set (i := 1) sc.nd rfl (by first | exact Or.inl rfl | exact Or.inr rfl) (pe_fn F_first hr (pa_c (pv 0) pa_nil)))
      (pss_cons (ps_set (i := 2) sc.nd rfl (by first | exact Or.inl rfl | exact Or.inr rfl) (pe_fn F_first hr (pa_c (pv 0) pa_nil)))
      (pss_cons (ps_set (i := 3) sc.nd rfl (by first | exact Or.inl rfl | exact Or.inr rfl) pe_dnewK)
      (pss_cons (ps_set (i := 4) sc.nd rfl (by first | exact Or.inl rfl | exact Or.inr rfl) pe_int)
      (pss_cons (ps_for PassesOwn.never rfl (pi_range2 (by rfl) B.range_ (pa_c pe_int (pa_c (pe_cB (call_max2 rfl) (by rfl) B.max_ bt_max (pa_c pe_int (pa_c (pe_fn F_many hr (pa_c (pv 0) pa_nil)) pa_nil))) pa_nil))) (pg_name (i := 5) sc.nd rfl (by first | exact Or.inl rfl | exact Or.inr rfl)) (pss_cons (ps_set (i := 6) sc.nd rfl (by first | exact Or.inl rfl | exact Or.inr rfl) (pe_fn F_deal hr (pa_c (pv 0) (pa_c (pv 5) pa_nil))))
      (pss_cons (ps_set (i := 4) sc.nd rfl (by first | exact Or.inl rfl | exact Or.inr rfl) (pe_fn F_place hr (pa_c (pv 6) (pa_c (pv 1) (pa_c (pv 4) pa_nil)))))
      (pss_cons (ps_set (i := 7) sc.nd rfl (by first | exact Or.inl rfl | exact Or.inr rfl) (pe_ix ix_list (pe_lst (pa_c (pe_fn F_held hr (pa_c (pv 1) (pa_c (pv 3) (pa_c (pv 4) pa_nil)))) (pa_c (pe_fn F_draw hr (pa_c (pv 6) (pa_c pe_int pa_nil))) (pa_c (pe_fn F_number hr (pa_c (pv 6) pa_nil)) pa_nil)))) (pe_fn F_draw hr (pa_c (pv 6) (pa_c pe_int pa_nil))) (fun _ _ => rfl)))
      (pss_cons (ps_set (i := 2) sc.nd rfl (by first | exact Or.inl rfl | exact Or.inr rfl) (pe_fn F_written hr (pa_c (pv 2) (pa_c (pv 4) (pa_c (pv 7) pa_nil)))))
      (pss_cons (ps_dput hu (pv 3) (pv 4) (pv 7) rfl)
      (pss_one (ps_for PassesOwn.never rfl (pi_tup (pe_tup (pa_c (pe_op op_sub (pv 4) pe_int) (pa_c (pv 4) (pa_c (pe_op op_add (pv 4) pe_int) pa_nil))))) (pg_name (i := 8) sc.nd rfl (by first | exact Or.inl rfl | exact Or.inr rfl)) (pss_one (ps_if (pt_not (pt_val (pe_fn F_alike hr (pa_c (pe_fn F_entry hr (pa_c (pv 2) (pa_c (pv 8) pa_nil))) (pa_c (pe_fn F_held hr (pa_c (pv 1) (pa_c (pv 3) (pa_c (pv 8) pa_nil)))) pa_nil))))) (pss_one (ps_ret pe_bl)) pss_nil))))))))))
      (pss_cons (ps_thaw (ps_for PassesOwn.never rfl (pi_dict (pv 3)) (pg_name (i := 8) sc.nd rfl (by first | exact Or.inl rfl | exact Or.inr rfl)) (pss_one (ps_if (pt_cmpR op_ne (pe_fn F_entry hr (pa_c (pv 2) (pa_c (pv 8) pa_nil))) (pe_dget hu (pv 3) (pv 8) (fun _ _ => rfl)) (nomark _)) (pss_one (ps_ret pe_bl)) pss_nil))))
      (pss_one (ps_ret (pe_and (pe_fn F_alike hr (pa_c (pv 2) (pa_c (pe_fn F_due hr (pa_c (pv 1) (pa_c (pv 3) pa_nil))) pa_nil))) (pe_one (pe_fn F_alike hr (pa_c (pv 1) (pa_c (pe_fn F_first hr (pa_c (pv 0) pa_nil)) pa_nil))))))))))))), ?_⟩
  obtain ⟨hcan, hf40⟩ := first_ok ns
  refine ⟨_, rfl, sa, ns, rfl, hS, h63, fun fv H1 s1 hfv => ?_⟩
  refine ⟨_, rfl, sa, ns, rfl, s1.seq hS, h63, fun rv0 H2 s2 hrv => ?_⟩
  have s02 := s1.trans s2
  have hfv2 := hfv.mono s2
  refine fun m hm => ?_
  have t3 := same_new hm (.dK [])
  have e3 : upd H2 m (.dK []) m = some (.dK (pKV [])) := upd_same
  generalize upd H2 m (.dK []) = H3 at *
  have hm0 : H m = none := s02.free hm
  have s03 := s02.trans t3
  have hfv3 := hfv2.mono t3
  have hrv3 := hrv.mono t3
  have hS3 := s03.seq hS
  clear hfv hfv2 hrv s1 s2 s02 t3
  have hrep := fun r H' (s' : Same H H') (hr' : Held H' (rowD (firstN ns).1 (firstN ns).2) r) => hr'
  generalize hfe : firstN ns = fr at *
  obtain ⟨b, ps⟩ := fr
  dsimp only at hcan hf40 hfv3 hrv3 hrep
  refine ⟨_, rfl, sa, ns, rfl, hS3, h63, fun mm hm1 hm63 => ?_⟩
  refine ⟨_, _, rfl, _, _, rfl, ⟨by decide, by decide, by split <;> omega, by split <;> omega⟩, ?_⟩
  have hb : ((if mm > 2 then mm else 2) - 1).toNat ≤ 62 := by split <;> omega
  generalize ((if mm > 2 then mm else 2) - 1).toNat = tn at *
  refine for_range (n := tn) (fun i σ G => ∃ x5 x6 x7 x8 rv p R pl, σ = [some (.ref sa), some fv, some rv, some (.ref m), some (.int p), x5, x6, x7, x8] ∧ Keep m H3 G ∧ G m = some (.dK (pKV pl)) ∧ pl.length ≤ i ∧ Held G (rowD b R) rv ∧ Canon b R ∧ R.length ≤ 40 + 2 * i ∧ ∀ z, heldN b R z = heldP b ps pl z) ?_ ?_ ?_
  · exact ⟨none, none, none, none, rv0, 0, ps, [], rfl, Keep.refl _ _, e3, Nat.le_refl _, hrv3, hcan, by omega, fun z => rfl⟩
  · rintro i σ G hi ⟨x5, x6, x7, x8, rv, p, R, pl, rfl, kG, hGm, hpl, hR, hc, hRl, hall⟩
    have tk0 : TK H3 G := fun z xs e => kG _ _ (ne_of e e3 (by intro t; cases t)) e
    have hfG := tk0.held hfv3
    have hSG : SqL K G sa (ns.map V.int) := sq_keep kG e3 hS3
    refine ⟨_, rfl, _, rfl, sa, ns, 1 + (i : Int), rfl, hSG, h63, by omega, by omega, fun a G1 na1 t1 ha => ?_⟩
    generalize dealN ns (1 + (i : Int)) = dl at *
    obtain ⟨w, k0⟩ := dl
    dsimp only at ha
    have hGm1 := t1 _ _ hGm
    have nma : m ≠ a := ne_of hGm1 ha (by intro z; cases z)
    refine ⟨_, rfl, _, rfl, _, rfl, a, fv, p, w, k0, b, ps, rfl, ha, hfG.mono t1, by omega, fun p2 k1 G2 kp2 ha2 => ?_⟩
    have tk2 : TK G G2 := fun z xs e => kp2 _ _ (ne_of (t1 _ _ e) ha (by intro t; cases t)) (t1 _ _ e)
    have hGm2 := kp2 _ _ nma hGm1
    have k02 : Keep a G G2 := fun z o hz e => kp2 _ _ hz (t1 _ _ e)
    have hfG2 := tk2.held hfG
    have hR2 := tk2.held hR
    clear kp2 ha t1 hGm1
    refine ⟨_, rfl, _, rfl, _, rfl, fv, m, p2, b, ps, pl, rfl, hfG2, hGm2, ?_⟩
    generalize heldP b ps pl p2 = h1 at *
    refine ⟨_, rfl, a, w, k1, 3, rfl, ha2, by decide, by decide, ?_⟩
    have kk3 := Keep.upd a G2 (.lst [.int w, .int (drawN w k1 3).2])
    have ha3 : upd G2 a (.lst [.int w, .int (drawN w k1 3).2]) a = some (.lst [.int w, .int (drawN w k1 3).2]) := upd_same
    have k03 := k02.trans kk3
    have tk3 : TK G (upd G2 a (.lst [.int w, .int (drawN w k1 3).2])) := tk2.trans (TK.upd ha2 (by intro xs z; cases z))
    have hGm3 := kk3 _ _ nma hGm2
    generalize upd G2 a (.lst [.int w, .int (drawN w k1 3).2]) = G3 at *
    generalize (drawN w k1 3).1 = h2 at *
    generalize (drawN w k1 3).2 = k2 at *
    refine ⟨_, rfl, a, w, k2, rfl, ha3, ?_⟩
    have kk4 := Keep.upd a G3 (.lst [.int w, .int (numN w k2).2])
    have ha4 : upd G3 a (.lst [.int w, .int (numN w k2).2]) a = some (.lst [.int w, .int (numN w k2).2]) := upd_same
    have k04 := k03.trans kk4
    have tk4 : TK G (upd G3 a (.lst [.int w, .int (numN w k2).2])) := tk3.trans (TK.upd ha3 (by intro xs z; cases z))
    have hGm4 := kk4 _ _ nma hGm3
    generalize upd G3 a (.lst [.int w, .int (numN w k2).2]) = G4 at *
    generalize (numN w k2).1 = h3 at *
    generalize (numN w k2).2 = k3 at *
    refine ⟨sm rfl, fun lv hlv => ?_⟩
    have t5 := same_new hlv (.lst [V.int h1, V.int h2, V.int h3])
    have e5 : upd G4 lv (.lst [V.int h1, V.int h2, V.int h3]) lv = some (.lst [V.int h1, V.int h2, V.int h3]) := upd_same
    have nlv : lv ≠ a := (ne_of_none ha4 hlv).symm
    have k05 := k04.trans (Keep.same (a := a) t5)
    have tk5 : TK G (upd G4 lv (.lst [V.int h1, V.int h2, V.int h3])) := tk4.trans (TK.same t5)
    have hGm5 := t5 _ _ hGm4
    have ha5 := t5 _ _ ha4
    generalize upd G4 lv (.lst [V.int h1, V.int h2, V.int h3]) = G5 at *
    have d0 := drawN_lo w k3 (m := 3) (by decide)
    have d1 := drawN_hi w k3 (m := 3) (by decide)
    obtain ⟨v, hv⟩ := three_v h1 h2 h3 d0 d1
    refine ⟨_, rfl, a, w, k3, 3, rfl, ha5, by decide, by decide, lv, _, _, _, rfl, rfl, SqL.of (by rw [upd_ne nlv]; exact e5), hv, ?_⟩
    have kk6 := Keep.upd a G5 (.lst [.int w, .int (drawN w k3 3).2])
    have k06 := k05.trans kk6
    have tk6 : TK G (upd G5 a (.lst [.int w, .int (drawN w k3 3).2])) := tk5.trans (TK.upd ha5 (by intro xs z; cases z))
    have hGm6 := kk6 _ _ nma hGm5
    generalize upd G5 a (.lst [.int w, .int (drawN w k3 3).2]) = G6 at *
    clear kk3 kk4 kk6 k05 k04 k03 k02 tk5 tk4 tk3 tk2 hGm5 hGm4 hGm3 hGm2 ha5 ha4 ha3 ha2 e5 t5 hlv hv hfG2 hR2
    have naG : ∀ z o, z ≠ m → H3 z = some o → G6 z = some o := fun z o hz e => by
      have e' := kG _ _ hz e
      exact k06 _ _ (ne_of_none e' na1) e'
    refine ⟨_, rfl, _, rfl, _, rfl, rv, p2, v, b, R, rfl, tk6.held hR, hc.up, by omega, fun R2 r2 G7 t7 hc2 hall2 hl2 hr2 => ?_⟩
    have hGm7 := t7 _ _ hGm6
    have tk7 := tk6.trans (TK.same t7)
    refine ⟨_, rfl, _, rfl, _, rfl, m, _, rfl, DPut.k (k := Sum.inl p2) hGm7 (small1000 (by unfold pKV; rw [List.length_map]; omega)), ?_⟩
    rw [putP_kv]
    have hGm8 : upd G7 m (.dK (pKV (putP pl p2 v))) m = some (.dK (pKV (putP pl p2 v))) := upd_same
    have tk78 : TK G7 (upd G7 m (.dK (pKV (putP pl p2 v)))) := TK.upd hGm7 (by intro xs z; cases z)
    have k8 : Keep m H3 (upd G7 m (.dK (pKV (putP pl p2 v)))) := fun z o hz e => by
      rw [upd_ne hz]
      exact t7 _ _ (naG z o hz e)
    have hr8 := tk78.held hr2
    have hf8 := (tk7.trans tk78).held hfG
    generalize upd G7 m (.dK (pKV (putP pl p2 v))) = G8 at *
    have hall8 : ∀ z, heldN b R2 z = heldP b ps (putP pl p2 v) z := fun z => by rw [hall2, heldP_put, hall]
    have hpl8 : (putP pl p2 v).length ≤ i + 1 := Nat.le_trans (putP_len _ _ _) (by omega)
    generalize putP pl p2 v = pl2 at *
    clear hall2 hall naG k06 tk6 tk7 tk78 hGm7 hGm6 hr2 t7 hfG
    refine ⟨_, rfl, _, _, rfl, rfl, _, rfl, _, rfl, _, _, rfl, rfl, sm rfl, fun t ht => ?_⟩
    obtain ⟨nrs, hnrs⟩ : ∃ nrs, nrs = [p2 - 1, p2, p2 + 1] := ⟨_, rfl⟩
    have t9 := same_new ht (.tup [V.int (p2 - 1), V.int p2, V.int (p2 + 1)])
    have e9 : upd G8 t (.tup [V.int (p2 - 1), V.int p2, V.int (p2 + 1)]) t = some (.tup (nrs.map V.int)) := by rw [hnrs]; exact upd_same
    refine ⟨t, rfl, ⟨_, SqT.of e9⟩, ?_⟩
    refine for_tup (xs := nrs.map V.int) (fun j σ G' => ∃ x8, σ = [some (.ref sa), some fv, some r2, some (.ref m), some (.int p2), some (.int (1 + (i : Int))), some (.ref a), some (.int v), x8] ∧ Same G8 G' ∧ G' t = some (.tup (nrs.map V.int))) ?_ ?_ ?_ ?_
    · exact ⟨_, rfl, t9, e9⟩
    · rintro j σ G' _ ⟨x8, rfl, sG', hGt⟩
      exact SqT.of hGt
    · rintro j x σ G' hx ⟨x8, rfl, sG', hGt⟩
      have hj : j < nrs.length := by
        have := (List.getElem?_eq_some_iff.mp hx).1
        rw [List.length_map] at this
        exact this
      rw [List.getElem?_map, List.getElem?_eq_getElem hj] at hx
      cases hx
      generalize nrs[j] = nr at *
      unfold gName
      refine ⟨_, rfl, _, rfl, r2, nr, (b, R2), rfl, row_at_held (hr8.mono sG'), ⟨hc2.up, by show R2.length ≤ 600; omega⟩, ?_⟩
      refine ⟨_, rfl, _, rfl, _, rfl, fv, m, nr, b, ps, pl2, rfl, hf8.mono sG', sG' _ _ hGm8, ?_⟩
      dsimp only
      rw [hall8]
      refine ⟨_, _, .int (heldP b ps pl2 nr), rfl, held_int, held_int, trivial, fun G'' t'' => ?_⟩
      refine ⟨_, rfl, iteF ?_⟩
      exact ⟨_, rfl, sG'.trans t'', t'' _ _ hGt⟩
    · rintro σ G' ⟨x8, rfl, sG', hGt⟩
      exact ⟨_, _, _, _, r2, p2, R2, pl2, rfl, k8.trans (Keep.same sG'), sG' _ _ hGm8, hpl8, hr8.mono sG', hc2, by omega, hall8⟩
  · rintro σ G ⟨x5, x6, x7, x8, rv, p, R, pl, rfl, kG, hGm, hpl, hR, hc, hRl, hall⟩
    have tk0 : TK H3 G := fun z xs e => kG _ _ (ne_of e e3 (by intro t; cases t)) e
    have hfG := tk0.held hfv3
    have sHG : Same H G := fun z o e => kG _ _ (ne_of_none e hm0) (s03 _ _ e)
    refine ⟨_, rfl, m, _, rfl, hGm, fun o => ?_⟩
    have hmf : upd G m (.frz o (.dK (pKV pl))) m = some (.frz o (.dK (pKV pl))) := upd_same
    have tkf : TK G (upd G m (.frz o (.dK (pKV pl)))) := TK.upd hGm (by intro xs z; cases z)
    have hRf := tkf.held hR
    have hff := tkf.held hfG
    have sHf : Same H (upd G m (.frz o (.dK (pKV pl)))) := fun z u e => by rw [upd_ne (ne_of_none e hm0)]; exact sHG _ _ e
    generalize upd G m (.frz o (.dK (pKV pl))) = G1 at *
    have hkl : (pKV pl).length = pl.length := by unfold pKV; rw [List.length_map]
    refine for_dict (fun j σ G' => ∃ x8, σ = [some (.ref sa), some fv, some rv, some (.ref m), some (.int p), x5, x6, x7, x8] ∧ G1 = G') ?_ ?_ ?_ ?_
    · exact ⟨_, rfl, rfl⟩
    · rintro j σ G' _ ⟨x8, rfl, rfl⟩
      exact hmf
    · rintro j k v σ G' hkv ⟨x8, rfl, rfl⟩
      obtain ⟨hj, rfl, rfl⟩ := kv_nth hkv
      obtain ⟨x, hx⟩ := lk_mem hj
      have g : DGet G1 m (.int pl[j].1) (some (.int x)) := .inl ⟨_, Sum.inl pl[j].1, .inr ⟨o, hmf⟩, rfl, by rw [lk_kv, hx]; rfl⟩
      have he : heldN b R pl[j].1 = x := by rw [hall]; unfold heldP; rw [hx]; rfl
      generalize pl[j].1 = nr at *
      unfold gName
      refine ⟨_, rfl, _, rfl, rv, nr, (b, R), rfl, row_at_held hRf, ⟨hc.up, by show R.length ≤ 600; omega⟩, ?_⟩
      dsimp only
      rw [he]
      refine ⟨_, rfl, _, rfl, m, _, rfl, g, rfl, _, rfl, ?_⟩
      rw [decide_eq_true rfl]
      refine iteF ?_
      exact ⟨_, rfl, rfl⟩
    rintro σ G' ⟨x8, rfl, rfl⟩
    refine ⟨m, o, _, hmf, (fun o z e => by have e' : H m = some (.frz o z) := e; rw [hm0] at e'; cases e'), ?_⟩
    have hm2 : upd G1 m (.dK (pKV pl)) m = some (.dK (pKV pl)) := upd_same
    have tk2 : TK G1 (upd G1 m (.dK (pKV pl))) := TK.upd hmf (by intro xs z; cases z)
    have s2 : Same H (upd G1 m (.dK (pKV pl))) := fun z u e => by rw [upd_ne (ne_of_none e hm0)]; exact sHf _ _ e
    have hR2 := tk2.held hRf
    have hf2 := tk2.held hff
    generalize upd G1 m (.dK (pKV pl)) = G2 at *
    refine ⟨_, rfl, _, rfl, _, rfl, fv, m, b, ps, pl, rfl, hf2, hm2, hf40, by omega, fun ms r G3 E3 s3 hr3 => ?_⟩
    have up : Rising (ms.map fun x => (x, heldP b ps pl x)) := by
      show List.Pairwise _ _
      rw [List.pairwise_map]
      exact E3.up
    have eR : (stN b (ms.map fun x => (x, heldP b ps pl x))).2 = R := canon_eq (canon_st b up) hc fun z => by rw [held_st b _ up, due_held hcan.up E3, hall]
    rw [eR] at hr3
    refine ⟨rv, r, _, rfl, hR2.mono s3, hr3, fits_row (by omega), fun G4 s4 => ?_⟩
    refine ⟨_, rfl, iteT ?_⟩
    have s34 := s3.trans s4
    refine ⟨_, rfl, _, rfl, sa, ns, rfl, (s2.trans s34).seq hS, h63, fun r5 G5 s5 hr5 => ?_⟩
    rw [hfe] at hr5
    exact ⟨fv, r5, _, rfl, hf2.mono (s34.trans s5), hr5, fits_row (by show ps.length ≤ 1000; omega), fun G6 s6 => q G6⟩
end
end LW
set_option Elab.async false
set_option linter.all false
set_option maxRecDepth 100000
set_option maxHeartbeats 4000000
namespace LW
open PySem L2
theorem all_mk {l : PySem.W.OpenLaw} {w : World} {K : PySem.W.Frag} {h : Heap} {mg : Str → Option Value} {fa f0 f1 f2 f3 f4 f5 f6 f7 f8 f9 f10 f11 f12 f13 : Addr} (X : K.In h) (G : h.Ns mainGlobals mg) (hfa : mg "law" = some (.ref fa))
    {od0 an0 od1 an1 od2 an2 od3 an3 od4 an4 od5 an5 od6 an6 od7 an7 od8 an8 od9 an9 od10 an10 od11 an11 od12 an12 od13 an13 : Option Addr} {sl0 sl1 sl2 sl3 sl4 sl5 sl6 sl7 sl8 sl9 sl10 sl11 sl12 sl13 : Array (Option Value)} {oc0 kV0 dc0 pm0 cd0 ct0 oc1 kV1 dc1 pm1 cd1 ct1 oc2 kV2 dc2 pm2 cd2 ct2 oc3 kV3 dc3 pm3 cd3 ct3 oc4 kV4 dc4 pm4 cd4 ct4 oc5 kV5 dc5 pm5 cd5 ct5 oc6 kV6 dc6 pm6 cd6 ct6 oc7 kV7 dc7 pm7 cd7 ct7 oc8 kV8 dc8 pm8 cd8 ct8 oc9 kV9 dc9 pm9 cd9 ct9 oc10 kV10 dc10 pm10 cd10 ct10 oc11 kV11 dc11 pm11 cd11 ct11 oc12 kV12 dc12 pm12 cd12 ct12 oc13 kV13 dc13 pm13 cd13 ct13 : Value}
    (a0 : PySem.W.nsIn K mainGlobals "_law_deal" = some (some (.ref f0))) (l0 : K.lookup f0 = some ⟨oc0, od0, .func (PySem.W.fnOf "_law_deal" "_law_deal" (defArgs sDeal) (defBody sDeal) (defScope sDeal) .none kV0 dc0 pm0 an0 cd0 ct0), sl0⟩) (c0 : PySem.W.codeIn K cd0 "_law_deal" = true) (k0 : PySem.W.keepIn K (.ref f0) = true)
    (a1 : PySem.W.nsIn K mainGlobals "_law_draw" = some (some (.ref f1))) (l1 : K.lookup f1 = some ⟨oc1, od1, .func (PySem.W.fnOf "_law_draw" "_law_draw" (defArgs sDraw) (defBody sDraw) (defScope sDraw) .none kV1 dc1 pm1 an1 cd1 ct1), sl1⟩) (c1 : PySem.W.codeIn K cd1 "_law_draw" = true) (k1 : PySem.W.keepIn K (.ref f1) = true)
    (a2 : PySem.W.nsIn K mainGlobals "_law_many" = some (some (.ref f2))) (l2 : K.lookup f2 = some ⟨oc2, od2, .func (PySem.W.fnOf "_law_many" "_law_many" (defArgs sMany) (defBody sMany) (defScope sMany) .none kV2 dc2 pm2 an2 cd2 ct2), sl2⟩) (c2 : PySem.W.codeIn K cd2 "_law_many" = true) (k2 : PySem.W.keepIn K (.ref f2) = true)
    (a3 : PySem.W.nsIn K mainGlobals "_law_number" = some (some (.ref f3))) (l3 : K.lookup f3 = some ⟨oc3, od3, .func (PySem.W.fnOf "_law_number" "_law_number" (defArgs sNumber) (defBody sNumber) (defScope sNumber) .none kV3 dc3 pm3 an3 cd3 ct3), sl3⟩) (c3 : PySem.W.codeIn K cd3 "_law_number" = true) (k3 : PySem.W.keepIn K (.ref f3) = true)
    (a4 : PySem.W.nsIn K mainGlobals "_law_alike" = some (some (.ref f4))) (l4 : K.lookup f4 = some ⟨oc4, od4, .func (PySem.W.fnOf "_law_alike" "_law_alike" (defArgs sAlike) (defBody sAlike) (defScope sAlike) .none kV4 dc4 pm4 an4 cd4 ct4), sl4⟩) (c4 : PySem.W.codeIn K cd4 "_law_alike" = true) (k4 : PySem.W.keepIn K (.ref f4) = true)
    (a5 : PySem.W.nsIn K mainGlobals "steps_up_to" = some (some (.ref f5))) (l5 : K.lookup f5 = some ⟨oc5, od5, .func (PySem.W.fnOf "steps_up_to" "steps_up_to" (defArgs sSteps_up_to) (defBody sSteps_up_to) (defScope sSteps_up_to) .none kV5 dc5 pm5 an5 cd5 ct5), sl5⟩) (c5 : PySem.W.codeIn K cd5 "steps_up_to" = true) (k5 : PySem.W.keepIn K (.ref f5) = true)
    (a6 : PySem.W.nsIn K mainGlobals "entry" = some (some (.ref f6))) (l6 : K.lookup f6 = some ⟨oc6, od6, .func (PySem.W.fnOf "entry" "entry" (defArgs sEntry) (defBody sEntry) (defScope sEntry) .none kV6 dc6 pm6 an6 cd6 ct6), sl6⟩) (c6 : PySem.W.codeIn K cd6 "entry" = true) (k6 : PySem.W.keepIn K (.ref f6) = true)
    (a7 : PySem.W.nsIn K mainGlobals "stairs" = some (some (.ref f7))) (l7 : K.lookup f7 = some ⟨oc7, od7, .func (PySem.W.fnOf "stairs" "stairs" (defArgs sStairs) (defBody sStairs) (defScope sStairs) .none kV7 dc7 pm7 an7 cd7 ct7), sl7⟩) (c7 : PySem.W.codeIn K cd7 "stairs" = true) (k7 : PySem.W.keepIn K (.ref f7) = true)
    (a8 : PySem.W.nsIn K mainGlobals "written" = some (some (.ref f8))) (l8 : K.lookup f8 = some ⟨oc8, od8, .func (PySem.W.fnOf "written" "written" (defArgs sWritten) (defBody sWritten) (defScope sWritten) .none kV8 dc8 pm8 an8 cd8 ct8), sl8⟩) (c8 : PySem.W.codeIn K cd8 "written" = true) (k8 : PySem.W.keepIn K (.ref f8) = true)
    (a9 : PySem.W.nsIn K mainGlobals "_law_first" = some (some (.ref f9))) (l9 : K.lookup f9 = some ⟨oc9, od9, .func (PySem.W.fnOf "_law_first" "_law_first" (defArgs sFirst) (defBody sFirst) (defScope sFirst) .none kV9 dc9 pm9 an9 cd9 ct9), sl9⟩) (c9 : PySem.W.codeIn K cd9 "_law_first" = true) (k9 : PySem.W.keepIn K (.ref f9) = true)
    (a10 : PySem.W.nsIn K mainGlobals "_law_held" = some (some (.ref f10))) (l10 : K.lookup f10 = some ⟨oc10, od10, .func (PySem.W.fnOf "_law_held" "_law_held" (defArgs sHeld) (defBody sHeld) (defScope sHeld) .none kV10 dc10 pm10 an10 cd10 ct10), sl10⟩) (c10 : PySem.W.codeIn K cd10 "_law_held" = true) (k10 : PySem.W.keepIn K (.ref f10) = true)
    (a11 : PySem.W.nsIn K mainGlobals "_law_place" = some (some (.ref f11))) (l11 : K.lookup f11 = some ⟨oc11, od11, .func (PySem.W.fnOf "_law_place" "_law_place" (defArgs sPlace) (defBody sPlace) (defScope sPlace) .none kV11 dc11 pm11 an11 cd11 ct11), sl11⟩) (c11 : PySem.W.codeIn K cd11 "_law_place" = true) (k11 : PySem.W.keepIn K (.ref f11) = true)
    (a12 : PySem.W.nsIn K mainGlobals "_law_due" = some (some (.ref f12))) (l12 : K.lookup f12 = some ⟨oc12, od12, .func (PySem.W.fnOf "_law_due" "_law_due" (defArgs sDue) (defBody sDue) (defScope sDue) .none kV12 dc12 pm12 an12 cd12 ct12), sl12⟩) (c12 : PySem.W.codeIn K cd12 "_law_due" = true) (k12 : PySem.W.keepIn K (.ref f12) = true)
    (a13 : PySem.W.nsIn K mainGlobals "law" = some (some (.ref f13))) (l13 : K.lookup f13 = some ⟨oc13, od13, .func (PySem.W.fnOf "law" "law" (defArgs sLaw) (defBody sLaw) (defScope sLaw) .none kV13 dc13 pm13 an13 cd13 ct13), sl13⟩) (c13 : PySem.W.codeIn K cd13 "law" = true) (k13 : PySem.W.keepIn K (.ref f13) = true)
    (z0 : PySem.W.nsIn K mainGlobals "len" = some none) (z1 : PySem.W.nsIn K mainGlobals "max" = some none) (z2 : PySem.W.nsIn K mainGlobals "min" = some none) (z3 : PySem.W.nsIn K mainGlobals "all" = some none) (z4 : PySem.W.nsIn K mainGlobals "isinstance" = some none) (z5 : PySem.W.nsIn K mainGlobals "abs" = some none) (z6 : PySem.W.nsIn K mainGlobals "sorted" = some none) (z7 : PySem.W.nsIn K mainGlobals "int" = some none) (z8 : PySem.W.nsIn K mainGlobals "str" = some none) (z9 : PySem.W.nsIn K mainGlobals "bool" = some none) (z10 : PySem.W.nsIn K mainGlobals "tuple" = some none) (z11 : PySem.W.nsIn K mainGlobals "list" = some none) (z12 : PySem.W.nsIn K mainGlobals "dict" = some none) (z13 : PySem.W.nsIn K mainGlobals "range" = some none) (z14 : PySem.W.nsIn K mainGlobals "set" = some none) :
    ∃ fd : FuncData, (∀ (s : Shared) (v : Value), BindsTo s fd ⟨[v], []⟩ [("_law_script", v)]) ∧ ∀ base : Heap, K.In base → base.Ns mainGlobals mg → FnOk l.prog w K mg base CX0 5 fa fd ["_law_script"] (spLaw K) := by
  have e := hfa.symm.trans (PySem.W.mg_of X G a13)
  cases e
  have B : Free0 mg := ⟨PySem.W.mg_none_of X G z0, PySem.W.mg_none_of X G z1, PySem.W.mg_none_of X G z2, PySem.W.mg_none_of X G z3, PySem.W.mg_none_of X G z4, PySem.W.mg_none_of X G z5, PySem.W.mg_none_of X G z6, PySem.W.mg_none_of X G z7, PySem.W.mg_none_of X G z8, PySem.W.mg_none_of X G z9, PySem.W.mg_none_of X G z10, PySem.W.mg_none_of X G z11, PySem.W.mg_none_of X G z12, PySem.W.mg_none_of X G z13, PySem.W.mg_none_of X G z14⟩
  have U0 := fun_mk (st := sDeal) l0 c0 k0
  have b0 := U0.binds (ps := ["_law_script", "_law_k"]) fun _ _ _ _ _ _ us hl => match us, hl with | [_, _], _ => rfl
  have U1 := fun_mk (st := sDraw) l1 c1 k1
  have b1 := U1.binds (ps := ["_law_deal_here", "_law_many_here"]) fun _ _ _ _ _ _ us hl => match us, hl with | [_, _], _ => rfl
  have U2 := fun_mk (st := sMany) l2 c2 k2
  have b2 := U2.binds (ps := ["_law_script"]) fun _ _ _ _ _ _ us hl => match us, hl with | [_], _ => rfl
  have U3 := fun_mk (st := sNumber) l3 c3 k3
  have b3 := U3.binds (ps := ["_law_deal_here"]) fun _ _ _ _ _ _ us hl => match us, hl with | [_], _ => rfl
  have U4 := fun_mk (st := sAlike) l4 c4 k4
  have b4 := U4.binds (ps := ["_law_found", "_law_due_here"]) fun _ _ _ _ _ _ us hl => match us, hl with | [_, _], _ => rfl
  have U5 := fun_mk (st := sSteps_up_to) l5 c5 k5
  have b5 := U5.binds (ps := ["steps", "p"]) fun _ _ _ _ _ _ us hl => match us, hl with | [_, _], _ => rfl
  have U6 := fun_mk (st := sEntry) l6 c6 k6
  have b6 := U6.binds (ps := ["row", "p"]) fun _ _ _ _ _ _ us hl => match us, hl with | [_, _], _ => rfl
  have U7 := fun_mk (st := sStairs) l7 c7 k7
  have b7 := U7.binds (ps := ["base", "pairs"]) fun _ _ _ _ _ _ us hl => match us, hl with | [_, _], _ => rfl
  have U8 := fun_mk (st := sWritten) l8 c8 k8
  have b8 := U8.binds (ps := ["row", "p", "v"]) fun _ _ _ _ _ _ us hl => match us, hl with | [_, _, _], _ => rfl
  have U9 := fun_mk (st := sFirst) l9 c9 k9
  have b9 := U9.binds (ps := ["_law_script"]) fun _ _ _ _ _ _ us hl => match us, hl with | [_], _ => rfl
  have U10 := fun_mk (st := sHeld) l10 c10 k10
  have b10 := U10.binds (ps := ["_law_row", "_law_places", "_law_p"]) fun _ _ _ _ _ _ us hl => match us, hl with | [_, _, _], _ => rfl
  have U11 := fun_mk (st := sPlace) l11 c11 k11
  have b11 := U11.binds (ps := ["_law_deal_here", "_law_row", "_law_last"]) fun _ _ _ _ _ _ us hl => match us, hl with | [_, _, _], _ => rfl
  have U12 := fun_mk (st := sDue) l12 c12 k12
  have b12 := U12.binds (ps := ["_law_row", "_law_places"]) fun _ _ _ _ _ _ us hl => match us, hl with | [_, _], _ => rfl
  have U13 := fun_mk (st := sLaw) l13 c13 k13
  refine ⟨PySem.W.fnOf "law" "law" (defArgs sLaw) (defBody sLaw) (defScope sLaw) .none kV13 dc13 pm13 an13 cd13 ct13, fun s v => .of_eq rfl, fun base _ _ => ?_⟩
  have F_deal := Fn.mk' U0 b0 (PySem.W.mg_of X G a0) (ok_deal (P := l.prog) (w := w) (base := base) U0 B)
  have F_draw := Fn.mk' U1 b1 (PySem.W.mg_of X G a1) (ok_draw (P := l.prog) (w := w) (base := base) U1 )
  have F_many := Fn.mk' U2 b2 (PySem.W.mg_of X G a2) (ok_many (P := l.prog) (w := w) (base := base) U2 B)
  have F_number := Fn.mk' U3 b3 (PySem.W.mg_of X G a3) (ok_number (P := l.prog) (w := w) (base := base) U3 F_draw)
  have F_alike := fn_alike (P := l.prog) (w := w) (base := base) U4 b4 (PySem.W.mg_of X G a4) B 4
  have F_steps_up_to := Fn.mk' U5 b5 (PySem.W.mg_of X G a5) (ok_steps (P := l.prog) (w := w) (base := base) U5 B)
  have F_entry := Fn.mk' U6 b6 (PySem.W.mg_of X G a6) (ok_entry (P := l.prog) (w := w) (base := base) U6 F_steps_up_to)
  have F_stairs := Fn.mk' U7 b7 (PySem.W.mg_of X G a7) (ok_stairs (P := l.prog) (w := w) (base := base) U7 B)
  have F_written := Fn.mk' U8 b8 (PySem.W.mg_of X G a8) (ok_written (P := l.prog) (w := w) (base := base) U8 B F_steps_up_to F_entry F_stairs)
  have F_first := Fn.mk' U9 b9 (PySem.W.mg_of X G a9) (ok_first (P := l.prog) (w := w) (base := base) U9 B F_deal F_draw F_number)
  have F_held := Fn.mk' U10 b10 (PySem.W.mg_of X G a10) (ok_held (P := l.prog) (w := w) (base := base) U10 )
  have F_place := Fn.mk' U11 b11 (PySem.W.mg_of X G a11) (ok_place (P := l.prog) (w := w) (base := base) U11 B F_draw F_number)
  have F_due := Fn.mk' U12 b12 (PySem.W.mg_of X G a12) (ok_due (P := l.prog) (w := w) (base := base) U12 B F_held)
  exact ok_law U13 B F_deal F_draw F_number F_many F_alike F_entry F_written F_first F_held F_place F_due
theorem walk {l : PySem.W.OpenLaw} {q : Program} {loose : List Str} {XP : (Str → Option Value) → Heap → Prop} {YP : World → Heap → Prop} {d : DefRec} {K : Params → PySem.W.Frag} (hn : l.most = some 63) (hdf : d.params.defaults = [])
    (hY : ∀ (w : World) (h : Heap), YP w h → (K w.params).In h)
    (F : ∀ (w : World) (mg : Str → Option Value) (fa : Addr) (h : Heap), (K w.params).In h → h.Ns mainGlobals mg → mg d.name = some (.ref fa) →
      ∃ fd : FuncData, (∀ (s : Shared) (u : Value), BindsTo s fd ⟨[u], []⟩ [("_law_script", u)]) ∧ ∀ base : Heap, (K w.params).In base → base.Ns mainGlobals mg → FnOk l.prog w (K w.params) mg base CX0 5 fa fd ["_law_script"] (spLaw (K w.params))) :
    PySem.W.WalkO q loose XP YP l.row.toRowW d [] (fun f vs => PySem.call f vs) :=
  L2.walk_of (n := 63) (k := 5) (x := "_law_script") (CX := fun _ => CX0) (sp := fun w => spLaw (K w.params)) hn (by decide) hdf ⟨rfl, by decide, by decide⟩ hY F (fun _ _ a ns hl _ hS => ⟨a, ns, rfl, hS, hl, fun _ => rfl⟩) fun _ _ _ _ _ z => z
end LW
open PySem PySem.W PyProof.Rows
set_option maxRecDepth 100000 in
set_option maxHeartbeats 0 in
theorem PySem.Challenge.cw_outlineward_k12_whole_rows_written_holds : PySem.Challenge.rw_outlineward_k12_whole_rows_written.Holds := by
  w_on; o_law; k_head; (case hw => w_witness2)
  k_fill
  refine LW.walk (l := PySem.Challenge.rw_outlineward_k12_whole_rows_written) rfl rfl (fun w h Y => PySem.W.kIn_of Y) ?F
  case F =>
    intro w mg fa h KX G hmg
    refine' LW.all_mk KX G hmg ?a0 ?l0 ?c0 ?k0 ?a1 ?l1 ?c1 ?k1 ?a2 ?l2 ?c2 ?k2 ?a3 ?l3 ?c3 ?k3 ?a4 ?l4 ?c4 ?k4 ?a5 ?l5 ?c5 ?k5 ?a6 ?l6 ?c6 ?k6 ?a7 ?l7 ?c7 ?k7 ?a8 ?l8 ?c8 ?k8 ?a9 ?l9 ?c9 ?k9 ?a10 ?l10 ?c10 ?k10 ?a11 ?l11 ?c11 ?k11 ?a12 ?l12 ?c12 ?k12 ?a13 ?l13 ?c13 ?k13 ?z0 ?z1 ?z2 ?z3 ?z4 ?z5 ?z6 ?z7 ?z8 ?z9 ?z10 ?z11 ?z12 ?z13 ?z14
    (case a0 => k_is); (case l0 => k_is); (case c0 => k_is); (case k0 => k_is)
    (case a1 => k_is); (case l1 => k_is); (case c1 => k_is); (case k1 => k_is)
    (case a2 => k_is); (case l2 => k_is); (case c2 => k_is); (case k2 => k_is)
    (case a3 => k_is); (case l3 => k_is); (case c3 => k_is); (case k3 => k_is)
    (case a4 => k_is); (case l4 => k_is); (case c4 => k_is); (case k4 => k_is)
    (case a5 => k_is); (case l5 => k_is); (case c5 => k_is); (case k5 => k_is)
    (case a6 => k_is); (case l6 => k_is); (case c6 => k_is); (case k6 => k_is)
    (case a7 => k_is); (case l7 => k_is); (case c7 => k_is); (case k7 => k_is)
    (case a8 => k_is); (case l8 => k_is); (case c8 => k_is); (case k8 => k_is)
    (case a9 => k_is); (case l9 => k_is); (case c9 => k_is); (case k9 => k_is)
    (case a10 => k_is); (case l10 => k_is); (case c10 => k_is); (case k10 => k_is)
    (case a11 => k_is); (case l11 => k_is); (case c11 => k_is); (case k11 => k_is)
    (case a12 => k_is); (case l12 => k_is); (case c12 => k_is); (case k12 => k_is)
    (case a13 => k_is); (case l13 => k_is); (case c13 => k_is); (case k13 => k_is)
    (case z0 => k_is)
    (case z1 => k_is)
    (case z2 => k_is)
    (case z3 => k_is)
    (case z4 => k_is)
    (case z5 => k_is)
    (case z6 => k_is)
    (case z7 => k_is)
    (case z8 => k_is)
    (case z9 => k_is)
    (case z10 => k_is)
    (case z11 => k_is)
    (case z12 => k_is)
    (case z13 => k_is)
    (case z14 => k_is)
