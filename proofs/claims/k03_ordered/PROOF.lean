import PyProof.Rows.All
import Wide.All
import OpenK.AllK
import Wide.FinOn
import Lean
import PyProof.EqAt
import PyProof.EqKinds
import PyProof.TupleCall
import PyProof.NeData
import KE.IntBitsLaws
import KE.KDictList
import KE.KRevIter
import KE.KSortKey
import PyProof.Rows.SortWalk
import KE.KSortTup
import KE.KLam
import KE.KNestM
import PySem.Challenge.RW_crookroad_k03_ordered
set_option Elab.async false
set_option linter.all false
set_option maxRecDepth 100000
/-! THE HAND LAYER, for ints, bools, texts, own classes, LISTS and tuples (index, slices, in, append, pop ..), calls, loops. Paste it whole ahead of your own text; what your proof does not reach may be deleted. -/
namespace L2
open PySem PySem.Spec PyProof.Rows

/-- a key: an int or a str -/
abbrev Key := Sum Int Str
def keyIs : Key → Value → Bool
  | .inl k, v => Value.isInt k v
  | .inr x, v => Value.isStrOf x v
def keyH (w : World) : Key → Int
  | .inl k => hashInt k
  | .inr x => hashStr w x
theorem keyIs_shape : ∀ {k : Key} {v : Value}, keyIs k v = true → (∃ i t, k = Sum.inl i ∧ v = Value.int i t) ∨ (∃ x t, k = Sum.inr x ∧ v = Value.str x t)
  | .inl i, v, h => by
    obtain ⟨t, e⟩ := Value.isInt_shape (k := i) (v := v) h
    exact .inl ⟨i, t, rfl, e⟩
  | .inr x, v, h => by
    obtain ⟨t, e⟩ := Value.isStrOf_shape (x := x) (v := v) h
    exact .inr ⟨x, t, rfl, e⟩
theorem key_ll (a b : Int) : decide ((Sum.inl a : Key) = Sum.inl b) = (a == b) := by
  by_cases e : a = b
  · subst e; simp
  · have h : ¬ (Sum.inl a : Key) = Sum.inl b := fun q => e (Sum.inl.inj q)
    rw [decide_eq_false h]
    exact (beq_eq_false_iff_ne.mpr e).symm
theorem key_rr (a b : Str) : decide ((Sum.inr a : Key) = Sum.inr b) = decide (a = b) := by
  by_cases e : a = b
  · subst e; simp
  · have h : ¬ (Sum.inr a : Key) = Sum.inr b := fun q => e (Sum.inr.inj q)
    rw [decide_eq_false h, decide_eq_false e]
theorem key_lr (a : Int) (b : Str) : decide ((Sum.inl a : Key) = Sum.inr b) = false := decide_eq_false (fun q => nomatch q)
theorem key_rl (a : Str) (b : Int) : decide ((Sum.inr a : Key) = Sum.inl b) = false := decide_eq_false (fun q => nomatch q)

def mixKind (prog : Program) (w : World) : PySem.KeyKind prog w Key where
  is := keyIs
  hash := keyH w
  inj := fun v a b ha hb => by
    rcases keyIs_shape ha with ⟨i, t, rfl, rfl⟩ | ⟨x, t, rfl, rfl⟩
    · rcases keyIs_shape hb with ⟨j, u, rfl, e⟩ | ⟨y, u, rfl, e⟩
      · injection e with e1 _; rw [e1]
      · exact nomatch e
    · rcases keyIs_shape hb with ⟨j, u, rfl, e⟩ | ⟨y, u, rfl, e⟩
      · exact nomatch e
      · injection e with e1 _; rw [e1]
  byValue := fun k v h => by
    rcases keyIs_shape h with ⟨i, t, rfl, rfl⟩ | ⟨x, t, rfl, rfl⟩ <;> rfl
  pyHash := fun hv h => by
    rcases keyIs_shape hv with ⟨i, t, rfl, rfl⟩ | ⟨x, t, rfl, rfl⟩
    · exact wpAny_pyHash_int h
    · exact wpAny_pyHash_str h
  eqBool := fun hu hv h => by
    rcases keyIs_shape hu with ⟨i, t, rfl, rfl⟩ | ⟨x, t, rfl, rfl⟩
    · rcases keyIs_shape hv with ⟨j, u, rfl, rfl⟩ | ⟨y, u, rfl, rfl⟩
      · rw [key_ll] at h; exact wpAny_eqBool_int h
      · rw [key_lr] at h; exact SeqAt.EqAt.int_str i t y u _ _ _ _ h
    · rcases keyIs_shape hv with ⟨j, u, rfl, rfl⟩ | ⟨y, u, rfl, rfl⟩
      · rw [key_rl] at h; exact SeqAt.EqAt.str_int x t j u _ _ _ _ h
      · rw [key_rr] at h; exact wpAny_eqBool_str h
  «strs» := fun k x t v h => by
    rcases keyIs_shape h with ⟨i, u, rfl, e⟩ | ⟨y, u, rfl, e⟩
    · exact nomatch e
    · injection e with e1 _
      subst e1
      cases v <;> rfl

end L2

namespace L2
open PySem PySem.Spec PyProof.Rows

/-- a value, without the heap -/
inductive V where
  | non | bl (b : Bool) | int (i : Int) | str (x : Str) | byt (b : Array UInt8) | flt (b : UInt64) | ref (a : Addr) | ty (n : String)
  deriving DecidableEq

def RelV : V → Value → Prop
  | .non, u => u = Value.none
  | .bl b, u => u = Value.bool b
  | .int i, u => ∃ t, u = Value.int i t
  | .str x, u => ∃ t, u = Value.str x t
  | .byt b, u => ∃ t, u = Value.bytes b t
  | .flt b, u => ∃ t, u = Value.float b t
  | .ref a, u => u = Value.ref a
  | .ty n, u => u = Value.type n

abbrev Vals : List V → List Value → Prop := Paired RelV
theorem Vals.length {xs : List V} {us : List Value} (r : Vals xs us) : xs.length = us.length := Paired.length r
theorem Vals.get : ∀ {xs : List V} {us : List Value} {i : Nat} {x : V}, Vals xs us → xs[i]? = some x → ∃ u, us[i]? = some u ∧ RelV x u
  | _, _, _, _, .nil, e => by simp at e
  | _, _, 0, _, .cons r _, e => by simp at e; subst e; exact ⟨_, rfl, r⟩
  | _, _, i + 1, x, .cons _ t, e => by
    obtain ⟨u, h1, h2⟩ := Vals.get (i := i) (x := x) t (by simpa using e)
    exact ⟨u, by simpa using h1, h2⟩
theorem Vals.set {x : V} {u : Value} (r : RelV x u) : ∀ {xs : List V} {us : List Value} (i : Nat), Vals xs us → Vals (xs.set i x) (us.set i u)
  | _, _, _, .nil => .nil
  | _, _, 0, .cons _ t => .cons r t
  | _, _, i + 1, .cons q t => .cons q (Vals.set r i t)
theorem Vals.append : ∀ {xs ys : List V} {us ws : List Value}, Vals xs us → Vals ys ws → Vals (xs ++ ys) (us ++ ws)
  | _, _, _, _, .nil, s => s
  | _, _, _, _, .cons r t, s => .cons r (Vals.append t s)
theorem Vals.take : ∀ {xs : List V} {us : List Value} (n : Nat), Vals xs us → Vals (xs.take n) (us.take n)
  | _, _, 0, _ => .nil
  | _, _, _ + 1, .nil => .nil
  | _, _, n + 1, .cons r t => .cons r (Vals.take n t)
theorem Vals.drop : ∀ {xs : List V} {us : List Value} (n : Nat), Vals xs us → Vals (xs.drop n) (us.drop n)
  | _, _, 0, r => r
  | _, _, _ + 1, .nil => .nil
  | _, _, n + 1, .cons _ t => Vals.drop n t
def RelO : Option V → Option Value → Prop
  | some v, some u => RelV v u
  | none, none => True
  | _, _ => False
def KV {κ : Type} : List (κ × V) → List (κ × Value) → Prop := Paired fun (p : κ × V) (q : κ × Value) => p.1 = q.1 ∧ RelV p.2 q.2

/-- a key of a dict (00_mix): an int or a text -/
def kV : Key → V
  | .inl i => .int i
  | .inr x => .str x

/-- what stands at a tracked address -/
inductive HO where
  /-- a list -/
  | lst (xs : List V)
  /-- a tuple (never changes) -/
  | tup (xs : List V)
  /-- a dict whose keys are ints and texts; one whose keys are tuples of ints and texts (the empty one is both) -/
  | dK (kvs : List (Key × V)) | dT (kvs : List (List Key × V))
  /-- a set of ints: its members, its size -/
  | set (S : Int → Bool) (n : Nat)
  /-- an instance of the class at C, its dict at dx, its attributes -/
  | ins (C dx : Addr) (fs : List (Str × V))
  /-- the dict of the instance at x -/
  | own (x : Addr)
  /-- the dict of an exception -/
  | xd (fs : List (Str × V))
  /-- a bound method, f of x -/
  | met (f x : Addr)
  /-- a range object lo, lo + 1, .. below hi -/
  | rng (lo hi : Int)
  /-- a thing that is known to the object (the script; a dict while a loop walks it): read, never written while it is so -/
  | frz (o : Obj) (u : HO)
  /-- a code object's table -/
  | tbl (ps : Array Value)
  /-- any other thing, by what is true of its one object (a def of one's own: SetO a S n := HO.ext fun h => ..) -/
  | ext (φ : Heap → Prop)

abbrev Hp := Addr → Option HO
def upd (H : Hp) (a : Addr) (o : HO) : Hp := fun b => if b = a then some o else H b
theorem upd_same {H : Hp} {a : Addr} {o : HO} : upd H a o a = some o := by unfold upd; rw [if_pos rfl]
theorem upd_ne {H : Hp} {a b : Addr} {o : HO} (h : b ≠ a) : upd H a o b = H b := by unfold upd; rw [if_neg h]
theorem ne_of_none {H : Hp} {a b : Addr} {o : HO} (h : H a = some o) (h' : H b = none) : a ≠ b := by
  intro e; subst e; rw [h] at h'; cases h'

section
variable (P : Program) (w : World)
def ObjOk (H : Hp) (h : Heap) (a : Addr) : HO → Prop
  | .lst xs => xs.length ≤ sizeLine ∧ ∃ (its : List Value) (n : Nat), Vals xs its ∧ h.get? a = some { cls := .type "list", data := .seq its.toArray n }
  | .tup xs => xs.length ≤ sizeLine ∧ ∃ its : List Value, Vals xs its ∧ IsTup h a its.toArray
  | .dK kvs => kvs.length ≤ sizeLine ∧ (a == sysModules) = false ∧ ∃ vs, KV kvs vs ∧ h.DictOf (mixKind P w) a vs
  | .dT kvs => kvs.length ≤ sizeLine ∧ (a == sysModules) = false ∧ ∃ xs : List (List Key × Addr × Value),
      Paired (fun (p : List Key × V) (q : List Key × Addr × Value) => p.1 = q.1 ∧ H q.2.1 = some (.tup (p.1.map kV)) ∧ RelV p.2 q.2.2) kvs xs ∧
      ∃ o es ep, h.get? a = some o ∧ o.ExactDict ∧ o.data = .dict es ep ∧ es.toList = xs.map (entryOfKey (tupleKind (mixKind P w))) ∧ (xs.map (·.1)).Nodup
  | .set S n => h.SetOf (intKind P w) a S n
  | .ins C dx fs => H dx = some (.own a) ∧ fs.length ≤ 1000 ∧ dx ≠ a ∧ h.get? a = some (PySem.W.instObj C dx) ∧
      ∃ mA, h.Ns1 dx mA ∧ (∀ f, RelO (fs.lookup f) (mA f)) ∧ PySem.Within mA (fs.map (·.1))
  | .own _ => ∃ o, h.get? a = some o
  | .xd fs => ∃ mA, h.Ns1 a mA ∧ ∀ f, RelO (fs.lookup f) (mA f)
  | .rng lo hi => ∃ t u v, h.get? a = some { cls := .type "range", data := .fields #[.int lo t, .int hi u, .int 1 v] }
  | .frz o u => h.get? a = some o ∧ ObjOk H h a u
  | .tbl ps => h.get? a = some { cls := .none, data := .fields ps }
  | .met f x => h.get? a = some (PySem.W.methodObj (.ref f) (.ref x))
  | .ext φ => φ h ∧ (∃ o, h.get? a = some o) ∧ ∀ h1 h2 : Heap, φ h1 → (∀ o, h1.get? a = some o → h2.get? a = some o) → φ h2
/-- the abstract heap is held -/
def HOk (H : Hp) (h : Heap) : Prop := ∀ a o, H a = some o → ObjOk P w H h a o
end

section
variable {P : Program} {w : World} {H H' : Hp} {h h' : Heap} {a : Addr} {o : HO}
theorem ObjOk.lt (x : ObjOk P w H h a o) : a < h.objs.size := by
  cases o with
  | lst xs => obtain ⟨_, _, _, _, e⟩ := x; exact Heap.lt_size e
  | tup xs => obtain ⟨_, _, _, p⟩ := x; exact p.lt
  | dK kvs => obtain ⟨_, _, _, _, o, _, _, e, _⟩ := x; exact Heap.lt_size e
  | dT kvs => obtain ⟨_, _, _, _, o, _, _, e, _⟩ := x; exact Heap.lt_size e
  | set S n => obtain ⟨o, _, _, _, e, _⟩ := x; exact Heap.lt_size e
  | ins C dx fs => obtain ⟨_, _, _, e, _⟩ := x; exact Heap.lt_size e
  | own y => obtain ⟨_, e⟩ := x; exact Heap.lt_size e
  | xd fs => obtain ⟨_, ⟨_, _, _, e, _⟩, _⟩ := x; exact Heap.lt_size e
  | rng lo hi => obtain ⟨_, _, _, e⟩ := x; exact Heap.lt_size e
  | frz ob u => obtain ⟨e, _⟩ := x; exact Heap.lt_size e
  | tbl ps => exact Heap.lt_size (show h.get? a = some _ from x)
  | met f y => exact Heap.lt_size (show h.get? a = some _ from x)
  | ext φ => obtain ⟨_, ⟨_, e⟩, _⟩ := x; exact Heap.lt_size e
theorem Paired.mapP {α β : Type} {F G : α → β → Prop} : ∀ {l₁ : List α} {l₂ : List β}, Paired F l₁ l₂ → (∀ a b, F a b → G a b) → Paired G l₁ l₂
  | _, _, .nil, _ => .nil
  | _, _, .cons r t, f => .cons (f _ _ r) (Paired.mapP t f)
/-- what an object's description leans on: its own object, its own dict, the tuples -/
theorem ObjOk.stay (x : ObjOk P w H h a o) (k : ∀ b u, (b = a ∨ H b = some (.own a)) → h.get? b = some u → h'.get? b = some u)
    (ho : ∀ b, H b = some (.own a) → H' b = some (.own a)) (ht : ∀ b xs, H b = some (.tup xs) → H' b = some (.tup xs)) : ObjOk P w H' h' a o := by
  induction o with
  | lst xs => obtain ⟨z, its, n, r, e⟩ := x; exact ⟨z, its, n, r, k _ _ (.inl rfl) e⟩
  | tup xs => obtain ⟨z, its, r, ob, e, c⟩ := x; exact ⟨z, its, r, ob, k _ _ (.inl rfl) e, c⟩
  | dK kvs => obtain ⟨z, y, vs, r, ob, es, ep, e, c⟩ := x; exact ⟨z, y, vs, r, ob, es, ep, k _ _ (.inl rfl) e, c⟩
  | dT kvs =>
    obtain ⟨z, y, xs, r, ob, es, ep, e, c⟩ := x
    exact ⟨z, y, xs, Paired.mapP r fun p q z => ⟨z.1, ht _ _ z.2.1, z.2.2⟩, ob, es, ep, k _ _ (.inl rfl) e, c⟩
  | set S n => obtain ⟨ob, es, ep, t, e, c⟩ := x; exact ⟨ob, es, ep, t, k _ _ (.inl rfl) e, c⟩
  | ins C dx fs =>
    obtain ⟨d, z, ne, e, mA, ⟨od, es, ep, e2, c⟩, r⟩ := x
    exact ⟨ho _ d, z, ne, k _ _ (.inl rfl) e, mA, ⟨od, es, ep, k _ _ (.inr d) e2, c⟩, r⟩
  | own y => obtain ⟨ob, e⟩ := x; exact ⟨ob, k _ _ (.inl rfl) e⟩
  | xd fs => obtain ⟨mA, ⟨od, es, ep, e, c⟩, r⟩ := x; exact ⟨mA, ⟨od, es, ep, k _ _ (.inl rfl) e, c⟩, r⟩
  | rng lo hi => obtain ⟨t, u, v, e⟩ := x; exact ⟨t, u, v, k _ _ (.inl rfl) e⟩
  | frz ob u ih => obtain ⟨e, q⟩ := x; exact ⟨k _ _ (.inl rfl) e, ih q⟩
  | tbl ps =>
    have e : h.get? a = some { cls := .none, data := .fields ps } := x
    show h'.get? a = some { cls := .none, data := .fields ps }
    exact k a _ (.inl rfl) e
  | met f y =>
    have e : h.get? a = some (PySem.W.methodObj (.ref f) (.ref y)) := x
    show h'.get? a = some (PySem.W.methodObj (.ref f) (.ref y))
    exact k a _ (.inl rfl) e
  | ext φ => obtain ⟨p, ⟨o, e⟩, st⟩ := x; exact ⟨st _ _ p fun o q => k _ _ (.inl rfl) q, ⟨o, k _ _ (.inl rfl) e⟩, st⟩
theorem HOk.lt (x : HOk P w H h) (e : H a = some o) : a < h.objs.size := (x a o e).lt
theorem HOk.fresh (x : HOk P w H h) (e : h.objs.size ≤ a) : H a = none := by
  cases q : H a with
  | none => rfl
  | some u => exact absurd (Nat.lt_of_lt_of_le (x.lt q) e) (Nat.lt_irrefl _)
/-- every object of the heap is kept -/
theorem HOk.kept (x : HOk P w H h) (k : ∀ b u, h.get? b = some u → h'.get? b = some u) : HOk P w H h' := fun a o e =>
  (x a o e).stay (fun b u _ q => k b u q) (fun _ q => q) fun _ _ q => q
/-- a new object is laid and tracked -/
theorem HOk.laid (x : HOk P w H h) (k : ∀ b u, h.get? b = some u → h'.get? b = some u) (hp : h.objs.size ≤ a) (new : ObjOk P w (upd H a o) h' a o) : HOk P w (upd H a o) h' := fun b u e => by
  have hn := x.fresh hp
  by_cases hb : b = a
  · subst hb; rw [upd_same] at e; cases e; exact new
  · rw [upd_ne hb] at e
    exact (x b u e).stay (fun c v _ q => k c v q) (fun c q => by rw [upd_ne (ne_of_none q hn)]; exact q) fun c xs q => by rw [upd_ne (ne_of_none q hn)]; exact q
end

/-- what may be read as u: it is u, or a known u -/
def Rd (H : Hp) (a : Addr) (u : HO) : Prop := H a = some u ∨ ∃ o, H a = some (.frz o u)
theorem Rd.ok {P : Program} {w : World} {H : Hp} {h : Heap} {a : Addr} {u : HO} (r : Rd H a u) (x : HOk P w H h) : ObjOk P w H h a u := by
  rcases r with r | ⟨o, r⟩
  · exact x a u r
  · obtain ⟨_, q⟩ := x a _ r
    exact q
/-- what may be written -/
def Mut : Option HO → Prop
  | some (.lst _) => True
  | some (.dK _) => True
  | some (.dT _) => True
  | some (.set _ _) => True
  | some (.ins _ _ _) => True
  | some (.ext _) => True
  | _ => False
section
variable {P : Program} {w : World} {H : Hp} {h h' : Heap} {x e : Addr} {o' : HO}
/-- the object at e is changed: x itself, or the dict of the instance x -/
theorem HOk.write (ok : HOk P w H h) (mu : Mut (H x)) (he : e = x ∨ H e = some (.own x)) (k : ∀ b u, b ≠ e → h.get? b = some u → h'.get? b = some u) (heo : ∃ u, h'.get? e = some u)
    (new : ObjOk P w (upd H x o') h' x o') : HOk P w (upd H x o') h' := fun b u q => by
  have nown : ∀ c y, H c = some (.own y) → c ≠ x := fun c y r z => by subst z; rw [r] at mu; exact mu
  have ntup : ∀ c xs, H c = some (.tup xs) → c ≠ x := fun c xs r z => by subst z; rw [r] at mu; exact mu
  by_cases hb : b = x
  · subst hb; rw [upd_same] at q; cases q; exact new
  · rw [upd_ne hb] at q
    by_cases hbe : b = e
    · have q' : H b = some (.own x) := by
        rcases he with z | z
        · exact absurd (hbe.trans z) hb
        · rw [hbe]; exact z
      rw [q] at q'; cases q'
      obtain ⟨v, hv⟩ := heo
      exact ⟨v, by rw [hbe]; exact hv⟩
    · refine (ok b u q).stay (fun c v hc r => k c v ?_ r) (fun c r => by rw [upd_ne (nown c b r)]; exact r) fun c xs r => by rw [upd_ne (ntup c xs r)]; exact r
      rcases hc with rfl | hc
      · exact hbe
      · rintro rfl
        rcases he with z | z
        · exact nown c b hc z
        · rw [hc] at z; cases z; exact hb rfl
end

/-! ### kept unless tracked; of the frames at fs (the callers') the slots may change (an exception that passes writes there); of the records at ex (iterators) nothing is said -/
structure Un (fs ex : List Addr) (H H' : Hp) (h h' : Heap) : Prop where
  keep : ∀ b o, h.get? b = some o → H b = none → b ∉ fs → b ∉ ex → h'.get? b = some o
  slot : ∀ b o, h.get? b = some o → H b = none → b ∈ fs → b ∉ ex → ∃ sl, h'.get? b = some { o with slots := sl }
  free : ∀ b o, h.get? b = some o → H b = none → b ∉ ex → H' b = none
  there : ∀ b o, h.get? b = some o → b ∉ ex → ∃ o', h'.get? b = some o'
  tups : ∀ b xs, H b = some (.tup xs) → H' b = some (.tup xs)
  frzs : ∀ b o u, H b = some (.frz o u) → H' b = some (.frz o u)
  tbls : ∀ b ps, H b = some (.tbl ps) → ∃ more, H' b = some (.tbl (ps ++ more))
section
variable {fs fs' ex ex' : List Addr} {H H1 H2 : Hp} {h h1 h2 h' : Heap} {a x e : Addr} {o : HO}
theorem Un.any (u : Un fs ex H H1 h h1) {b : Addr} {ob : Obj} (q : h.get? b = some ob) (n : H b = none) (hx : b ∉ ex) : ∃ sl, h1.get? b = some { ob with slots := sl } := by
  by_cases hb : b ∈ fs
  · exact u.slot b ob q n hb hx
  · exact ⟨ob.slots, u.keep b ob q n hb hx⟩
theorem Un.kept (k : ∀ b u, h.get? b = some u → h'.get? b = some u) : Un fs ex H H h h' :=
  ⟨fun b ob q _ _ _ => k b ob q, fun b ob q _ _ _ => ⟨ob.slots, k b ob q⟩, fun _ _ _ n _ => n, fun b ob q _ => ⟨ob, k b ob q⟩, fun _ _ q => q, fun _ _ _ q => q, fun _ ps q => ⟨#[], by rw [q]; simp⟩⟩
theorem Un.refl : Un fs ex H H h h := Un.kept fun _ _ q => q
theorem Un.laid (k : ∀ b u, h.get? b = some u → h'.get? b = some u) (hp : h.objs.size ≤ a) (hn : H a = none) : Un fs ex H (upd H a o) h h' where
  keep := fun b u q _ _ _ => k b u q
  slot := fun b u q _ _ _ => ⟨u.slots, k b u q⟩
  free := fun b u q n _ => by rw [upd_ne (Nat.ne_of_lt (Nat.lt_of_lt_of_le (Heap.lt_size q) hp))]; exact n
  there := fun b u q _ => ⟨u, k b u q⟩
  tups := fun b xs q => by rw [upd_ne (ne_of_none q hn)]; exact q
  frzs := fun b u xs q => by rw [upd_ne (ne_of_none q hn)]; exact q
  tbls := fun b ps q => ⟨#[], by rw [upd_ne (ne_of_none q hn), q]; simp⟩
theorem Un.write (mu : Mut (H x)) (he : e = x ∨ H e = some (.own x)) (k : ∀ b u, b ≠ e → h.get? b = some u → h'.get? b = some u) (heo : ∃ u, h'.get? e = some u) : Un fs ex H (upd H x o) h h' := by
  have hx : ∀ b, H b = none → b ≠ x := fun b n z => by subst z; rw [n] at mu; exact mu
  have hb : ∀ b, H b = none → b ≠ e := fun b n z => by
    subst z
    rcases he with r | r
    · exact hx b n r
    · rw [n] at r; cases r
  have hm : ∀ b u, H b = some u → ¬ Mut (some u) → b ≠ x := fun b u q nm z => by subst z; rw [q] at mu; exact nm mu
  refine ⟨fun b u q n _ _ => k b u (hb b n) q, fun b u q n _ _ => ⟨u.slots, k b u (hb b n) q⟩, fun b u q n _ => by rw [upd_ne (hx b n)]; exact n, fun b u q _ => ?_,
    fun b xs q => by rw [upd_ne (hm b _ q fun z => z)]; exact q, fun b u xs q => by rw [upd_ne (hm b _ q fun z => z)]; exact q, fun b ps q => ⟨#[], by rw [upd_ne (hm b _ q fun z => z), q]; simp⟩⟩
  by_cases hbe : b = e
  · subst hbe; exact heo
  · exact ⟨u, k b u hbe q⟩
end

/-! ### the heap without what is tracked -/
def trk (h : Heap) (H : Hp) : List Addr := (List.range h.objs.size).filter fun a => (H a).isSome
def hidT (h : Heap) (H : Hp) : Heap := PySem.W.hideAll h (trk h H)
theorem hidT_size (h : Heap) (H : Hp) : (hidT h H).objs.size = h.objs.size := PySem.W.hideAll_size _ _
theorem hidT_get {h : Heap} {H : Hp} {b : Addr} {o : Obj} (e : h.get? b = some o) (n : H b = none) : (hidT h H).get? b = some o :=
  PySem.W.hideAll_get _ e fun hm => by
    have q : (H b).isSome = true := (List.mem_filter.mp hm).2
    rw [n] at q; simp at q
theorem of_hidT {h : Heap} {H : Hp} {b : Addr} {o : Obj} (e : (hidT h H).get? b = some o) : h.get? b = some o ∧ H b = none := by
  have e' : h.get? b = some o := PySem.W.of_hideAll (trk h H) e
  refine ⟨e', ?_⟩
  cases q : H b with
  | none => rfl
  | some x =>
    have hm : b ∈ trk h H := List.mem_filter.mpr ⟨List.mem_range.mpr (Heap.lt_size e'), by simp [q]⟩
    have z : (hidT h H).get? b = none := PySem.W.hideAll_none (trk h H) hm
    rw [z] at e; cases e

/-! ### OpenK's ledger, filled with every new object but one -/
def allNews (g h : Heap) (L : Addr) : List (Addr × Obj) := (List.range h.objs.size).filterMap fun a => if a = L ∨ (g.get? a).isSome = true then none else (h.get? a).map fun o => (a, o)
def rest (g h : Heap) (L d : Addr) : List (Addr × Obj) := (allNews g h L).filter fun p => decide (p.1 ≠ d)
end L2

namespace L2
open PySem PySem.Spec PyProof.Rows

/-- the module's facts, over the base: the heap at the law's entry without what is tracked there -/
structure Mod (K : PySem.W.Frag) (mg : Str → Option Value) (base : Heap) : Prop where
  kin : K.In base
  glob : base.Ns mainGlobals mg
  blt : ∃ mb, base.Ns builtinsNs mb ∧ ∀ x : Str, x ≠ "__name__" → mb x = bootBuiltins x
  nolimit : base.NoLimit

/-- the context: a def's body (or a comprehension's block) running. base: fixed through the whole law; s₀, H₀: the entry; outer: the frames whose slots others may change (a def's callers); stack: all frames that run;
   ex: iterators that were made ahead of the entry and are walked here (a comprehension's); fn: the names whose cells were made at the entry (a def: all; a comprehension's block: its own); calm: not within an except suite; pn: pins that every state bears; xe: what is wanted of an exception that leaves the code -/
structure Cx where
  prog : Program
  w : World
  K : PySem.W.Frag
  mg : Str → Option Value
  base : Heap
  A : Around
  N : List Str
  s₀ : Shared
  H₀ : Hp
  env : Env
  outer : List Env
  stack : List Env
  ex : List Addr
  fn : Str → Bool
  calm : Bool
  pn : List (Addr × Obj)
  xe : Value → Shared → Prop
/-- the callers' frames -/
def frs (l : List Env) : List Addr := l.filterMap (·.frame)
abbrev Cx.fs (X : Cx) : List Addr := frs X.outer

def Vis (sc : Scope) (x : Str) : Prop := sc.names.lookup x = some .local ∨ sc.names.lookup x = some .cell ∨ sc.names.lookup x = some .free
def Loc (sc : Scope) (x : Str) : Prop := sc.names.lookup x = some .local ∨ sc.names.lookup x = some .cell
def Look (env : Env) (h : Heap) (m : Str → Option Value) (x : Str) (u : Value) : Prop :=
  (env.kindOf x = some .local ∧ m x = some u) ∨ ((env.kindOf x = some .cell ∨ env.kindOf x = some .free) ∧ ∃ c, env.cells.lookup x = some c ∧ h.IsCell c (some u))

structure Cx.Ok (X : Cx) : Prop where
  mod : Mod X.K X.mg X.base
  kind : X.env.scope.kind = .function
  glob : X.env.globals = mainGlobals
  blt : X.env.builtins = builtinsNs
  above : X.s₀.heap.objs.size ≤ X.env.locals
  inj : ∀ x y c, X.env.cells.lookup x = some c → X.env.cells.lookup y = some c → x = y
  has : ∀ x, (X.env.kindOf x = some .cell ∨ X.env.kindOf x = some .free) → ∃ c, X.env.cells.lookup x = some c
  cab : ∀ x c, X.fn x = true → X.env.cells.lookup x = some c → X.s₀.heap.objs.size ≤ c
  hd : X.calm = true → X.A.handled = none
  frames : X.A.frames = some X.stack
  stk : X.stack = X.outer ∨ (X.stack = X.env :: X.outer ∧ X.env.frame = some X.env.locals)
  exf : ∀ b ∈ X.ex, b ≠ X.env.locals ∧ ∀ x c, X.env.cells.lookup x = some c → c ≠ b
  bs : ∀ b o, X.base.get? b = some o → X.s₀.heap.get? b = some o ∧ X.H₀ b = none
  bsz : X.base.objs.size ≤ X.s₀.heap.objs.size
  noex : ∀ b o, X.base.get? b = some o → b ∉ X.ex
  exfs : ∀ b ∈ X.ex, b ∉ X.fs
  funs : X.s₀.heap.FunFrames X.base X.outer
  frf : ∀ b ∈ X.fs, X.H₀ b = none

structure Inv (X : Cx) (pins : List (Addr × Obj)) (σ : List (Option V)) (H : Hp) (s : Shared) : Prop where
  ok : X.Ok
  os : s.os = X.s₀.os
  bare : AllBare s.gens
  base : Un X.fs X.ex X.H₀ H X.s₀.heap s.heap
  loc : ∃ m, s.heap.Ns X.env.locals m ∧ ∀ (i : Nat) (x : Str) (v : V), X.N[i]? = some x → σ[i]? = some (some v) → Vis X.env.scope x → ∃ u, RelV v u ∧ Look X.env s.heap m x u
  cell : ∀ x c, X.env.cells.lookup x = some c → ∃ v, s.heap.IsCell c v
  free : H X.env.locals = none
  freeC : ∀ x c, X.env.cells.lookup x = some c → H c = none
  pin : ∀ p ∈ X.pn ++ pins, s.heap.get? p.1 = some p.2 ∧ H p.1 = none ∧ p.1 ≠ X.env.locals ∧ p.1 ∉ X.fs ∧ ∀ v, p.2.data ≠ .cell v
  hok : HOk X.prog X.w H s.heap
  len : σ.length = X.N.length

section
variable {X : Cx} {pins : List (Addr × Obj)} {σ : List (Option V)} {H H' : Hp} {s : Shared} {h' : Heap}

theorem Cx.Ok.nofr (ok : X.Ok) {b : Addr} {o : Obj} (e : X.base.get? b = some o) : b ∉ X.fs := fun hb => by
  have := (ok.funs.mem hb).1
  rw [e] at this; cases this
theorem Inv.bs (I : Inv X pins σ H s) : ∀ b o, X.base.get? b = some o → s.heap.get? b = some o ∧ H b = none := fun b o e =>
  ⟨I.base.keep b o (I.ok.bs b o e).1 (I.ok.bs b o e).2 (I.ok.nofr e) (I.ok.noex b o e), I.base.free b o (I.ok.bs b o e).1 (I.ok.bs b o e).2 (I.ok.noex b o e)⟩
theorem Inv.bk (I : Inv X pins σ H s) : ∀ b o, X.base.get? b = some o → s.heap.get? b = some o := fun b o e => (I.bs b o e).1
theorem Inv.mod (I : Inv X pins σ H s) : Mod X.K X.mg X.base := I.ok.mod
theorem Inv.kIn (I : Inv X pins σ H s) : X.K.In s.heap := I.ok.mod.kin.keeps I.bk
theorem Inv.lt (I : Inv X pins σ H s) : X.env.locals < s.heap.objs.size := let ⟨_, hn, _⟩ := I.loc; hn.lt
theorem Inv.sz (I : Inv X pins σ H s) : X.s₀.heap.objs.size ≤ s.heap.objs.size := Nat.le_trans I.ok.above (Nat.le_of_lt I.lt)
theorem Inv.nofs (I : Inv X pins σ H s) {a : Addr} (h : s.heap.objs.size ≤ a) : a ∉ X.fs := fun hb => by
  obtain ⟨_, o, ho, _⟩ := I.ok.funs.mem hb
  exact absurd (Nat.lt_of_lt_of_le (Heap.lt_size ho) (Nat.le_trans I.sz h)) (Nat.lt_irrefl _)
theorem Inv.cne (I : Inv X pins σ H s) : ∀ x c, X.env.cells.lookup x = some c → c ≠ X.env.locals := fun x c e z => by
  obtain ⟨v, o, ho, hd⟩ := I.cell x c e
  obtain ⟨m, ⟨o', es, ep, ho', hd', _⟩, _⟩ := I.loc
  rw [z, ho'] at ho; cases ho; rw [hd'] at hd; cases hd
theorem Inv.funs (I : Inv X pins σ H s) : s.heap.FunFrames X.base X.outer := by
  have all : ∀ (l : List Env), (∀ b ∈ frs l, b ∈ X.fs) → X.s₀.heap.FunFrames X.base l → s.heap.FunFrames X.base l := by
    intro l
    induction l with
    | nil => intro _ _; trivial
    | cons env r ih =>
      intro hs hl
      obtain ⟨hk, ⟨L, o, hf, hn, ho, hd⟩, hr⟩ := hl
      have hL : L ∈ X.fs := hs L (by unfold frs; rw [List.filterMap_cons, hf]; exact List.mem_cons_self)
      obtain ⟨sl, e⟩ := I.base.slot L o ho (I.ok.frf L hL) hL fun z => I.ok.exfs L z hL
      exact ⟨hk, ⟨L, _, hf, hn, e, hd⟩, ih (fun b hb => hs b (by unfold frs; rw [List.filterMap_cons, hf]; exact List.mem_cons_of_mem _ hb)) hr⟩
  exact all X.outer (fun _ hb => hb) I.ok.funs

/-- the frames that run, for a call -/
theorem Inv.stack (I : Inv X pins σ H s) : s.heap.FunFrames X.base X.stack := by
  rcases I.ok.stk with e | ⟨e, hf⟩
  · rw [e]; exact I.funs
  · rw [e]
    obtain ⟨m, hn, _⟩ := I.loc
    refine .cons (by rw [I.ok.kind]; decide) hf hn ?_ I.funs
    exact Heap.get?_none_of_le (Nat.le_trans I.ok.bsz I.ok.above)
theorem Inv.stkSub (I : Inv X pins σ H s) : ∀ b ∈ frs X.stack, b ∈ X.env.locals :: X.fs := fun b hb => by
  rcases I.ok.stk with e | ⟨e, hf⟩
  · rw [e] at hb; exact List.mem_cons_of_mem _ hb
  · rw [e] at hb
    unfold frs at hb
    rw [List.filterMap_cons, hf] at hb
    exact hb
theorem Inv.stkFree (I : Inv X pins σ H s) : ∀ b ∈ frs X.stack, H b = none := fun b hb => by
  rcases List.mem_cons.mp (I.stkSub b hb) with e | hb
  · rw [e]; exact I.free
  · obtain ⟨_, o, ho, _⟩ := I.ok.funs.mem hb
    exact I.base.free b o ho (I.ok.frf b hb) fun z => I.ok.exfs b z hb

/-- THE STEP: the untracked objects but the frame and the records at ch are kept (the callers' frames up to slots), the frame's map is kept, the new abstract heap is held -/
theorem Inv.step {g' : Array GenState} {t' : Nat} {d' : Drawn} {ch : List Addr} (I : Inv X pins σ H s)
    (hch : ∀ b ∈ ch, (b ∈ X.ex ∨ X.s₀.heap.objs.size ≤ b) ∧ b ≠ X.env.locals ∧ (∀ x c, X.env.cells.lookup x = some c → c ≠ b) ∧ ∀ p ∈ X.pn ++ pins, p.1 ≠ b)
    (keep : ∀ b o, b ≠ X.env.locals → b ∉ X.fs → b ∉ ch → s.heap.get? b = some o → H b = none → h'.get? b = some o)
    (slot : ∀ b o, b ≠ X.env.locals → b ∈ X.fs → b ∉ ch → s.heap.get? b = some o → H b = none → ∃ sl, h'.get? b = some { o with slots := sl }) (free : ∀ b o, b ∉ ch → s.heap.get? b = some o → H b = none → H' b = none)
    (there : ∀ b o, b ∉ ch → s.heap.get? b = some o → ∃ o', h'.get? b = some o')
    (tups : ∀ b xs, H b = some (.tup xs) → H' b = some (.tup xs)) (frzs : ∀ b o u, H b = some (.frz o u) → H' b = some (.frz o u)) (tbls : ∀ b ps, H b = some (.tbl ps) → ∃ more, H' b = some (.tbl (ps ++ more)))
    (ns : ∀ m, s.heap.Ns X.env.locals m → h'.Ns X.env.locals m) (hok : HOk X.prog X.w H' h') (hg : AllBare g') :
    Inv X pins σ H' { s with heap := h', gens := g', drawn := d', toks := t' } := by
  have neL : ∀ b o, X.s₀.heap.get? b = some o → b ≠ X.env.locals := fun b o e => Nat.ne_of_lt (Nat.lt_of_lt_of_le (Heap.lt_size e) I.ok.above)
  have neC : ∀ b o, X.s₀.heap.get? b = some o → b ∉ X.ex → b ∉ ch := fun b o e hx hb => by
    rcases (hch b hb).1 with z | z
    · exact hx z
    · exact absurd (Nat.lt_of_lt_of_le (Heap.lt_size e) z) (Nat.lt_irrefl _)
  have cellK : ∀ x c, X.env.cells.lookup x = some c → ∀ v, s.heap.IsCell c v → h'.IsCell c v := fun x c e v ⟨o, ho, hd⟩ => by
    have nch : c ∉ ch := fun z => (hch c z).2.2.1 x c e rfl
    by_cases hc : c ∈ X.fs
    · obtain ⟨sl, q⟩ := slot c o (I.cne x c e) hc nch ho (I.freeC x c e)
      exact ⟨_, q, hd⟩
    · exact ⟨o, keep c o (I.cne x c e) hc nch ho (I.freeC x c e), hd⟩
  refine ⟨I.ok, I.os, hg, ⟨fun b o e n hb hx => ?_, fun b o e n hb hx => ?_, fun b o e n hx => ?_, fun b o e hx => ?_, fun b xs e => tups b xs (I.base.tups b xs e), fun b o xs e => frzs b o xs (I.base.frzs b o xs e), fun b ps e => ?_⟩, ?_, fun x c e => ?_, ?_, fun x c e => ?_, fun p hp => ?_, hok, I.len⟩
  · exact keep b o (neL b o e) hb (neC b o e hx) (I.base.keep b o e n hb hx) (I.base.free b o e n hx)
  · obtain ⟨sl, e1⟩ := I.base.slot b o e n hb hx
    obtain ⟨sl', e2⟩ := slot b _ (neL b o e) hb (neC b o e hx) e1 (I.base.free b o e n hx)
    exact ⟨sl', e2⟩
  · obtain ⟨o', e1⟩ := I.base.there b o e hx
    exact free b o' (neC b o e hx) e1 (I.base.free b o e n hx)
  · obtain ⟨o', e1⟩ := I.base.there b o e hx
    exact there b o' (neC b o e hx) e1
  · obtain ⟨m1, e1⟩ := I.base.tbls b ps e
    obtain ⟨m2, e2⟩ := tbls b _ e1
    exact ⟨m1 ++ m2, by rw [e2, Array.append_assoc]⟩
  · obtain ⟨m, hn, hl⟩ := I.loc
    refine ⟨m, ns m hn, fun i x v e1 e2 e3 => ?_⟩
    obtain ⟨u, r, l⟩ := hl i x v e1 e2 e3
    refine ⟨u, r, ?_⟩
    rcases l with l | ⟨k, c, e, z⟩
    · exact .inl l
    · exact .inr ⟨k, c, e, cellK x c e _ z⟩
  · obtain ⟨v, z⟩ := I.cell x c e
    exact ⟨v, cellK x c e v z⟩
  · obtain ⟨m, ⟨o, _, _, ho, _⟩, _⟩ := I.loc
    exact free _ o (fun z => (hch _ z).2.1 rfl) ho I.free
  · obtain ⟨v, o, ho, hd⟩ := I.cell x c e
    exact free c o (fun z => (hch c z).2.2.1 x c e rfl) ho (I.freeC x c e)
  · obtain ⟨e, n, ne, nf, d⟩ := I.pin p hp
    have nch : p.1 ∉ ch := fun z => (hch p.1 z).2.2.2 p hp rfl
    exact ⟨keep p.1 p.2 ne nf nch e n, free p.1 p.2 nch e n, ne, nf, d⟩
/-- .. where the frame's own object is kept too -/
theorem Inv.un {t' : Nat} (I : Inv X pins σ H s) (u : Un X.fs [] H H' s.heap h') (hok : HOk X.prog X.w H' h') : Inv X pins σ H' { s with heap := h', toks := t' } := by
  obtain ⟨m, ⟨o, es, ep, ho, r⟩, _⟩ := id I.loc
  obtain ⟨sl, hL⟩ := u.any ho I.free (by simp)
  exact I.step (g' := s.gens) (d' := s.drawn) (ch := []) (fun _ z => nomatch z) (fun b o _ hb _ e n => u.keep b o e n hb (by simp)) (fun b o _ hb _ e n => u.slot b o e n hb (by simp)) (fun b o _ e n => u.free b o e n (by simp)) (fun b o _ e => u.there b o e (by simp)) u.tups u.frzs u.tbls (fun m' hm => by
    obtain ⟨o', es', ep', ho', r'⟩ := hm
    rw [ho] at ho'; cases ho'
    exact ⟨_, es', ep', hL, r'⟩) hok I.bare
/-- behind a call (or a comprehension's block): the slots of this frame may have changed too, the records at ch may have turned -/
theorem Inv.call {g' : Array GenState} {t' : Nat} {d' : Drawn} {ch : List Addr} (I : Inv X pins σ H s) (u : Un (frs X.stack) ch H H' s.heap h') (hok : HOk X.prog X.w H' h') (hg : AllBare g')
    (hch : ∀ b ∈ ch, (b ∈ X.ex ∨ X.s₀.heap.objs.size ≤ b) ∧ b ≠ X.env.locals ∧ (∀ x c, X.env.cells.lookup x = some c → c ≠ b) ∧ ∀ p ∈ X.pn ++ pins, p.1 ≠ b) :
    Inv X pins σ H' { s with heap := h', gens := g', drawn := d', toks := t' } := by
  obtain ⟨m, ⟨o, es, ep, ho, r⟩, _⟩ := id I.loc
  obtain ⟨sl, hL⟩ := u.any ho I.free fun z => (hch _ z).2.1 rfl
  exact I.step (ch := ch) hch (fun b o hL hb hc e n => u.keep b o e n (fun z => (List.mem_cons.mp (I.stkSub b z)).elim hL hb) hc) (fun b o _ _ hc e n => u.any e n hc) (fun b o hc e n => u.free b o e n hc) (fun b o hc e => u.there b o e hc) u.tups u.frzs u.tbls (fun m' hm => by
    obtain ⟨o', es', ep', ho', r'⟩ := hm
    rw [ho] at ho'; cases ho'
    exact ⟨_, es', ep', hL, r'⟩) hok hg
/-- an untracked record of ours (an iterator) has turned -/
theorem Inv.turned {t' : Nat} {it : Addr} (I : Inv X pins σ H s) (k : ∀ b o, b ≠ it → s.heap.get? b = some o → h'.get? b = some o) (hn : H it = none) (hL : it ≠ X.env.locals)
    (h1 : it ∈ X.ex ∨ X.s₀.heap.objs.size ≤ it) (h2 : ∀ x c, X.env.cells.lookup x = some c → c ≠ it) (h3 : ∀ p ∈ X.pn ++ pins, p.1 ≠ it) : Inv X pins σ H { s with heap := h', toks := t' } := by
  have nit : ∀ b u, H b = some u → b ≠ it := fun b u e z => by rw [z, hn] at e; cases e
  refine I.step (g' := s.gens) (d' := s.drawn) (ch := [it]) (fun b hb => ?_) (fun b o _ _ hc e _ => k b o (fun z => hc (by simp [z])) e) (fun b o _ _ hc e _ => ⟨o.slots, k b o (fun z => hc (by simp [z])) e⟩) (fun _ _ _ _ n => n)
    (fun b o hc e => ⟨o, k b o (fun z => hc (by simp [z])) e⟩) (fun _ _ e => e) (fun _ _ _ e => e) (fun b ps e => ⟨#[], by rw [e]; simp⟩) (fun m hm => ?_) (fun b u e => ?_) I.bare
  · have e : b = it := by simpa using hb
    subst e
    exact ⟨h1, hL, h2, h3⟩
  · obtain ⟨o, es, ep, ho, r⟩ := hm
    exact ⟨o, es, ep, k _ o (Ne.symm hL) ho, r⟩
  · refine (I.hok b u e).stay (fun c v hc q => k c v ?_ q) (fun _ q => q) fun _ _ q => q
    rcases hc with z | z
    · rw [z]; exact nit b u e
    · exact nit c _ z
theorem Inv.tok (I : Inv X pins σ H s) (t : Nat) : Inv X pins σ H { s with toks := t } := I.un (h' := s.heap) (t' := t) Un.refl I.hok
/-- all objects kept -/
theorem Inv.kept {t' : Nat} (I : Inv X pins σ H s) (k : ∀ b u, s.heap.get? b = some u → h'.get? b = some u) : Inv X pins σ H { s with heap := h', toks := t' } := I.un (Un.kept k) (I.hok.kept k)
/-- a new object laid and tracked -/
theorem Inv.laid {a : Addr} {o : HO} {t' : Nat} (I : Inv X pins σ H s) (k : ∀ b u, s.heap.get? b = some u → h'.get? b = some u) (hp : s.heap.objs.size ≤ a) (new : ObjOk X.prog X.w (upd H a o) h' a o) :
    Inv X pins σ (upd H a o) { s with heap := h', toks := t' } := I.un (Un.laid k hp (I.hok.fresh hp)) (I.hok.laid k hp new)
/-- an object written -/
theorem Inv.write {x e : Addr} {o : HO} {t' : Nat} (I : Inv X pins σ H s) (mu : Mut (H x)) (he : e = x ∨ H e = some (.own x)) (k : ∀ b u, b ≠ e → s.heap.get? b = some u → h'.get? b = some u) (heo : ∃ u, h'.get? e = some u)
    (new : ObjOk X.prog X.w (upd H x o) h' x o) : Inv X pins σ (upd H x o) { s with heap := h', toks := t' } := I.un (Un.write mu he k heo) (I.hok.write mu he k heo new)
/-- forgetting slots, pins -/
theorem Inv.weak {σ' : List (Option V)} (I : Inv X pins σ H s) (hl : σ'.length = σ.length) (w : ∀ (i : Nat) v, σ'[i]? = some (some v) → σ[i]? = some (some v)) : Inv X pins σ' H s :=
  ⟨I.ok, I.os, I.bare, I.base, let ⟨m, hn, hl'⟩ := I.loc; ⟨m, hn, fun i x v e1 e2 e3 => hl' i x v e1 (w i v e2) e3⟩, I.cell, I.free, I.freeC, I.pin, I.hok, hl.trans I.len⟩
theorem Inv.pins_of {pins' : List (Addr × Obj)} (I : Inv X pins σ H s) (h : ∀ p ∈ pins', s.heap.get? p.1 = some p.2 ∧ H p.1 = none ∧ p.1 ≠ X.env.locals ∧ p.1 ∉ X.fs ∧ ∀ v, p.2.data ≠ .cell v) : Inv X pins' σ H s :=
  ⟨I.ok, I.os, I.bare, I.base, I.loc, I.cell, I.free, I.freeC, fun p hp => (List.mem_append.mp hp).elim (fun z => I.pin p (List.mem_append_left _ z)) (h p), I.hok, I.len⟩

theorem nodup_ix {N : List Str} (hN : N.Nodup) {i j : Nat} {x : Str} (a : N[i]? = some x) (b : N[j]? = some x) : i = j := by
  obtain ⟨h1, e1⟩ := List.getElem?_eq_some_iff.mp a
  obtain ⟨h2, e2⟩ := List.getElem?_eq_some_iff.mp b
  exact (List.getElem_inj hN).mp (e1.trans e2.symm)

/-- a name is stored; what changed -/
theorem store_ok2 {M : Model} {A : Around} {E : Value → Shared → Prop} {i : Nat} {x : Str} {v : V} {u : Value} {Q : Unit → Shared → Prop} (I : Inv X pins σ H s) (hN : X.N.Nodup) (hi : X.N[i]? = some x) (hx : Loc X.env.scope x) (r : RelV v u)
    (h : ∀ s', Inv X pins (σ.set i (some v)) H s' → (∃ a, Heap.SameBut a s.heap s'.heap ∧ (a = X.env.locals ∨ X.env.cells.lookup x = some a)) → Q () s') (hf : X.fn x = true ∨ X.env.scope.names.lookup x = some .local := by first | exact .inl rfl | exact .inr rfl | assumption) : wpAny M A (storeName X.env x u) Q E s := by
  obtain ⟨m, hn, hl⟩ := id I.loc
  have hcls : (X.env.scope.kind == .class || (X.env.scope.kind == .module && X.env.locals != X.env.globals)) = false := by rw [I.ok.kind]; rfl
  have hiσ : i < σ.length := by rw [I.len]; exact (List.getElem?_eq_some_iff.mp hi).1
  have cne := I.cne
  have tracked : ∀ {a : Addr} {h' : Heap}, (∃ o, s.heap.get? a = some o ∧ H a = none) → Heap.SameBut a s.heap h' → HOk X.prog X.w H h' := fun {a h'} ha hs b ob e => by
    obtain ⟨_, _, hfree⟩ := ha
    refine (I.hok b ob e).stay (fun c w' hc q => (hs.2 c ?_).trans q) (fun _ q => q) fun _ _ q => q
    rintro rfl
    rcases hc with rfl | hc
    · rw [hfree] at e; cases e
    · rw [hfree] at hc; cases hc
  rcases hx with hk | hk
  · refine wpAny_storeName_local hk hn (fun h' hn' hs => ?_) hcls
    obtain ⟨oL, _, _, hoL, _⟩ := id hn
    refine h _ ⟨I.ok, I.os, I.bare, ⟨fun b o e n hb hx => ?_, fun b o e n hb hx => ?_, I.base.free, fun b o e hx => ?_, I.base.tups, I.base.frzs, I.base.tbls⟩, ⟨_, hn', fun j y v' e1 e2 e3 => ?_⟩, fun y c e => ?_, I.free, I.freeC, fun p hp => ?_, tracked ⟨oL, hoL, I.free⟩ hs, by simpa using I.len⟩ ⟨_, hs, .inl rfl⟩
    · exact (hs.2 b (Nat.ne_of_lt (Nat.lt_of_lt_of_le (Heap.lt_size e) I.ok.above))).trans (I.base.keep b o e n hb hx)
    · obtain ⟨sl, e1⟩ := I.base.slot b o e n hb hx
      exact ⟨sl, (hs.2 b (Nat.ne_of_lt (Nat.lt_of_lt_of_le (Heap.lt_size e) I.ok.above))).trans e1⟩
    · obtain ⟨o', e1⟩ := I.base.there b o e hx
      exact ⟨o', (hs.2 b (Nat.ne_of_lt (Nat.lt_of_lt_of_le (Heap.lt_size e) I.ok.above))).trans e1⟩
    · by_cases hj : j = i
      · subst hj
        rw [hi] at e1; cases e1
        rw [List.getElem?_set_self hiσ] at e2
        cases e2
        exact ⟨u, r, .inl ⟨hk, by simp⟩⟩
      · rw [List.getElem?_set_ne (Ne.symm hj)] at e2
        obtain ⟨u', r', q⟩ := hl j y v' e1 e2 e3
        refine ⟨u', r', ?_⟩
        rcases q with ⟨k, e⟩ | ⟨k, c, e, z⟩
        · refine .inl ⟨k, ?_⟩
          have : y ≠ x := fun e => hj (nodup_ix hN e1 (e ▸ hi))
          simp [this, e]
        · exact .inr ⟨k, c, e, z.sameBut hs (cne y c e)⟩
    · obtain ⟨w', z⟩ := I.cell y c e
      exact ⟨w', z.sameBut hs (cne y c e)⟩
    · obtain ⟨e, n, ne, nf, d⟩ := I.pin p hp
      exact ⟨(hs.2 p.1 ne).trans e, n, ne, nf, d⟩
  · have hfn : X.fn x = true := by
      rcases hf with z | z
      · exact z
      · rw [z] at hk; cases hk
    obtain ⟨c, hc⟩ := I.ok.has x (.inl hk)
    obtain ⟨w', z⟩ := I.cell x c hc
    refine wpAny_storeName_cell I.ok.kind hk hc z (fun h' hc' hs => ?_)
    obtain ⟨oc, hoc, hocd⟩ := id z
    refine h { s with heap := h' } ⟨I.ok, I.os, I.bare, ⟨fun b o e n hb hx => ?_, fun b o e n hb hx => ?_, I.base.free, fun b o e hx => ?_, I.base.tups, I.base.frzs, I.base.tbls⟩, ⟨m, hn.sameBut hs (Ne.symm (cne x c hc)), fun j y v' e1 e2 e3 => ?_⟩, fun y c' e => ?_, I.free, I.freeC, fun p hp => ?_, tracked ⟨oc, hoc, I.freeC x c hc⟩ hs, by simpa using I.len⟩ ⟨c, hs, .inr hc⟩
    · exact (hs.2 b (Nat.ne_of_lt (Nat.lt_of_lt_of_le (Heap.lt_size e) (I.ok.cab x c hfn hc)))).trans (I.base.keep b o e n hb hx)
    · obtain ⟨sl, e1⟩ := I.base.slot b o e n hb hx
      exact ⟨sl, (hs.2 b (Nat.ne_of_lt (Nat.lt_of_lt_of_le (Heap.lt_size e) (I.ok.cab x c hfn hc)))).trans e1⟩
    · obtain ⟨o', e1⟩ := I.base.there b o e hx
      exact ⟨o', (hs.2 b (Nat.ne_of_lt (Nat.lt_of_lt_of_le (Heap.lt_size e) (I.ok.cab x c hfn hc)))).trans e1⟩
    · by_cases hj : j = i
      · subst hj
        rw [hi] at e1; cases e1
        rw [List.getElem?_set_self hiσ] at e2
        cases e2
        exact ⟨u, r, .inr ⟨.inl hk, c, hc, hc'⟩⟩
      · rw [List.getElem?_set_ne (Ne.symm hj)] at e2
        obtain ⟨u', r', q⟩ := hl j y v' e1 e2 e3
        refine ⟨u', r', ?_⟩
        rcases q with q | ⟨k, c', e, z'⟩
        · exact .inl q
        · refine .inr ⟨k, c', e, z'.sameBut hs ?_⟩
          rintro rfl
          exact hj (nodup_ix hN e1 (I.ok.inj _ _ _ e hc ▸ hi))
    · by_cases hcc : c' = c
      · subst hcc; exact ⟨_, hc'⟩
      · obtain ⟨w2, z2⟩ := I.cell y c' e
        exact ⟨w2, z2.sameBut hs hcc⟩
    · obtain ⟨e, n, ne, nf, d⟩ := I.pin p hp
      refine ⟨(hs.2 p.1 ?_).trans e, n, ne, nf, d⟩
      intro q
      rw [q, hoc] at e
      have q' : oc = p.2 := Option.some.inj e
      exact d w' (by rw [← q']; exact hocd)
theorem store_ok {M : Model} {A : Around} {E : Value → Shared → Prop} {i : Nat} {x : Str} {v : V} {u : Value} {Q : Unit → Shared → Prop} (I : Inv X pins σ H s) (hN : X.N.Nodup) (hi : X.N[i]? = some x) (hx : Loc X.env.scope x) (r : RelV v u)
    (h : ∀ s', Inv X pins (σ.set i (some v)) H s' → Q () s') (hf : X.fn x = true ∨ X.env.scope.names.lookup x = some .local := by first | exact .inl rfl | exact .inr rfl | assumption) : wpAny M A (storeName X.env x u) Q E s :=
  store_ok2 I hN hi hx r (fun s' I' _ => h s' I') hf
/-- behind a call or a block, the state as it is -/
theorem Inv.call' {s' : Shared} {ch : List Addr} (I : Inv X pins σ H s) (ho : s'.os = s.os) (u : Un (frs X.stack) ch H H' s.heap s'.heap) (hok : HOk X.prog X.w H' s'.heap) (hg : AllBare s'.gens)
    (hch : ∀ b ∈ ch, (b ∈ X.ex ∨ X.s₀.heap.objs.size ≤ b) ∧ b ≠ X.env.locals ∧ (∀ x c, X.env.cells.lookup x = some c → c ≠ b) ∧ ∀ p ∈ X.pn ++ pins, p.1 ≠ b) : Inv X pins σ H' s' := by
  obtain ⟨h', g', d', t', o'⟩ := s'
  have e : o' = s.os := ho
  subst e
  exact I.call (g' := g') (t' := t') (d' := d') u hok hg hch
end

/-! ### the judgements -/
/-- an exception: its class, its own dict's address (where it has one), the abstract heap behind it -/
abbrev XK := Value → Option Addr → Hp → Prop
abbrev St := List (Option V)
abbrev VK := V → Hp → Prop
/-- an expression's reading; a test's; an argument list's -/
abbrev TE := St → Hp → VK → Prop
abbrev TT := St → Hp → (Bool → Hp → Prop) → Prop
abbrev TA := St → Hp → (List V → Hp → Prop) → Prop
/-- what is wanted behind a statement -/
structure Ends where
  nx : St → Hp → Prop
  rt : VK
  bk : St → Hp → Prop := fun _ _ => False
  ct : St → Hp → Prop := fun _ _ => False
abbrev TS := Ends → St → Hp → Prop

def EP (X : Cx) (pins : List (Addr × Obj)) (σ : St) (Q : VK) (u : Value) (s' : Shared) : Prop := ∃ v H', Inv X pins σ H' s' ∧ RelV v u ∧ Q v H'
def TP (X : Cx) (pins : List (Addr × Obj)) (σ : St) (Q : Bool → Hp → Prop) (b : Bool) (s' : Shared) : Prop := ∃ H', Inv X pins σ H' s' ∧ Q b H'
def AP (X : Cx) (pins : List (Addr × Obj)) (σ : St) (Q : List V → Hp → Prop) (us : List Value) (s' : Shared) : Prop := ∃ vs H', Inv X pins σ H' s' ∧ Vals vs us ∧ Q vs H'
def SP (X : Cx) (pins : List (Addr × Obj)) (D : Ends) (f : Flow) (s' : Shared) : Prop :=
  match f with
  | .next => ∃ σ' H', Inv X pins σ' H' s' ∧ D.nx σ' H'
  | .brk => ∃ σ' H', Inv X pins σ' H' s' ∧ D.bk σ' H'
  | .cont => ∃ σ' H', Inv X pins σ' H' s' ∧ D.ct σ' H'
  | .ret u => ∃ v σ' H', Inv X pins σ' H' s' ∧ RelV v u ∧ D.rt v H'

def PE (X : Cx) (e : Expr) (t : TE) : Prop :=
  ∀ (pins : List (Addr × Obj)) (s : Shared) (σ : St) (H : Hp) (Q : VK), Inv X pins σ H s → t σ H Q → wpAny (model X.prog X.w) X.A (eval e X.env) (EP X pins σ Q) X.xe s
def PT (X : Cx) (e : Expr) (t : TT) : Prop :=
  ∀ (pins : List (Addr × Obj)) (s : Shared) (σ : St) (H : Hp) (Q : Bool → Hp → Prop), Inv X pins σ H s → t σ H Q → wpAny (model X.prog X.w) X.A (isTrue e X.env (eval e X.env)) (TP X pins σ Q) X.xe s
/-- a test whatever its 'whole' is (and, or) -/
def PW (X : Cx) (e : Expr) (t : TT) : Prop :=
  ∀ (whole : Sem Value) (pins : List (Addr × Obj)) (s : Shared) (σ : St) (H : Hp) (Q : Bool → Hp → Prop), Inv X pins σ H s → t σ H Q → wpAny (model X.prog X.w) X.A (isTrue e X.env whole) (TP X pins σ Q) X.xe s
theorem PW.pt {X : Cx} {e : Expr} {t : TT} (h : PW X e t) : PT X e t := h _
/-- an argument list (no star), from the left -/
def PA (X : Cx) (es : List Expr) (t : TA) : Prop :=
  ∀ (pos : Pos) (pins : List (Addr × Obj)) (s : Shared) (σ : St) (H : Hp) (Q : List V → Hp → Prop), Inv X pins σ H s → t σ H Q → wpAny (model X.prog X.w) X.A (spliced (backTo pos (starEach es X.env))) (AP X pins σ Q) X.xe s
def PS (X : Cx) (st : Stmt) (t : TS) : Prop :=
  ∀ (pins : List (Addr × Obj)) (s : Shared) (σ : St) (H : Hp) (D : Ends), Inv X pins σ H s → t D σ H → wpAny (model X.prog X.w) X.A (exec st X.env) (SP X pins D) X.xe s
def PSs (X : Cx) (st : List Stmt) (t : TS) : Prop :=
  ∀ (pins : List (Addr × Obj)) (s : Shared) (σ : St) (H : Hp) (D : Ends), Inv X pins σ H s → t D σ H → wpAny (model X.prog X.w) X.A (execs st X.env) (SP X pins D) X.xe s
/-- weaken the end -/
theorem thn {α : Type} {t : Sem α} {Q Q' : α → Shared → Prop} {M : Model} {A : Around} {E : Value → Shared → Prop} {s : Shared} (h : wpAny M A t Q E s) (hQ : ∀ a s, Q a s → Q' a s) : wpAny M A t Q' E s := wpAny_mono h hQ fun _ _ x => x
end L2

namespace L2
open PySem PySem.Spec PyProof.Rows
section
variable {X : Cx}

/-! ### names and constants -/
def tVar (i : Nat) : TE := fun σ H Q => ∃ v, σ[i]? = some (some v) ∧ Q v H
def tC (v : V) : TE := fun _ H Q => Q v H
theorem pe_var {i : Nat} {x : Str} {pos : Pos} (hN : X.N[i]? = some x) (hv : Vis X.env.scope x) (hd : (x == ("__debug__" : Str)) = false := by decide) (hcd : (x == ("__classdict__" : Str)) = false := by decide) : PE X (.Name x pos) (tVar i) := by
  intro pins s σ H Q I h
  obtain ⟨v, e, h⟩ := h
  obtain ⟨m, hn, hl⟩ := I.loc
  obtain ⟨u, r, l⟩ := hl i x v hN e hv
  have fin : EP X pins σ Q u s := ⟨v, H, I, r, h⟩
  rcases l with ⟨hk, hm⟩ | ⟨hk, c, hc, hcell⟩
  · exact wpAny_Name (wpAny_loadName_local I.ok.kind hk hn hm fin) hd
  · rcases hk with hk | hk
    · exact wpAny_Name (wpAny_loadName_cell I.ok.kind hk hc hcell fin) hd
    · exact wpAny_Name (wpAny_loadName_free I.ok.kind hk hc hcell fin hcd) hd
theorem pe_int {i j pos} : PE X (.Constant (.int i) j pos) (tC (.int i)) := fun _ _ _ H _ I h => wpAny_Constant_int ⟨.int i, H, I.tok _, ⟨_, rfl⟩, h⟩
theorem pe_bl {b j pos} : PE X (.Constant (.bool b) j pos) (tC (.bl b)) := fun _ _ _ H _ I h => Constant_bool ⟨.bl b, H, I, rfl, h⟩
theorem pe_str {x j pos} : PE X (.Constant (.str x) j pos) (tC (.str x)) := fun _ _ _ H _ I h => Calls.Constant_str ⟨.str x, H, I.tok _, ⟨_, rfl⟩, h⟩

/-- a global name of the def -/
def Gl (X : Cx) (x : Str) : Prop := X.env.kindOf x = some .globalImplicit
theorem ld_glob {E : Value → Shared → Prop} {pins : List (Addr × Obj)} {s : Shared} {σ : St} {H : Hp} {x : Str} {u : Value} {pos : Pos} {Q : Value → Shared → Prop} (I : Inv X pins σ H s) (hg : Gl X x) (hm : X.mg x = some u) (h : Q u s)
    (hd : (x == ("__debug__" : Str)) = false := by decide) : wpAny (model X.prog X.w) X.A (eval (.Name x pos) X.env) Q E s :=
  Calls.Name_function_global I.ok.kind hg (Calls.loadGlobal_global (by rw [I.ok.glob]; exact I.mod.glob.keeps I.bk) hm h) hd
theorem ld_blt {E : Value → Shared → Prop} {pins : List (Addr × Obj)} {s : Shared} {σ : St} {H : Hp} {x : Str} {u : Value} {pos : Pos} {Q : Value → Shared → Prop} (I : Inv X pins σ H s) (hg : Gl X x) (hm : X.mg x = none) (hv : bootBuiltins x = some u) (h : Q u s)
    (hn : x ≠ "__name__" := by decide) (hd : (x == ("__debug__" : Str)) = false := by decide) : wpAny (model X.prog X.w) X.A (eval (.Name x pos) X.env) Q E s := by
  obtain ⟨mb, h1, h2⟩ := I.mod.blt
  exact Calls.Name_function_global I.ok.kind hg (Calls.loadGlobal_builtin (by rw [I.ok.glob]; exact I.mod.glob.keeps I.bk) hm (by rw [I.ok.blt]; exact h1.keeps I.bk) ((h2 x hn).trans hv) h) hd
theorem pe_bltn {x : Str} {v : V} {u : Value} {pos : Pos} (hg : Gl X x) (hm : X.mg x = none) (hv : bootBuiltins x = some u) (r : RelV v u) (hn : x ≠ "__name__" := by decide) (hd : (x == ("__debug__" : Str)) = false := by decide) : PE X (.Name x pos) (tC v) :=
  fun _ _ _ H _ I h => ld_blt I hg hm hv ⟨v, H, I, r, h⟩ hn hd

/-! ### arithmetic -/
variable {a b : Expr} {ta tb : TE} {pos : Pos}
/-! ### comparisons -/
/-- a comparison as a value, as a test -/
def tB (t : TE) : TT := fun σ H Q => t σ H fun x H1 => ∃ c, x = .bl c ∧ Q c H1
/-- an expression whose value is a bool, as a test -/
theorem pt_val {e : Expr} {t : TE} (h : PE X e t) (he : ∀ whole, isTrue e X.env whole = (do let v ← whole; standAt e.pos; holding [v] (truthy v)) := by intro _; rfl) : PT X e (tB t) := by
  intro pins s σ H Q I hw
  refine isTrue_plain (thn (h pins s σ H _ I hw) fun v s1 ⟨x, H1, I1, r1, q1⟩ => ?_) (he _)
  obtain ⟨d, rfl, q⟩ := q1
  cases r1
  exact wpAny_truthy_bool ⟨H1, I1, q⟩

/-! ### and, or, not -/
variable {tA tB' : TT} {rest : List Expr}
def tAnd (t u : TT) : TT := fun σ H Q => t σ H fun c H1 => if c = true then u σ H1 Q else Q false H1
def tOr (t u : TT) : TT := fun σ H Q => t σ H fun c H1 => if c = true then Q true H1 else u σ H1 Q
def tNot (t : TT) : TT := fun σ H Q => t σ H fun c H1 => Q (!c) H1
theorem pw_and1 (ha : PT X a tA) : PW X (.BoolOp .And [a] pos) tA := by
  intro wh pins s σ H Q I h
  refine isTrue_and (thn (ha pins s σ H Q I h) fun c s1 e => ?_)
  cases c with
  | true => exact isTrue_and_nil e
  | false => exact e
theorem pw_or1 (ha : PT X a tA) : PW X (.BoolOp .Or [a] pos) tA := by
  intro wh pins s σ H Q I h
  refine isTrue_or (thn (ha pins s σ H Q I h) fun c s1 e => ?_)
  cases c with
  | false => exact isTrue_or_nil e
  | true => exact e
theorem pw_and (ha : PT X a tA) (hb : PW X (.BoolOp .And (b :: rest) pos) tB') : PW X (.BoolOp .And (a :: b :: rest) pos) (tAnd tA tB') := by
  intro wh pins s σ H Q I h
  refine isTrue_and (thn (ha pins s σ H _ I h) fun c s1 ⟨H1, I1, q1⟩ => ?_)
  cases c with
  | true => exact hb wh pins s1 σ H1 Q I1 q1
  | false => exact ⟨H1, I1, q1⟩
theorem pw_or (ha : PT X a tA) (hb : PW X (.BoolOp .Or (b :: rest) pos) tB') : PW X (.BoolOp .Or (a :: b :: rest) pos) (tOr tA tB') := by
  intro wh pins s σ H Q I h
  refine isTrue_or (thn (ha pins s σ H _ I h) fun c s1 ⟨H1, I1, q1⟩ => ?_)
  cases c with
  | true => exact ⟨H1, I1, q1⟩
  | false => exact hb wh pins s1 σ H1 Q I1 q1
theorem pt_not (ha : PT X a tA) : PT X (.UnaryOp .Not a pos) (tNot tA) := by
  intro pins s σ H Q I h
  exact isTrue_not (ha pins s σ H (fun c H1 => Q (!c) H1) I h)
/-- .. as values (bools) -/
def tAndV (ta tb : TE) : TE := fun σ H Q => ta σ H fun x H1 => ∃ c, x = .bl c ∧ if c = true then tb σ H1 Q else Q (.bl false) H1
def tNotV (ta : TE) : TE := fun σ H Q => ta σ H fun x H1 => ∃ c, x = .bl c ∧ Q (.bl (!c)) H1
theorem pe_one {op} {t : TE} (h : PE X a t) : PE X (.BoolOp op [a] pos) t := fun pins s σ H Q I hw => BoolOp_one (h pins s σ H Q I hw)
theorem pe_and (ha : PE X a ta) (hb : PE X (.BoolOp .And (b :: rest) pos) tb) : PE X (.BoolOp .And (a :: b :: rest) pos) (tAndV ta tb) := by
  intro pins s σ H Q I h
  refine BoolOp_and (thn (ha pins s σ H _ I h) fun v s1 ⟨x, H1, I1, r1, q1⟩ => ?_)
  obtain ⟨c, rfl, q1⟩ := q1
  cases r1
  refine wpAny_truthy_bool ?_
  cases c with
  | true => exact hb pins s1 σ H1 Q I1 q1
  | false => exact ⟨.bl false, H1, I1, rfl, q1⟩
theorem pe_not (ha : PE X a ta) : PE X (.UnaryOp .Not a pos) (tNotV ta) := by
  intro pins s σ H Q I h
  refine UnaryOp_ (thn (ha pins s σ H _ I h) fun v s1 ⟨x, H1, I1, r1, q1⟩ => ?_)
  obtain ⟨c, rfl, q1⟩ := q1
  cases r1
  exact not_of (wpAny_truthy_bool ⟨.bl (!c), H1, I1, rfl, q1⟩)
end
end L2

namespace L2
open PySem PySem.Spec PyProof.Rows

/-! ### a list, a tuple that is read: tracked, frozen, or an object of the module -/
def SqL (K : PySem.W.Frag) (H : Hp) (a : Addr) (xs : List V) : Prop :=
  Rd H a (.lst xs) ∨
    ∃ (o : Obj) (its : Array Value) (n : Nat), K.lookup a = some o ∧ o.cls = .type "list" ∧ o.dict = none ∧ o.data = .seq its n ∧ its.size ≤ sizeLine ∧ Vals xs its.toList
def SqT (K : PySem.W.Frag) (H : Hp) (a : Addr) (xs : List V) : Prop :=
  Rd H a (.tup xs) ∨
    ∃ (o : Obj) (its : Array Value) (n : Nat), K.lookup a = some o ∧ o.cls = .type "tuple" ∧ o.data = .seq its n ∧ its.size ≤ sizeLine ∧ Vals xs its.toList
def absV : Value → Option V
  | .none => some .non
  | .bool b => some (.bl b)
  | .int i _ => some (.int i)
  | .str x _ => some (.str x)
  | .bytes b _ => some (.byt b)
  | .float b _ => some (.flt b)
  | .ref a => some (.ref a)
  | .type n => some (.ty n)
  | _ => none
theorem RelV.abs {x : V} {u : Value} (r : RelV x u) : absV u = some x := by
  cases x with
  | non => cases r; rfl
  | bl _ => cases r; rfl
  | int _ => obtain ⟨t, rfl⟩ := r; rfl
  | str _ => obtain ⟨t, rfl⟩ := r; rfl
  | byt _ => obtain ⟨t, rfl⟩ := r; rfl
  | flt _ => obtain ⟨t, rfl⟩ := r; rfl
  | ref _ => cases r; rfl
  | ty _ => cases r; rfl
theorem RelV.inj {x y : V} {u : Value} (r : RelV x u) (q : RelV y u) : x = y := Option.some.inj (r.abs.symm.trans q.abs)
theorem Vals.inj : ∀ {xs ys : List V} {us : List Value}, Vals xs us → Vals ys us → xs = ys
  | _, _, _, .nil, .nil => rfl
  | _, _, _, .cons r t, .cons r' t' => by rw [r.inj r', Vals.inj t t']
section
variable {X : Cx} {pins : List (Addr × Obj)} {σ : St} {H : Hp} {s : Shared} {a : Addr} {xs ys : List V}
theorem SqL.of {K : PySem.W.Frag} (h : H a = some (.lst xs)) : SqL K H a xs := .inl (.inl h)
theorem SqT.of {K : PySem.W.Frag} (h : H a = some (.tup xs)) : SqT K H a xs := .inl (.inl h)
theorem Inv.list (I : Inv X pins σ H s) (h : SqL X.K H a xs) : ∃ its : List Value, Vals xs its ∧ PlainL s.heap a its.toArray ∧ xs.length ≤ sizeLine := by
  rcases h with h | ⟨o, its, n, hk, hc, hd, hs, hz, r⟩
  · obtain ⟨z, its, n, r, e⟩ := h.ok I.hok
    exact ⟨its, r, ⟨_, n, e, rfl, rfl, rfl⟩, z⟩
  · refine ⟨its.toList, r, ⟨o, n, I.kIn a o hk, hc, hd, by simpa using hs⟩, ?_⟩
    have e := r.length
    simp only [Array.length_toList] at e
    omega
theorem Inv.tuple (I : Inv X pins σ H s) (h : SqT X.K H a xs) : ∃ its : List Value, Vals xs its ∧ IsTup s.heap a its.toArray ∧ xs.length ≤ sizeLine := by
  rcases h with h | ⟨o, its, n, hk, hc, hs, hz, r⟩
  · obtain ⟨z, its, r, p⟩ := h.ok I.hok
    exact ⟨its, r, p, z⟩
  · refine ⟨its.toList, r, ⟨o, I.kIn a o hk, hc, n, by simpa using hs⟩, ?_⟩
    have e := r.length
    simp only [Array.length_toList] at e
    omega
theorem Inv.list_inj (I : Inv X pins σ H s) (h : SqL X.K H a xs) (h' : SqL X.K H a ys) : xs = ys := by
  obtain ⟨its, r, ⟨o, n, e, _, _, d⟩, _⟩ := I.list h
  obtain ⟨its', r', ⟨o', n', e', _, _, d'⟩, _⟩ := I.list h'
  rw [e] at e'; cases e'
  rw [d] at d'
  injection d' with d1 _
  have : its = its' := by simpa using congrArg Array.toList d1
  subst this
  exact r.inj r'
end

/-! ### another wish about exceptions -/
abbrev Cx.wish (X : Cx) (E : Value → Shared → Prop) : Cx := { X with xe := E }
section
variable {X : Cx} {pins : List (Addr × Obj)} {σ : St} {H : Hp} {s : Shared} {E : Value → Shared → Prop}
end

/-! ### blocks and small statements -/
section
variable {X : Cx} {st : Stmt} {rest : List Stmt} {t u : TS} {e : Expr} {te : TE} {pos : Pos}
def tNext : TS := fun D σ H => D.nx σ H
def tSeq (t u : TS) : TS := fun D σ H => t { D with nx := u D } σ H
theorem pss_nil : PSs X [] tNext := fun _ _ σ H _ I h => wpAny_execs_nil ⟨σ, H, I, h⟩
theorem pss_cons (h1 : PS X st t) (h2 : PSs X rest u) : PSs X (st :: rest) (tSeq t u) := by
  intro pins s σ H D I h
  refine wpAny_execs_cons (thn (h1 pins s σ H { D with nx := u D } I h) fun f s1 q => ?_)
  cases f with
  | next =>
    obtain ⟨σ', H', I', q⟩ := q
    exact h2 pins s1 σ' H' D I' q
  | ret v => exact q
  | brk => exact q
  | cont => exact q
theorem pss_one (h1 : PS X st t) : PSs X [st] t := by
  intro pins s σ H D I h
  refine wpAny_execs_cons (thn (h1 pins s σ H D I h) fun f s1 q => ?_)
  cases f with
  | next => exact wpAny_execs_nil q
  | ret v => exact q
  | brk => exact q
  | cont => exact q
/-- in a def's body nothing is shown -/
theorem Inv.quiet {pins : List (Addr × Obj)} {σ : St} {H : Hp} {s : Shared} (I : Inv X pins σ H s) : interactive X.env = false := by simp [interactive, I.ok.kind]
/-- an expression whose value is dropped -/
def tDrop (te : TE) : TS := fun D σ H => te σ H fun _ H1 => D.nx σ H1
theorem ps_expr (he : PE X e te) (hs : swapsWith e none pos.line X.env = pure false := by rfl) : PS X (.Expr e pos) (tDrop te) := by
  intro pins s σ H D I h
  exact wpAny_Expr_any (thn (he pins s σ H _ I h) fun v s1 ⟨x, H1, I1, r1, q1⟩ => ⟨σ, H1, I1, q1⟩) I.quiet hs
def tRet (te : TE) : TS := fun D σ H => te σ H D.rt
theorem ps_ret (he : PE X e te) : PS X (.Return (some e) pos) (tRet te) := by
  intro pins s σ H D I h
  exact wpAny_Return_some (thn (he pins s σ H _ I h) fun v s1 ⟨x, H1, I1, r1, q1⟩ => ⟨x, σ, H1, I1, r1, q1⟩)
def tIfS (c : TT) (t u : TS) : TS := fun D σ H => c σ H fun b H1 => if b = true then t D σ H1 else u D σ H1
theorem ps_if {c : Expr} {a b : List Stmt} {tc : TT} (hc : PT X c tc) (ha : PSs X a t) (hb : PSs X b u) : PS X (.If c a b pos) (tIfS tc t u) := by
  intro pins s σ H D I h
  refine wpAny_If (thn (hc pins s σ H _ I h) fun d s1 ⟨H1, I1, q1⟩ => ?_)
  cases d with
  | true => exact ha pins s1 σ H1 D I1 q1
  | false => exact hb pins s1 σ H1 D I1 q1
end

/-! ### targets -/
abbrev TG := V → St → Hp → (St → Hp → Prop) → Prop
def PG (X : Cx) (target : Expr) (t : TG) : Prop :=
  ∀ (pins : List (Addr × Obj)) (s : Shared) (σ : St) (H : Hp) (v : V) (u : Value) (Q : St → Hp → Prop), Inv X pins σ H s → RelV v u → t v σ H Q →
    wpAny (model X.prog X.w) X.A (assign target X.env u) (fun _ s' => ∃ σ' H', Inv X pins σ' H' s' ∧ Q σ' H') X.xe s
/-- o[i] = v, by values -/
abbrev TSet := V → V → V → Hp → (Hp → Prop) → Prop
def PSet (X : Cx) (t : TSet) : Prop :=
  ∀ (pins : List (Addr × Obj)) (s : Shared) (σ : St) (H : Hp) (o i v : V) (ov iv u : Value) (Q : Hp → Prop), Inv X pins σ H s → RelV o ov → RelV i iv → RelV v u → t o i v H Q →
    wpAny (model X.prog X.w) X.A (setItem ov iv u) (fun _ s' => ∃ H', Inv X pins σ H' s' ∧ Q H') X.xe s
/-- a op= b, by values -/
abbrev TIp := V → V → Hp → VK → Prop
def PIp (X : Cx) (op : Operator) (t : TIp) : Prop :=
  ∀ (pins : List (Addr × Obj)) (s : Shared) (σ : St) (H : Hp) (x y : V) (v u : Value) (Q : VK), Inv X pins σ H s → RelV x v → RelV y u → t x y H Q →
    wpAny (model X.prog X.w) X.A (inplaceOp op v u) (EP X pins σ Q) X.xe s
section
variable {X : Cx} {pos : Pos}
def gName (i : Nat) : TG := fun v σ H Q => Q (σ.set i (some v)) H
theorem pg_name {i : Nat} {x : Str} (hN : X.N.Nodup) (hi : X.N[i]? = some x) (hx : Loc X.env.scope x) (hf : X.fn x = true ∨ X.env.scope.names.lookup x = some .local := by first | exact .inl rfl | exact .inr rfl | assumption) : PG X (.Name x pos) (gName i) := by
  intro pins s σ H v u Q I r h
  exact wpAny_assign_Name (store_ok I hN hi hx r (fun s' I' => ⟨_, H, I', h⟩) hf)
/-- o[i] = .. -/
def gSub (to ti : TE) (t : TSet) : TG := fun v σ H Q => to σ H fun o H1 => ti σ H1 fun i H2 => t o i v H2 fun H3 => Q σ H3
theorem pg_sub {o i : Expr} {to ti : TE} {t : TSet} (ho : PE X o to) (hi : PE X i ti) (hs : PSet X t)
    (ha : ∀ v, assign (.Subscript o i pos) X.env v = (do
      let ov ← holding [v] (eval o X.env)
      let iv ← holding [v, ov] (eval i X.env)
      standAt pos
      holding [v, ov, iv] (setItem ov iv v)
      release [v, ov, iv] []) := by intro _; rfl) : PG X (.Subscript o i pos) (gSub to ti t) := by
  intro pins s σ H v u Q I r h
  rw [ha]
  refine wpAny_bind (wpAny_holding (thn (ho pins s σ H _ I h) fun ov s1 ⟨x, H1, I1, r1, q1⟩ => ?_))
  refine wpAny_bind (wpAny_holding (thn (hi pins s1 σ H1 _ I1 q1) fun iv s2 ⟨y, H2, I2, r2, q2⟩ => ?_))
  refine wpAny_bind (wpAny_standAt (wpAny_bind (wpAny_holding (thn (hs pins s2 σ H2 x y v ov iv u _ I2 r1 r2 r q2) fun _ s3 ⟨H3, I3, q3⟩ => ?_))))
  exact wpAny_release ⟨σ, H3, I3, q3⟩
/-- target = value -/
def tAsg (te : TE) (g : TG) : TS := fun D σ H => te σ H fun x H1 => g x σ H1 D.nx
theorem ps_asg {tg e : Expr} {te : TE} {g : TG} (he : PE X e te) (hg : PG X tg g) (hs : swapsWithSole [tg] e pos.line X.env = pure false := by rfl) (hw : swappedStores [tg] e X.env = pure none := by rfl)
    (h1 : (assignEach [tg] X.env).map (·.2) = [assign tg X.env] := by rfl) : PS X (.Assign [tg] e pos) (tAsg te g) := by
  intro pins s σ H D I h
  refine wpAny_Assign_stores (thn (he pins s σ H _ I h) fun v s1 ⟨x, H1, I1, r1, q1⟩ => ?_) hs hw
  rw [h1]
  exact thn (hg pins s1 σ H1 x v _ I1 r1 q1) fun _ s2 q => q
/-- name = value -/
theorem ps_set {i : Nat} {x : Str} {e : Expr} {te : TE} {pos' : Pos} (hN : X.N.Nodup) (hi : X.N[i]? = some x) (hx : Loc X.env.scope x) (he : PE X e te) (hs : swapsWith e (some (.Name x pos')) pos.line X.env = pure false := by rfl) (hf : X.fn x = true ∨ X.env.scope.names.lookup x = some .local := by first | exact .inl rfl | exact .inr rfl | assumption) :
    PS X (.Assign [.Name x pos'] e pos) (tAsg te (gName i)) := by
  intro pins s σ H D I h
  refine wpAny_Assign_Name (thn (he pins s σ H _ I h) fun v s1 ⟨y, H1, I1, r1, q1⟩ => ?_) hs
  exact store_ok I1 hN hi hx r1 (fun s2 I2 => ⟨_, H1, I2, q1⟩) hf
/-- name op= e -/
def tAug (i : Nat) (te : TE) (ti : TIp) : TS := fun D σ H => ∃ x, σ[i]? = some (some x) ∧ te σ H fun y H1 => ti x y H1 fun z H2 => D.nx (σ.set i (some z)) H2
theorem ps_aug {i : Nat} {x : Str} {e : Expr} {te : TE} {op : Operator} {ti : TIp} {pos' : Pos} (hN : X.N.Nodup) (hi : X.N[i]? = some x) (hx : Loc X.env.scope x) (he : PE X e te) (ho : PIp X op ti) (hf : X.fn x = true ∨ X.env.scope.names.lookup x = some .local := by first | exact .inl rfl | exact .inr rfl | assumption) :
    PS X (.AugAssign (.Name x pos') op e pos) (tAug i te ti) := by
  intro pins s σ H D I h
  obtain ⟨v, e1, h⟩ := h
  obtain ⟨m, hn, hl⟩ := I.loc
  have vis : Vis X.env.scope x := by rcases hx with k | k; exact .inl k; exact .inr (.inl k)
  obtain ⟨u, r, l⟩ := hl i x v hi e1 vis
  refine wpAny_AugAssign_Name ?_
  have go : wpAny (model X.prog X.w) X.A (eval e X.env) (fun w s₂ => wpAny (model X.prog X.w) X.A (inplaceOp op u w) (fun r s₃ => wpAny (model X.prog X.w) X.A (storeName X.env x r) (fun _ => SP X pins D .next) X.xe s₃) X.xe s₂) X.xe s := by
    refine thn (he pins s σ H _ I h) fun w s1 ⟨y, H1, I1, r1, q1⟩ => ?_
    refine thn (ho pins s1 σ H1 v y u w _ I1 r r1 q1) fun z s2 ⟨zv, H2, I2, r2, q2⟩ => ?_
    exact store_ok I2 hN hi hx r2 (fun s3 I3 => ⟨_, H2, I3, q2⟩) hf
  rcases l with ⟨hk, hm⟩ | ⟨hk, c, hc, hcell⟩
  · exact wpAny_loadName_local I.ok.kind hk hn hm go
  · rcases hk with hk | hk
    · exact wpAny_loadName_cell I.ok.kind hk hc hcell go
    · rcases hx with k | k
      · have : X.env.scope.names.lookup x = some .free := hk
        rw [k] at this; cases this
      · have : X.env.scope.names.lookup x = some .free := hk
        rw [k] at this; cases this
/-- ints -/
def ipI (f : Int → Int → Int) : TIp := fun x y H Q => ∃ i j, x = .int i ∧ y = .int j ∧ Q (.int (f i j)) H
theorem ip_sub : PIp X .Sub (ipI fun i j => i - j) := by
  intro pins s σ H x y v u Q I r1 r2 h
  obtain ⟨i, j, e1, e2, q⟩ := h
  subst e1; subst e2
  obtain ⟨t, rfl⟩ := r1
  obtain ⟨t', rfl⟩ := r2
  exact isub_int ⟨.int _, H, I.tok _, ⟨_, rfl⟩, q⟩
end

/-! ### while -/
section
variable {X : Cx} {pos : Pos}
/-- the invariant W with its measure -/
def tWhile (c : TT) (tb : TS) : TS := fun D σ H => ∃ W : Nat → St → Hp → Prop, (∃ m, W m σ H) ∧ ∀ m σ H, W m σ H →
  c σ H fun b H1 => if b = true then ∃ N : St → Hp → Prop, (∀ σ' H', N σ' H' → ∃ m', m' < m ∧ W m' σ' H') ∧ tb { D with nx := N, ct := N, bk := D.nx } σ H1 else D.nx σ H1
theorem ps_while {c : Expr} {body : List Stmt} {tc : TT} {tb : TS} (hp : PassesOwn (model X.prog X.w) X.A X.env X.xe) (hc : PT X c tc) (hb : PSs X body tb) : PS X (.While c body [] pos) (tWhile tc tb) := by
  intro pins s σ H D I h
  obtain ⟨W, ⟨m0, w0⟩, turn⟩ := h
  refine wpAny_While (codeAny_whileLoop (fun n s' => ∃ σ' H', Inv X pins σ' H' s' ∧ W n σ' H') ?_ m0 ⟨σ, H, I, w0⟩)
  rintro n s1 ⟨σ1, H1, I1, w1⟩
  refine wpAny_passesOwn hp (thn (hc pins s1 σ1 H1 _ I1 (turn n σ1 H1 w1)) fun b s2 ⟨H2, I2, q2⟩ => ?_)
  cases b with
  | true =>
    obtain ⟨N, hN, q2⟩ := q2
    rw [if_pos rfl]
    refine wpAny_passesOwn hp (thn (hb pins s2 σ1 H2 _ I2 q2) fun f s3 q3 => ?_)
    cases f with
    | next =>
      obtain ⟨σ3, H3, I3, n3⟩ := q3
      obtain ⟨m', hm, w3⟩ := hN σ3 H3 n3
      exact ⟨m', hm, σ3, H3, I3, w3⟩
    | cont =>
      obtain ⟨σ3, H3, I3, n3⟩ := q3
      obtain ⟨m', hm, w3⟩ := hN σ3 H3 n3
      exact ⟨m', hm, σ3, H3, I3, w3⟩
    | brk => exact q3
    | ret v => exact q3
  | false =>
    rw [if_neg Bool.false_ne_true]
    exact wpAny_execs_nil ⟨σ1, H2, I2, q2⟩
end

/-! ### what a loop or a comprehension walks -/
/-- at turn i: it yields x (the heap may grow), or it stops -/
structure It where
  go : Nat → Hp → Prop
  yld : Nat → Hp → V → Hp → Prop
  stop : Nat → Hp → Prop
/-- the iterator's own objects may turn: they are not the frame's, not pinned, younger than the entry (or a comprehension's own) -/
def FpOk (X : Cx) (pins : List (Addr × Obj)) (H : Hp) (b : Addr) : Prop :=
  H b = none ∧ b ≠ X.env.locals ∧ b ∉ X.fs ∧ (b ∈ X.ex ∨ X.s₀.heap.objs.size ≤ b) ∧ (∀ x c, X.env.cells.lookup x = some c → c ≠ b) ∧ ∀ p ∈ X.pn ++ pins, p.1 ≠ b
theorem Inv.fpOk {X : Cx} {pins : List (Addr × Obj)} {σ : St} {H H' : Hp} {s : Shared} {b : Addr} (I : Inv X pins σ H s) (hb : s.heap.objs.size ≤ b) (hn : H' b = none) : FpOk X pins H' b := by
  refine ⟨hn, Nat.ne_of_gt (Nat.lt_of_lt_of_le I.lt hb), I.nofs hb, .inr (Nat.le_trans I.sz hb), fun x c e z => ?_, fun p hp z => ?_⟩
  · obtain ⟨v, q⟩ := I.cell x c e
    exact absurd (Nat.lt_of_lt_of_le q.lt (by rw [z]; exact hb)) (Nat.lt_irrefl _)
  · exact absurd (Nat.lt_of_lt_of_le (Heap.lt_size (I.pin p hp).1) (by rw [z]; exact hb)) (Nat.lt_irrefl _)
structure Turn (P : Program) (w : World) (K : PySem.W.Frag) (tg : Expr) (J : It) (fp : List Addr) (it : Addr) (tn : Nat → Heap → Prop) : Prop where
  mem : it ∈ fp
  obj : ∀ i h, tn i h → ∀ b ∈ fp, ∃ o, h.get? b = some o ∧ ∀ v, o.data ≠ .cell v
  keep : ∀ i h h', tn i h → (∀ b ∈ fp, ∀ o, h.get? b = some o → h'.get? b = some o) → tn i h'
  item : ∀ (X : Cx), X.prog = P → X.w = w → X.K = K → X.calm = true → ∀ (i : Nat) (pins : List (Addr × Obj)) (s : Shared) (σ : St) (H : Hp) (E : Value → Shared → Prop), Inv X pins σ H s → (∀ b ∈ fp, FpOk X pins H b) → tn i s.heap → J.go i H →
    wpAny (model P w) X.A (pyNext (.ref it)) (fun r s1 => ∃ u, r = some u ∧
      wpAny (model P w) X.A (letOwnedTupleGo tg (.ref it) u) (fun _ s2 => ∃ x H', Inv X pins σ H' s2 ∧ RelV x u ∧ J.yld i H x H' ∧ tn (i + 1) s2.heap ∧ ∀ b ∈ fp, H' b = none) E s1) E s
  done : ∀ (X : Cx), X.prog = P → X.w = w → X.K = K → X.calm = true → ∀ (i : Nat) (pins : List (Addr × Obj)) (s : Shared) (σ : St) (H : Hp) (E : Value → Shared → Prop), Inv X pins σ H s → (∀ b ∈ fp, FpOk X pins H b) → tn i s.heap → J.stop i H →
    wpAny (model P w) X.A (pyNext (.ref it)) (fun r s1 => r = none ∧ Inv X pins σ H s1) E s
  self : ∀ (A : Around) (i : Nat) (s : Shared) (Q : Value → Shared → Prop) (E : Value → Shared → Prop), tn i s.heap → Q (.ref it) s → wpAny (model P w) A (pyIter (.ref it)) Q E s
abbrev TI := St → Hp → (It → Hp → Prop) → Prop
/-- an iterator has come -/
def PIE (X : Cx) (pins : List (Addr × Obj)) (σ : St) (tg : Expr) (R : It → Hp → Prop) (itv : Value) (s2 : Shared) : Prop :=
  ∃ (it : Addr) (fp : List Addr) (tn : Nat → Heap → Prop) (J : It) (H' : Hp), itv = .ref it ∧ Inv X pins σ H' s2 ∧ Turn X.prog X.w X.K tg J fp it tn ∧ tn 0 s2.heap ∧ (∀ b ∈ fp, FpOk X pins H' b) ∧ R J H'
def PI (X : Cx) (tg iter : Expr) (wi : TI) : Prop :=
  ∀ (pins : List (Addr × Obj)) (s : Shared) (σ : St) (H : Hp) (R : It → Hp → Prop), Inv X pins σ H s → wi σ H R →
    wpAny (model X.prog X.w) X.A (eval iter X.env) (fun v s1 => wpAny (model X.prog X.w) X.A (pyIter v) (PIE X pins σ tg R) X.xe s1) X.xe s

/-- the step ahead of the store is nothing for an iterator that keeps no tuple -/
theorem go_of {M : Model} {A : Around} {E : Value → Shared → Prop} {s : Shared} {tg : Expr} {it : Addr} {u : Value} {o : Obj} {n : String} {vs : Array Value} {Q : Unit → Shared → Prop} (ho : s.heap.get? it = some o) (hc : o.cls = .type n) (hd : o.data = .fields vs)
    (hn : ["enumerate", "zip", "dict_itemiterator", "dict_reverseitemiterator", "odict_iterator", "itertools.zip_longest", "itertools.pairwise"].contains n = false) (hQ : Q () s) : wpAny M A (letOwnedTupleGo tg (.ref it) u) Q E s := by
  unfold letOwnedTupleGo
  cases tg <;> first
    | exact wpAny_pure hQ
    | (cases u <;> first
        | exact wpAny_pure hQ
        | (refine wpAny_bind (wpAny_load ho ?_)
           rw [hc, hd]
           show wpAny M A (if (["enumerate", "zip", "dict_itemiterator", "dict_reverseitemiterator", "odict_iterator", "itertools.zip_longest", "itertools.pairwise"].contains n && vs[0]? == some (rawInt _)) = true then _ else _) Q E s
           rw [if_neg (by intro h; rw [hn, Bool.false_and] at h; cases h)]
           exact wpAny_pure hQ))

/-- the list at a, as it stands at each turn (a loop may append to it) -/
def Itl (K : PySem.W.Frag) (a : Addr) : It :=
  ⟨fun i H => ∃ xs x, SqL K H a xs ∧ xs[i]? = some x, fun i H x H' => H' = H ∧ ∀ xs, SqL K H a xs → xs[i]? = some x, fun i H => ∃ xs, SqL K H a xs ∧ xs.length ≤ i⟩
/-- lo, lo + 1, .. (n of them) -/
def Itr (lo : Int) (n : Nat) : It := ⟨fun i _ => i < n, fun i H x H' => H' = H ∧ x = .int (lo + i), fun i _ => n ≤ i⟩
theorem turn_list {P : Program} {w : World} {K : PySem.W.Frag} {tg : Expr} (a it : Addr) : Turn P w K tg (Itl K a) [it] it (fun i h => h.IsListIter it a i) where
  mem := by simp
  obj := fun i h st b hb => by
    have e : b = it := by simpa using hb
    subst e
    obtain ⟨o, e, c, d⟩ := st
    exact ⟨o, e, fun v z => by rw [d] at z; cases z⟩
  keep := fun i h h' st k => st.at fun o e => k it (by simp) o e
  item := by
    intro X hP hw hK hc i pins s σ H E I hf st hg
    subst hP hw hK
    obtain ⟨xs, x, hq, hx⟩ := hg
    obtain ⟨its, rv, p, hz⟩ := I.list hq
    obtain ⟨u, hu, ru⟩ := rv.get hx
    obtain ⟨f0, f1, f2, f3, f4, f5⟩ := hf it (by simp)
    refine wpAny_pyNext_list_item st p.isList (x := u) (by simpa using hu) fun h' st' sb => ?_
    have I1 : Inv X pins σ H { s with heap := h' } := I.turned (t' := s.toks) (fun b o hb e => (sb.2 b hb).trans e) f0 f1 f3 f4 f5
    obtain ⟨o, e, c, d⟩ := id st'
    exact ⟨u, rfl, go_of (s := { s with heap := h' }) e c d (by decide) ⟨x, H, I1, ru, ⟨rfl, fun ys hy => by rw [I.list_inj hy hq]; exact hx⟩, st', fun b hb => (hf b hb).1⟩⟩
  done := by
    intro X hP hw hK hc i pins s σ H E I hf st hg
    subst hP hw hK
    obtain ⟨xs, hq, hx⟩ := hg
    obtain ⟨its, rv, p, hz⟩ := I.list hq
    obtain ⟨f0, f1, f2, f3, f4, f5⟩ := hf it (by simp)
    have hl := rv.length
    exact wpAny_pyNext_list_end (I.ok.hd hc) st p.isList (by simp; omega) fun h' eb => ⟨rfl, I.turned (t' := s.toks) (fun b o hb e => eb b o hb e) f0 f1 f3 f4 f5⟩
  self := fun _ _ _ _ _ st h => wpAny_pyIter_listiter st h
theorem turn_range {P : Program} {w : World} {K : PySem.W.Frag} {tg : Expr} (it : Addr) (lo : Int) (n : Nat) : Turn P w K tg (Itr lo n) [it] it (fun i h => IsRangeIter h it (lo + (i : Nat) * 1) ((n : Int) - (i : Nat)) 1) where
  mem := by simp
  obj := fun i h st b hb => by
    have e : b = it := by simpa using hb
    subst e
    exact ⟨_, st, fun v z => by
      have z' : Data.fields _ = Data.cell v := z
      cases z'⟩
  keep := fun i h h' st k => k it (by simp) _ st
  item := by
    intro X hP hw hK hc i pins s σ H E I hf st hg
    subst hP hw hK
    obtain ⟨f0, f1, f2, f3, f4, f5⟩ := hf it (by simp)
    have W := Walks.range (prog := X.prog) (w := X.w) (I.ok.hd hc) it lo 1 n
    refine W.item i s _ _ hg st fun v h' tk hv st' kk => ?_
    obtain ⟨t, rfl⟩ := hv
    have I1 : Inv X pins σ H { s with heap := h', toks := tk } := I.turned (fun b o hb e => kk b o (by simpa using hb) e) f0 f1 f3 f4 f5
    refine ⟨_, rfl, go_of (s := { s with heap := h', toks := tk }) (n := "range_iterator") st' rfl rfl (by decide) ⟨.int (lo + i), H, I1, ⟨t, ?_⟩, ⟨rfl, rfl⟩, st', fun b hb => (hf b hb).1⟩⟩
    rw [Int.mul_one]
  done := by
    intro X hP hw hK hc i pins s σ H E I hf st hg
    subst hP hw hK
    obtain ⟨f0, f1, f2, f3, f4, f5⟩ := hf it (by simp)
    exact wpAny_pyNext_range_end (I.ok.hd hc) st (by have : n ≤ i := hg; omega) fun h' eb => ⟨rfl, I.turned (t' := s.toks) (fun b o hb e => eb b o hb e) f0 f1 f3 f4 f5⟩
  self := fun _ _ _ _ _ st h => wpAny_pyIter_rangeiter st h
end L2

namespace L2
open PySem PySem.Spec PyProof.Rows
section
variable {X : Cx} {tg : Expr}
def iList (K : PySem.W.Frag) (tl : TE) : TI := fun σ H R => tl σ H fun x H1 => ∃ a, x = .ref a ∧ (∃ xs, SqL K H1 a xs) ∧ R (Itl K a) H1
theorem pi_list {l : Expr} {tl : TE} (hl : PE X l tl) : PI X tg l (iList X.K tl) := by
  intro pins s σ H R I h
  refine thn (hl pins s σ H _ I h) fun v s1 ⟨x, H1, I1, r1, q1⟩ => ?_
  obtain ⟨a, e, ⟨xs, hq⟩, q⟩ := q1
  subst e
  cases r1
  obtain ⟨its, rv, p, hz⟩ := I1.list hq
  refine wpAny_pyIter_list p.isList ?_
  refine ⟨s1.heap.objs.size, [s1.heap.objs.size], _, _, H1, rfl, I1.kept (t' := s1.toks) fun b o e => Heap.get?_push_of_some _ e, turn_list a _, ⟨_, Heap.get?_push_size _ rfl, rfl, rfl⟩, fun b hb => ?_, q⟩
  have e : b = s1.heap.objs.size := by simpa using hb
  subst e
  exact I1.fpOk (Nat.le_refl _) (I1.hok.fresh (Nat.le_refl _))
/-- a range object just made, walked -/
theorem range_it {pins : List (Addr × Obj)} {σ : St} {H : Hp} {s : Shared} {R : It → Hp → Prop} {E : Value → Shared → Prop} {lo hi : Int} {t u v : Tok} {tk : Nat} (I : Inv X pins σ H s) (h1 : -(2 ^ 62) ≤ lo) (h2 : lo < 2 ^ 62) (h3 : -(2 ^ 62) ≤ hi) (h4 : hi < 2 ^ 62)
    (q : R (Itr lo (hi - lo).toNat) H) : wpAny (model X.prog X.w) X.A (pyIter (.ref s.heap.objs.size)) (PIE X pins σ tg R) E { s with heap := s.heap.push { cls := .type "range", data := .fields #[.int lo t, .int hi u, .int 1 v] }, toks := tk } := by
  refine wpAny_pyIter_range (IsRange.new ..) (small_one h1 h2 h3 h4) ?_
  have I1 : Inv X pins σ H { s with heap := s.heap.push { cls := .type "range", data := .fields #[.int lo t, .int hi u, .int 1 v] }, toks := tk } := I.kept fun b o e => Heap.get?_push_of_some _ e
  refine ⟨(s.heap.push { cls := .type "range", data := .fields #[.int lo t, .int hi u, .int 1 v] }).objs.size, [(s.heap.push { cls := .type "range", data := .fields #[.int lo t, .int hi u, .int 1 v] }).objs.size], _, _, H, rfl,
    I1.kept (t' := tk) fun b o e => Heap.get?_push_of_some _ e, turn_range _ lo (hi - lo).toNat, ?_, fun b hb => ?_, q⟩
  · have e1 : lo + ((0 : Nat) : Int) * 1 = lo := by simp
    have e2 : (((hi - lo).toNat : Nat) : Int) - ((0 : Nat) : Int) = Builtin.Range.rangeSize lo hi 1 := by rw [rangeSize_one]; split <;> omega
    show IsRangeIter _ _ (lo + ((0 : Nat) : Int) * 1) ((((hi - lo).toNat : Nat) : Int) - ((0 : Nat) : Int)) 1
    rw [e1, e2]
    exact Heap.get?_push_size _ rfl
  · have e : b = (s.heap.push { cls := .type "range", data := .fields #[.int lo t, .int hi u, .int 1 v] }).objs.size := by simpa using hb
    subst e
    exact I1.fpOk (Nat.le_refl _) (I1.hok.fresh (Nat.le_refl _))
def iRng1 (ta : TA) : TI := fun σ H R => ta σ H fun vs H1 => ∃ j : Int, vs = [.int j] ∧ -(2 ^ 62) ≤ j ∧ j < 2 ^ 62 ∧ R (Itr 0 j.toNat) H1
theorem pi_range1 {a : Expr} {ta : TA} {p pos : Pos} (hg : Gl X "range") (hm : X.mg "range" = none) (ha : PA X [a] ta) (hs : starEach [a] X.env = [(false, eval a X.env)] := by rfl) : PI X tg (.Call (.Name "range" p) [a] [] pos) (iRng1 ta) := by
  intro pins s σ H R I h
  refine Call_ (ld_blt I hg hm boot_range (PyProof.Rows.callWith_type1 (thn (ha pos pins s σ H _ I h) fun us s1 ⟨vs, H1, I1, r1, q1⟩ => ?_) hs rfl))
  obtain ⟨j, e, q1, q2, q⟩ := q1
  subst e
  cases r1 with
  | cons r rr =>
    cases rr
    obtain ⟨t, rfl⟩ := r
    exact call_range_1 (range_it I1 (by omega) (by omega) q1 q2 (by simpa using q))
/-! ### for -/
/-- W: the invariant by the turn and a measure; N: what the body is to reach -/
def tFor (wi : TI) (g : TG) (tb : TS) : TS := fun D σ H => wi σ H fun J H1 => ∃ W : Nat → Nat → St → Hp → Prop, (∃ m, W 0 m σ H1) ∧ ∀ i m σ H, W i m σ H →
  (J.stop i H ∧ D.nx σ H) ∨ (J.go i H ∧ ∃ N : St → Hp → Prop, (∀ σ' H', N σ' H' → ∃ m', m' < m ∧ W (i + 1) m' σ' H') ∧ ∀ x H', J.yld i H x H' → g x σ H' fun σ2 H2 => tb { D with nx := N, ct := N, bk := D.nx } σ2 H2)
/-- the records at fp as they stand -/
def pinsAt (fp : List Addr) (h : Heap) : List (Addr × Obj) := fp.filterMap fun b => (h.get? b).map fun o => (b, o)
theorem mem_pinsAt {fp : List Addr} {h : Heap} {b : Addr} {o : Obj} (hb : b ∈ fp) (e : h.get? b = some o) : (b, o) ∈ pinsAt fp h := List.mem_filterMap.mpr ⟨b, hb, by rw [e]; rfl⟩
theorem of_pinsAt {fp : List Addr} {h : Heap} {p : Addr × Obj} (hp : p ∈ pinsAt fp h) : p.1 ∈ fp ∧ h.get? p.1 = some p.2 := by
  obtain ⟨b, hb, e⟩ := List.mem_filterMap.mp hp
  cases q : h.get? b with
  | none => rw [q] at e; cases e
  | some o =>
    rw [q] at e
    have e' : (b, o) = p := Option.some.inj e
    subst e'
    exact ⟨hb, q⟩
theorem Inv.pinned {pins : List (Addr × Obj)} {σ : St} {H : Hp} {s : Shared} {fp : List Addr} (I : Inv X pins σ H s) (hf : ∀ b ∈ fp, FpOk X pins H b) (ho : ∀ b ∈ fp, ∃ o, s.heap.get? b = some o ∧ ∀ v, o.data ≠ .cell v) : Inv X (pins ++ pinsAt fp s.heap) σ H s :=
  I.pins_of fun p hp => (List.mem_append.mp hp).elim (fun z => I.pin p (List.mem_append_right _ z)) fun z => by
    obtain ⟨hb, e⟩ := of_pinsAt z
    obtain ⟨f0, f1, f2, _⟩ := hf p.1 hb
    obtain ⟨o, e', d⟩ := ho p.1 hb
    rw [e] at e'; cases e'
    exact ⟨e, f0, f1, f2, d⟩
theorem Inv.unpinned {pins pl : List (Addr × Obj)} {σ : St} {H : Hp} {s : Shared} (I : Inv X (pins ++ pl) σ H s) : Inv X pins σ H s := I.pins_of fun p hp => I.pin p (List.mem_append_right _ (List.mem_append_left _ hp))
theorem ps_for {iter : Expr} {body : List Stmt} {wi : TI} {g : TG} {tb : TS} {pos : Pos} (hp : PassesOwn (model X.prog X.w) X.A X.env X.xe) (hc : X.calm = true) (hi : PI X tg iter wi) (hg : PG X tg g) (hb : PSs X body tb)
    (hs : ∀ x, foldedSetIterable iter X.env x = pure x := by intro _; rfl) : PS X (.For tg iter body [] pos) (tFor wi g tb) := by
  intro pins s σ H D I h
  refine wpAny_For (thn (hi pins s σ H _ I h) fun v s1 h1 => thn h1 fun itv s2 h2 => ?_) hs
  obtain ⟨it, fp, tn, J, H2, e, I2, T, st2, f2, W, ⟨m0, w0⟩, turn⟩ := h2
  subst e
  -- what stays true of the iterator's objects through the loop
  have stat : ∀ {H' : Hp}, (∀ b ∈ fp, H' b = none) → ∀ b ∈ fp, FpOk X pins H' b := fun hn b hb => ⟨hn b hb, (f2 b hb).2⟩
  refine codeAny_forLoop_any (fun n s' => ∃ i σ' H', Inv X pins σ' H' s' ∧ tn i s'.heap ∧ (∀ b ∈ fp, H' b = none) ∧ W i n σ' H') ?_ m0 ⟨0, σ, H2, I2, st2, fun b hb => (f2 b hb).1, w0⟩
  rintro n s3 ⟨i, σ3, H3, I3, st3, fr3, w3⟩
  rcases turn i n σ3 H3 w3 with ⟨stop, qn⟩ | ⟨go, N, hN, step⟩
  · refine wpAny_passesOwn hp (thn (T.done X rfl rfl rfl hc i pins s3 σ3 H3 X.xe I3 (stat fr3) st3 stop) fun r s4 ⟨hr, I4⟩ => ?_)
    subst hr
    exact wpAny_execs_nil ⟨σ3, H3, I4, qn⟩
  · refine wpAny_passesOwn hp (thn (T.item X rfl rfl rfl hc i pins s3 σ3 H3 X.xe I3 (stat fr3) st3 go) fun r s4 ⟨u, hr, h4⟩ => ?_)
    subst hr
    refine wpAny_passesOwn hp (thn h4 fun _ s5 ⟨x, H5, I5, r5, y5, st5, fr5⟩ => ?_)
    have I5' := I5.pinned (stat fr5) (T.obj _ _ st5)
    refine wpAny_passesOwn hp (thn (hg _ s5 σ3 H5 x u _ I5' r5 (step x H5 y5)) fun _ s6 ⟨σ6, H6, I6, q6⟩ => ?_)
    refine wpAny_passesOwn hp (thn (hb _ s6 σ6 H6 _ I6 q6) fun f s7 q7 => ?_)
    have again : ∀ {σ7 : St} {H7 : Hp}, Inv X (pins ++ pinsAt fp s5.heap) σ7 H7 s7 → N σ7 H7 → ∃ m, m < n ∧ ∃ i σ' H', Inv X pins σ' H' s7 ∧ tn i s7.heap ∧ (∀ b ∈ fp, H' b = none) ∧ W i m σ' H' := fun {σ7 H7} I7 n7 => by
      obtain ⟨m', hm, w7⟩ := hN σ7 H7 n7
      refine ⟨m', hm, i + 1, σ7, H7, I7.unpinned, T.keep _ _ _ st5 fun b hb o e => (I7.pin (b, o) (List.mem_append_right _ (List.mem_append_right _ (mem_pinsAt hb e)))).1, fun b hb => ?_, w7⟩
      obtain ⟨o, e, d⟩ := T.obj _ _ st5 b hb
      exact (I7.pin (b, o) (List.mem_append_right _ (List.mem_append_right _ (mem_pinsAt hb e)))).2.1
    cases f with
    | next => obtain ⟨σ7, H7, I7, n7⟩ := q7; exact again I7 n7
    | cont => obtain ⟨σ7, H7, I7, n7⟩ := q7; exact again I7 n7
    | brk => obtain ⟨σ7, H7, I7, q7⟩ := q7; exact ⟨σ7, H7, I7.unpinned, q7⟩
    | ret v => obtain ⟨x7, σ7, H7, I7, r7, q7⟩ := q7; exact ⟨x7, σ7, H7, I7.unpinned, r7, q7⟩
end

/-! ### the forms one uses -/
/-- over a list that the body leaves as it is -/
theorem for_list {K : PySem.W.Frag} {a : Addr} {xs : List V} {g : TG} {tb : TS} {D : Ends} {σ : St} {H : Hp} (Pv : Nat → St → Hp → Prop) (h0 : Pv 0 σ H) (hl : ∀ i σ H, i ≤ xs.length → Pv i σ H → SqL K H a xs)
    (hs : ∀ i x σ H, xs[i]? = some x → Pv i σ H → g x σ H fun σ2 H2 => tb { D with nx := Pv (i + 1), ct := Pv (i + 1), bk := D.nx } σ2 H2) (hd : ∀ σ H, Pv xs.length σ H → D.nx σ H) :
    ∃ W : Nat → Nat → St → Hp → Prop, (∃ m, W 0 m σ H) ∧ ∀ i m σ H, W i m σ H →
      ((Itl K a).stop i H ∧ D.nx σ H) ∨ ((Itl K a).go i H ∧ ∃ N : St → Hp → Prop, (∀ σ' H', N σ' H' → ∃ m', m' < m ∧ W (i + 1) m' σ' H') ∧ ∀ x H', (Itl K a).yld i H x H' → g x σ H' fun σ2 H2 => tb { D with nx := N, ct := N, bk := D.nx } σ2 H2) := by
  refine ⟨fun i m σ H => m = xs.length - i ∧ i ≤ xs.length ∧ Pv i σ H, ⟨xs.length, by simp, Nat.zero_le _, h0⟩, ?_⟩
  rintro i m σ H ⟨rfl, hi, p⟩
  have q := hl i σ H hi p
  by_cases hlt : i < xs.length
  · refine .inr ⟨⟨xs, xs[i], q, by simp [hlt]⟩, Pv (i + 1), fun σ' H' p' => ⟨xs.length - (i + 1), by omega, rfl, hlt, p'⟩, fun x H' y => ?_⟩
    obtain ⟨e, y⟩ := y
    subst e
    exact hs i x σ _ (y xs q) p
  · have e : i = xs.length := by omega
    subst e
    exact .inl ⟨⟨xs, q, Nat.le_refl _⟩, hd σ H p⟩
theorem for_range {lo : Int} {n : Nat} {g : TG} {tb : TS} {D : Ends} {σ : St} {H : Hp} (Pv : Nat → St → Hp → Prop) (h0 : Pv 0 σ H)
    (hs : ∀ i σ H, i < n → Pv i σ H → g (.int (lo + i)) σ H fun σ2 H2 => tb { D with nx := Pv (i + 1), ct := Pv (i + 1), bk := D.nx } σ2 H2) (hd : ∀ σ H, Pv n σ H → D.nx σ H) :
    ∃ W : Nat → Nat → St → Hp → Prop, (∃ m, W 0 m σ H) ∧ ∀ i m σ H, W i m σ H →
      ((Itr lo n).stop i H ∧ D.nx σ H) ∨ ((Itr lo n).go i H ∧ ∃ N : St → Hp → Prop, (∀ σ' H', N σ' H' → ∃ m', m' < m ∧ W (i + 1) m' σ' H') ∧ ∀ x H', (Itr lo n).yld i H x H' → g x σ H' fun σ2 H2 => tb { D with nx := N, ct := N, bk := D.nx } σ2 H2) := by
  refine ⟨fun i m σ H => m = n - i ∧ i ≤ n ∧ Pv i σ H, ⟨n, by simp, Nat.zero_le _, h0⟩, ?_⟩
  rintro i m σ H ⟨rfl, hi, p⟩
  by_cases hlt : i < n
  · refine .inr ⟨hlt, Pv (i + 1), fun σ' H' p' => ⟨n - (i + 1), by omega, rfl, hlt, p'⟩, fun x H' y => ?_⟩
    obtain ⟨e, y⟩ := y
    subst e y
    exact hs i σ _ hlt p
  · have e : i = n := by omega
    subst e
    exact .inl ⟨Nat.le_refl _, hd σ H p⟩
end L2

namespace L2
open PySem PySem.Spec PyProof.Rows

abbrev R2 := V → V → Hp → VK → Prop
/-- a two-place operation on values: f is binaryOp op, inplaceOp op or compareOp op -/
def OpR (X : Cx) (f : Value → Value → Sem Value) (r : R2) : Prop :=
  ∀ (pins : List (Addr × Obj)) (s : Shared) (σ : St) (H : Hp) (x y : V) (v u : Value) (Q : VK), Inv X pins σ H s → RelV x v → RelV y u → r x y H Q →
    wpAny (model X.prog X.w) X.A (f v u) (EP X pins σ Q) X.xe s
/-- a one-place operation -/
def UnR (X : Cx) (f : Value → Sem Value) (r : V → Hp → VK → Prop) : Prop :=
  ∀ (pins : List (Addr × Obj)) (s : Shared) (σ : St) (H : Hp) (x : V) (v : Value) (Q : VK), Inv X pins σ H s → RelV x v → r x H Q →
    wpAny (model X.prog X.w) X.A (f v) (EP X pins σ Q) X.xe s
/-- a call of a value that is known (a builtin, a type) with values -/
def CallR (X : Cx) (f : Value) (r : List V → Hp → VK → Prop) : Prop :=
  ∀ (pins : List (Addr × Obj)) (s : Shared) (σ : St) (H : Hp) (xs : List V) (us : List Value) (Q : VK), Inv X pins σ H s → Vals xs us → r xs H Q →
    wpAny (model X.prog X.w) X.A (call f us) (EP X pins σ Q) X.xe s
def tOp (r : R2) (ta tb : TE) : TE := fun σ H Q => ta σ H fun x H1 => tb σ H1 fun y H2 => r x y H2 Q
def tUn (r : V → Hp → VK → Prop) (ta : TE) : TE := fun σ H Q => ta σ H fun x H1 => r x H1 Q
/-- ints in, under C, and a value out -/
def rI (C : Int → Int → Prop) (g : Int → Int → V) : R2 := fun x y H Q => ∃ i j, x = .int i ∧ y = .int j ∧ C i j ∧ Q (g i j) H
def rI0 (g : Int → Int → V) : R2 := fun x y H Q => ∃ i j, x = .int i ∧ y = .int j ∧ Q (g i j) H
def rU (g : Int → V) : V → Hp → VK → Prop := fun x H Q => ∃ i, x = .int i ∧ Q (g i) H

section
variable {X : Cx} {a b c : Expr} {ta tb tc : TE} {pos : Pos}

theorem binT (ha : PE X a ta) (hb : PE X b tb) {pins : List (Addr × Obj)} {s : Shared} {σ : St} {H : Hp} {R : V → V → Hp → Prop} (I : Inv X pins σ H s)
    (h : ta σ H fun x H1 => tb σ H1 fun y H2 => R x y H2) {Q : Value → Shared → Prop} {f : Value → Value → Sem Value}
    (hf : ∀ v u s2 x y H2, Inv X pins σ H2 s2 → RelV x v → RelV y u → R x y H2 → wpAny (model X.prog X.w) X.A (f v u) Q X.xe s2) :
    wpAny (model X.prog X.w) X.A (eval a X.env) (fun v s₁ => wpAny (model X.prog X.w) X.A (eval b X.env) (fun u s₂ => wpAny (model X.prog X.w) X.A (f v u) Q X.xe s₂) X.xe s₁) X.xe s := by
  refine thn (ha pins s σ H _ I h) fun v s1 ⟨x, H1, I1, r1, q1⟩ => ?_
  refine thn (hb pins s1 σ H1 _ I1 q1) fun u s2 ⟨y, H2, I2, r2, q2⟩ => ?_
  exact hf v u s2 x y H2 I2 r1 r2 q2

theorem pe_op {op : Operator} {r : R2} (ho : OpR X (binaryOp op) r) (ha : PE X a ta) (hb : PE X b tb) : PE X (.BinOp a op b pos) (tOp r ta tb) := by
  intro pins s σ H Q I h
  exact wpAny_BinOp (binT ha hb I h fun v u s2 x y H2 I2 rx ry q => ho pins s2 σ H2 x y v u Q I2 rx ry q)
theorem pe_un {op : UnaryOp} {r : V → Hp → VK → Prop} (ho : UnR X (unaryOp op) r) (ha : PE X a ta) : PE X (.UnaryOp op a pos) (tUn r ta) := by
  intro pins s σ H Q I h
  exact UnaryOp_ (thn (ha pins s σ H _ I h) fun v s1 ⟨x, H1, I1, r1, q1⟩ => ho pins s1 σ H1 x v Q I1 r1 q1)
/-! ### ints -/
theorem opI {f : Value → Value → Sem Value} {C : Int → Int → Prop} {g : Int → Int → Int}
    (rule : ∀ (i j : Int) (t u : Tok) (s : Shared) (Q : Value → Shared → Prop) (E : Value → Shared → Prop), C i j → Q (.int (g i j) s.toks) { s with toks := s.toks + 1 } → wpAny (model X.prog X.w) X.A (f (.int i t) (.int j u)) Q E s) :
    OpR X f (rI C fun i j => .int (g i j)) := by
  intro pins s σ H x y v u Q I rx ry h
  obtain ⟨i, j, rfl, rfl, hc, q⟩ := h
  obtain ⟨t, rfl⟩ := rx
  obtain ⟨t', rfl⟩ := ry
  exact rule i j t t' s _ _ hc ⟨.int (g i j), H, I.tok _, ⟨_, rfl⟩, q⟩
theorem opI0 {f : Value → Value → Sem Value} {g : Int → Int → Int}
    (rule : ∀ (i j : Int) (t u : Tok) (s : Shared) (Q : Value → Shared → Prop) (E : Value → Shared → Prop), Q (.int (g i j) s.toks) { s with toks := s.toks + 1 } → wpAny (model X.prog X.w) X.A (f (.int i t) (.int j u)) Q E s) :
    OpR X f (rI0 fun i j => .int (g i j)) := by
  intro pins s σ H x y v u Q I rx ry h
  obtain ⟨i, j, rfl, rfl, q⟩ := h
  obtain ⟨t, rfl⟩ := rx
  obtain ⟨t', rfl⟩ := ry
  exact rule i j t t' s _ _ ⟨.int (g i j), H, I.tok _, ⟨_, rfl⟩, q⟩
theorem opB0 {f : Value → Value → Sem Value} {g : Int → Int → Bool}
    (rule : ∀ (i j : Int) (t u : Tok) (s : Shared) (Q : Value → Shared → Prop) (E : Value → Shared → Prop), Q (.bool (g i j)) s → wpAny (model X.prog X.w) X.A (f (.int i t) (.int j u)) Q E s) :
    OpR X f (rI0 fun i j => .bl (g i j)) := by
  intro pins s σ H x y v u Q I rx ry h
  obtain ⟨i, j, rfl, rfl, q⟩ := h
  obtain ⟨t, rfl⟩ := rx
  obtain ⟨t', rfl⟩ := ry
  exact rule i j t t' s _ _ ⟨.bl (g i j), H, I, rfl, q⟩

def CPow (i j : Int) : Prop := 0 ≤ j ∧ j ≤ 1000000 ∧ i.natAbs < 2 ^ 64
theorem op_add : OpR X (binaryOp .Add) (rI0 fun i j => .int (i + j)) := opI0 fun _ _ _ _ _ _ _ q => add_int q
theorem op_sub : OpR X (binaryOp .Sub) (rI0 fun i j => .int (i - j)) := opI0 fun _ _ _ _ _ _ _ q => sub_int q
/-- % by a positive divisor of any size -/
theorem op_mod : OpR X (binaryOp .Mod) (rI (fun _ j => 0 < j) fun i j => .int (i % j)) := opI fun i j _ _ _ _ _ hc q => by
  have h1 : (0 : Int) < j := hc
  exact mod_int' (by omega) (by rw [Int.fmod_eq_emod_of_nonneg i (by omega)]; exact q)
theorem op_pow : OpR X (binaryOp .Pow) (rI CPow fun i j => .int (i ^ j.toNat)) := opI fun _ _ _ _ _ _ _ hc q => pow_int_small hc.1 hc.2.1 hc.2.2 q
theorem unI {f : Value → Sem Value} {g : Int → Int}
    (rule : ∀ (i : Int) (t : Tok) (s : Shared) (Q : Value → Shared → Prop) (E : Value → Shared → Prop), Q (.int (g i) s.toks) { s with toks := s.toks + 1 } → wpAny (model X.prog X.w) X.A (f (.int i t)) Q E s) :
    UnR X f (rU fun i => .int (g i)) := by
  intro pins s σ H x v Q I rx h
  obtain ⟨i, rfl, q⟩ := h
  obtain ⟨t, rfl⟩ := rx
  exact rule i t s _ _ ⟨.int (g i), H, I.tok _, ⟨_, rfl⟩, q⟩
theorem un_neg : UnR X (unaryOp .USub) (rU fun i => .int (-i)) := unI fun _ _ _ _ _ q => neg_int q
/-! ### bools among ints: n += (a < b) -/
end

/-! ### comparisons -/
/-- the scalars that == tells apart as data does -/
def scal : V → V → Bool
  | .non, .non => true | .non, .int _ => true | .int _, .non => true | .non, .bl _ => true | .bl _, .non => true | .non, .str _ => true | .str _, .non => true
  | .int _, .int _ => true | .bl _, .bl _ => true | .str _, .str _ => true | .byt _, .byt _ => true
  | .int _, .str _ => true | .str _, .int _ => true | .bl _, .str _ => true | .str _, .bl _ => true
  | _, _ => false
def rEq : R2 := fun x y H Q => scal x y = true ∧ Q (.bl (decide (x = y))) H
def rNe : R2 := fun x y H Q => scal x y = true ∧ Q (.bl (!decide (x = y))) H

theorem dec_int {i j : Int} : decide (V.int i = V.int j) = (i == j) := by
  rw [Bool.eq_iff_iff]
  simp
theorem dec_bl {i j : Bool} : decide (V.bl i = V.bl j) = (i == j) := by
  rw [Bool.eq_iff_iff]
  simp
theorem dec_str {i j : Str} : decide (V.str i = V.str j) = (i == j) := by
  rw [Bool.eq_iff_iff]
  simp
theorem dec_byt {i j : Array UInt8} : decide (V.byt i = V.byt j) = (i.toList == j.toList) := by
  rw [Bool.eq_iff_iff]
  cases i
  cases j
  simp

section
variable {X : Cx} {a b c : Expr} {ta tb tc : TE} {pos : Pos}
theorem fin_bl {pins : List (Addr × Obj)} {σ : St} {H : Hp} {s : Shared} {Q : VK} {k k' : Bool} (I : Inv X pins σ H s) (q : Q (.bl k) H) (e : k = k') : EP X pins σ Q (.bool k') s := by
  subst e
  exact ⟨.bl k, H, I, rfl, q⟩
theorem op_eq : OpR X (compareOp .Eq) rEq := by
  intro pins s σ H x y v u Q I rx ry h
  obtain ⟨hs, q⟩ := h
  cases x with
  | non =>
    cases rx
    cases y with
    | non => cases ry; exact PySem.EqNone.eq_none_none (fin_bl I q (by simp))
    | bl j => cases ry; exact PySem.EqNone.eq_none_bool (fin_bl I q (by simp))
    | int j => obtain ⟨t', rfl⟩ := ry; exact PySem.EqNone.eq_none_int (fin_bl I q (by simp))
    | str j => obtain ⟨t', rfl⟩ := ry; exact PySem.EqNone.eq_none_str (fin_bl I q (by simp))
    | _ => exact absurd (show false = true from hs) Bool.false_ne_true
  | bl i =>
    cases rx
    cases y with
    | non => cases ry; exact PySem.EqNone.eq_bool_none (fin_bl I q (by simp))
    | bl j => cases ry; exact eq_bool (fin_bl I q dec_bl)
    | str j => obtain ⟨t', rfl⟩ := ry; exact PySem.EqMixed.eq_bool_str (fin_bl I q (by simp))
    | _ => exact absurd (show false = true from hs) Bool.false_ne_true
  | int i =>
    obtain ⟨t, rfl⟩ := rx
    cases y with
    | non => cases ry; exact PySem.EqNone.eq_int_none (fin_bl I q (by simp))
    | int j => obtain ⟨t', rfl⟩ := ry; exact eq_int (fin_bl I q dec_int)
    | str j => obtain ⟨t', rfl⟩ := ry; exact PySem.EqMixed.eq_int_str (fin_bl I q (by simp))
    | _ => exact absurd (show false = true from hs) Bool.false_ne_true
  | str i =>
    obtain ⟨t, rfl⟩ := rx
    cases y with
    | non => cases ry; exact PySem.EqNone.eq_str_none (fin_bl I q (by simp))
    | bl j => cases ry; exact PySem.EqMixed.eq_str_bool (fin_bl I q (by simp))
    | int j => obtain ⟨t', rfl⟩ := ry; exact PySem.EqMixed.eq_str_int (fin_bl I q (by simp))
    | str j => obtain ⟨t', rfl⟩ := ry; exact eq_str (fin_bl I q dec_str)
    | _ => exact absurd (show false = true from hs) Bool.false_ne_true
  | byt i =>
    obtain ⟨t, rfl⟩ := rx
    cases y with
    | byt j => obtain ⟨t', rfl⟩ := ry; exact PySem.W.eq_bytes (fin_bl I q dec_byt)
    | _ => exact absurd (show false = true from hs) Bool.false_ne_true
  | _ => cases y <;> exact absurd (show false = true from hs) Bool.false_ne_true
theorem op_ne : OpR X (compareOp .NotEq) rNe := by
  intro pins s σ H x y v u Q I rx ry h
  obtain ⟨hs, q⟩ := h
  cases x with
  | non =>
    cases rx
    cases y with
    | non => cases ry; exact PySem.EqNone.ne_none_none (fin_bl I q (by simp))
    | bl j => cases ry; exact PySem.EqNone.ne_none_bool (fin_bl I q (by simp))
    | int j => obtain ⟨t', rfl⟩ := ry; exact PySem.EqNone.ne_none_int (fin_bl I q (by simp))
    | str j => obtain ⟨t', rfl⟩ := ry; exact PySem.EqNone.ne_none_str (fin_bl I q (by simp))
    | _ => exact absurd (show false = true from hs) Bool.false_ne_true
  | bl i =>
    cases rx
    cases y with
    | non => cases ry; exact PySem.EqNone.ne_bool_none (fin_bl I q (by simp))
    | bl j => cases ry; exact ne_bool (fin_bl I q (congrArg not dec_bl))
    | str j => obtain ⟨t', rfl⟩ := ry; exact PySem.EqMixed.ne_bool_str (fin_bl I q (by simp))
    | _ => exact absurd (show false = true from hs) Bool.false_ne_true
  | int i =>
    obtain ⟨t, rfl⟩ := rx
    cases y with
    | non => cases ry; exact PySem.EqNone.ne_int_none (fin_bl I q (by simp))
    | int j => obtain ⟨t', rfl⟩ := ry; exact ne_int (fin_bl I q (congrArg not dec_int))
    | str j => obtain ⟨t', rfl⟩ := ry; exact PySem.EqMixed.ne_int_str (fin_bl I q (by simp))
    | _ => exact absurd (show false = true from hs) Bool.false_ne_true
  | str i =>
    obtain ⟨t, rfl⟩ := rx
    cases y with
    | non => cases ry; exact PySem.EqNone.ne_str_none (fin_bl I q (by simp))
    | bl j => cases ry; exact PySem.EqMixed.ne_str_bool (fin_bl I q (by simp))
    | int j => obtain ⟨t', rfl⟩ := ry; exact PySem.EqMixed.ne_str_int (fin_bl I q (by simp))
    | str j => obtain ⟨t', rfl⟩ := ry; exact ne_str (fin_bl I q (congrArg not dec_str))
    | _ => exact absurd (show false = true from hs) Bool.false_ne_true
  | byt i =>
    obtain ⟨t, rfl⟩ := rx
    cases y with
    | byt j => obtain ⟨t', rfl⟩ := ry; exact PySem.W.ne_bytes (fin_bl I q (congrArg not dec_byt))
    | _ => exact absurd (show false = true from hs) Bool.false_ne_true
  | _ => cases y <;> exact absurd (show false = true from hs) Bool.false_ne_true

theorem op_lt : OpR X (compareOp .Lt) (rI0 fun i j => .bl (decide (i < j))) := opB0 fun _ _ _ _ _ _ _ q => lt_int q
theorem op_gt : OpR X (compareOp .Gt) (rI0 fun i j => .bl (decide (j < i))) := opB0 fun _ _ _ _ _ _ _ q => gt_int q
theorem op_ge : OpR X (compareOp .GtE) (rI0 fun i j => .bl (decide (j ≤ i))) := opB0 fun _ _ _ _ _ _ _ q => ge_int q
theorem nomark (b : Expr) {op : CmpOp} (h : op ≠ .In := by decide) (h2 : op ≠ .NotIn := by decide) : behindInMarks op b = false := by
  have e1 : (op == CmpOp.In) = false := by cases op <;> first | rfl | exact absurd rfl h
  have e2 : (op == CmpOp.NotIn) = false := by cases op <;> first | rfl | exact absurd rfl h2
  cases b <;> simp [behindInMarks, e1, e2]
/-- a reading of a value as a test -/
def tTest (t : TE) : TT := fun σ H Q => t σ H fun x H' => ∃ k, x = .bl k ∧ Q k H'
theorem pt_cmpR {op : CmpOp} {r : R2} (ho : OpR X (compareOp op) r) (ha : PE X a ta) (hb : PE X b tb) (hm : behindInMarks op b = false) : PT X (.Compare a [op] [b] pos) (tTest (tOp r ta tb)) := by
  intro pins s σ H Q I h
  refine wpAny_isTrue_Compare1 (thn (ha pins s σ H _ I h) fun v s1 ⟨x, H1, I1, r1, q1⟩ => thn (hb pins s1 σ H1 _ I1 q1) fun u s2 ⟨y, H2, I2, r2, q2⟩ =>
    thn (ho pins s2 σ H2 x y v u _ I2 r1 r2 q2) fun c s3 ⟨z, H3, I3, r3, k, e, q3⟩ => ?_) hm
  subst e
  cases r3
  exact wpAny_truthy_bool ⟨H3, I3, q3⟩
/-! ### truth -/
theorem line63 : (sizeLine : Nat) < 2 ^ 63 := by rw [sizeLine_eq]; decide
/-! ### strs and bytes -/
/-! ### scalar builtins, by CallR -/
theorem vals1 {x : V} {us : List Value} (r : Vals [x] us) : ∃ u, us = [u] ∧ RelV x u := by
  cases r with
  | cons r1 r2 => cases r2; exact ⟨_, rfl, r1⟩
theorem vals2 {x y : V} {us : List Value} (r : Vals [x, y] us) : ∃ u w', us = [u, w'] ∧ RelV x u ∧ RelV y w' := by
  cases r with
  | cons r1 r2 =>
    cases r2 with
    | cons r3 r4 => cases r4; exact ⟨_, _, rfl, r1, r3⟩
theorem call_abs : CallR X (.builtin "abs") (fun xs H Q => ∃ i, xs = [.int i] ∧ Q (.int (if i < 0 then -i else i)) H) := by
  intro pins s σ H xs us Q I r h
  obtain ⟨i, rfl, q⟩ := h
  obtain ⟨u, rfl, t, rfl⟩ := vals1 r
  exact call_abs_int fun u tk => ⟨.int (if i < 0 then -i else i), H, I.tok _, ⟨_, rfl⟩, q⟩
end
end L2

namespace L2
open PySem PySem.Spec PyProof.Rows

/-! ### an instance, its attributes a map -/
structure ObjM (h : Heap) (x dx C : Addr) (mA : Str → Option Value) : Prop where
  obj : h.get? x = some (PySem.W.instObj C dx)
  ns : h.Ns1 dx mA
  ne : dx ≠ x

theorem lookIn_ns {h : Heap} {dx : Addr} {mA : Str → Option Value} (n : h.Ns1 dx mA) : ∃ od, h.get? dx = some od ∧ ∀ name, PySem.W.lookIn name od = some (mA name) := by
  obtain ⟨o, es, ep, ho, hd, hk, _, hm⟩ := n
  refine ⟨o, ho, fun name => ?_⟩
  have e := hm name
  unfold nsFind findBy at e
  rw [← Array.find?_toList] at e
  unfold PySem.W.lookIn
  rw [hd]
  dsimp only
  split
  · rename_i y q
    rw [q] at e
    exact congrArg some e
  · rename_i q
    rw [q] at e
    have a : es.toList.any (·.refKey) = false := by
      rw [List.any_eq_false]
      intro y hy
      obtain ⟨z, t, hkey⟩ := hk y (Array.mem_toList_iff.mp hy)
      simp [DictEntry.refKey, hkey]
    have a' : ¬ es.toList.any (·.refKey) = true := by rw [a]; exact Bool.false_ne_true
    rw [if_neg a']
    exact congrArg some e

theorem ObjM.look {h : Heap} {x dx C : Addr} {mA : Str → Option Value} (I : ObjM h x dx C mA) : ∃ od, PySem.W.InstAt h x (PySem.W.instObj C dx) C (some od) ∧ ∀ name, PySem.W.lookIn name od = some (mA name) :=
  let ⟨od, ho, hl⟩ := lookIn_ns I.ns
  ⟨od, ⟨I.obj, rfl, rfl, ho⟩, hl⟩

section
variable {prog : Program} {w : World} {A : Around} {E : Value → Shared → Prop} {s : Shared} {K : PySem.W.Frag} {x dx C f : Addr} {mA : Str → Option Value} {name : Str} {v : Value}

end

/-! ### the attributes as a list of pairs -/
section
variable {P : Program} {w : World} {H H' : Hp} {h h' : Heap} {a C dx : Addr} {fs fs' : List (Str × V)}
theorem ins_get (hok : HOk P w H h) (e : H a = some (.ins C dx fs)) : ∃ mA, ObjM h a dx C mA ∧ (∀ f, RelO (fs.lookup f) (mA f)) ∧ PySem.Within mA (fs.map (·.1)) ∧ fs.length ≤ 1000 ∧ H dx = some (.own a) := by
  obtain ⟨d, z, ne, ob, mA, n, r, q⟩ := (show ObjOk P w H h a (.ins C dx fs) from hok a _ e)
  exact ⟨mA, ⟨ob, n, ne⟩, r, q, z, d⟩
end

/-! ### what of the text a class must have -/
structure Cls (K : PySem.W.Frag) (C : Addr) : Prop where
  pg : PySem.W.plainGet K C Str.empty = true
  hd : PySem.W.hasDictIn K C = true
  po : PySem.W.plainOver K C = true
  sa : PySem.W.findIn K (.ref C) "__setattr__" = some (some (.builtin "object.__setattr__"))
theorem Cls.get {K : PySem.W.Frag} {C : Addr} (c : Cls K C) (f : Str) : PySem.W.plainGet K C f = true := c.pg
/-- a constant of the class -/
structure Con (K : PySem.W.Frag) (C : Addr) (f : Str) (v : V) (u : Value) : Prop where
  at_ : PySem.W.findIn K (.ref C) f = some (some u)
  rel : RelV v u
  get : PySem.W.specialIn K u "__get__" = some none
  cp : PySem.W.copiedNames.contains f = false
/-- a method: a plain def of the class or of one above it -/
structure Meth (K : PySem.W.Frag) (C : Addr) (m : Str) (f : Addr) : Prop where
  at_ : PySem.W.findIn K (.ref C) m = some (some (.ref f))
  fn : PySem.W.isFn K (.ref f) = true
  kp : PySem.W.keepIn K (.ref f) = true

section
variable {X : Cx} {pins : List (Addr × Obj)} {σ : St} {H : Hp} {s : Shared} {a C dx : Addr} {fs : List (Str × V)} {f : Str} {v : V} {A : Around} {E : Value → Shared → Prop}

end

/-! ### readings and rules -/
section
variable {X : Cx} {o e value : Expr} {f : Str} {pos pos' tpos : Pos} {ta tv : TE}
end

/-! ### isinstance -/
section
variable {X : Cx} {pins : List (Addr × Obj)} {σ : St} {H : Hp} {s : Shared} {A : Around} {E : Value → Shared → Prop} {Q : Value → Shared → Prop} {c : Value} {b : Bool}
/-- the type of a value, as the fragment's deciders take it; for an instance its class -/
inductive TyOf (K : PySem.W.Frag) (H : Hp) : V → Value → Prop where
  | non : TyOf K H .non (.type "NoneType")
  | bl (x : Bool) : TyOf K H (.bl x) (.type "bool")
  | int (i : Int) : TyOf K H (.int i) (.type "int")
  | str (x : Str) : TyOf K H (.str x) (.type "str")
  | flt (x : UInt64) : TyOf K H (.flt x) (.type "float")
  | lst {a : Addr} {xs : List V} (e : H a = some (.lst xs)) : TyOf K H (.ref a) (.type "list")
  | frz {a : Addr} {o : Obj} {xs : List V} (e : H a = some (.frz o (.lst xs))) : TyOf K H (.ref a) (.type "list")
  | tup {a : Addr} {xs : List V} (e : H a = some (.tup xs)) : TyOf K H (.ref a) (.type "tuple")
  | dK {a : Addr} {kvs : List (Key × V)} (e : H a = some (.dK kvs)) : TyOf K H (.ref a) (.type "dict")
  | dT {a : Addr} {kvs : List (List Key × V)} (e : H a = some (.dT kvs)) : TyOf K H (.ref a) (.type "dict")
  | ins {a C dx : Addr} {fs : List (Str × V)} (e : H a = some (.ins C dx fs)) (cl : Cls K C) (ha : PySem.W.findIn K (.ref C) "__class__" = some (some (.builtin "object.__class__")))
      (hn : PySem.W.specialIn K (.builtin "object.__class__") "__get__" = some (some (.builtin "getset_descriptor.__get__"))) (htk : PySem.W.takesIn K (.builtin "object.__class__") = some true)
      (hm : PySem.W.mroIn K C (.type "object") = some true) : TyOf K H (.ref a) (.ref C)
/-- isinstance(x, c) for one class c, a built-in or an own one: kitOne's answer -/
theorem isinst_ok {x : V} {u t : Value} (I : Inv X pins σ H s) (rx : RelV x u) (ty : TyOf X.K H x t) (e : PySem.W.kitOne X.K t c = some b) (h : ∀ tk, Q (.bool b) { s with toks := tk }) :
    wpAny (model X.prog X.w) A (call (.builtin "isinstance") [u, c]) Q E s := by
  cases ty with
  | non => cases (show u = Value.none from rx); exact PySem.W.kia_one PySem.W.kitx_none I.kIn True.intro e (fun z => nomatch z) h
  | bl y => cases (show u = Value.bool y from rx); exact PySem.W.kia_one PySem.W.kitx_bool I.kIn True.intro e (fun z => nomatch z) h
  | int i => obtain ⟨t, q⟩ := (show ∃ t, u = Value.int i t from rx); cases q; exact PySem.W.kia_one PySem.W.kitx_int I.kIn True.intro e (fun z => nomatch z) h
  | str y => obtain ⟨t, q⟩ := (show ∃ t, u = Value.str y t from rx); cases q; exact PySem.W.kia_one PySem.W.kitx_str I.kIn True.intro e (fun z => nomatch z) h
  | flt y => obtain ⟨t, q⟩ := (show ∃ t, u = Value.float y t from rx); cases q; exact PySem.W.kia_one PySem.W.kitx_float I.kIn True.intro e (fun z => nomatch z) h
  | @lst a xs ea =>
    cases (show u = Value.ref a from rx)
    obtain ⟨_, _, n, _, h1⟩ := (show ObjOk X.prog X.w H s.heap a (.lst xs) from I.hok a _ ea)
    exact PySem.W.kia_one PySem.W.kitx_list I.kIn ⟨_, h1, rfl⟩ e (fun z => nomatch z) h
  | @frz a ob xs ea =>
    cases (show u = Value.ref a from rx)
    obtain ⟨_, _, _, n, _, h1⟩ := (show ObjOk X.prog X.w H s.heap a (.frz ob (.lst xs)) from I.hok a _ ea)
    exact PySem.W.kia_one PySem.W.kitx_list I.kIn ⟨_, h1, rfl⟩ e (fun z => nomatch z) h
  | @tup a xs ea =>
    cases (show u = Value.ref a from rx)
    obtain ⟨_, _, _, p⟩ := (show ObjOk X.prog X.w H s.heap a (.tup xs) from I.hok a _ ea)
    obtain ⟨o, h1, h2, _⟩ := p
    exact PySem.W.kia_one PySem.W.kitx_tuple I.kIn ⟨o, h1, h2⟩ e (fun z => nomatch z) h
  | @dK a kvs ea =>
    cases (show u = Value.ref a from rx)
    obtain ⟨_, _, vs, _, p⟩ := (show ObjOk X.prog X.w H s.heap a (.dK kvs) from I.hok a _ ea)
    obtain ⟨o, es, ep, h1, h2, _⟩ := p
    exact PySem.W.kia_one PySem.W.kitx_dict I.kIn ⟨o, h1, h2.1⟩ e (fun z => nomatch z) h
  | @dT a kvs ea =>
    cases (show u = Value.ref a from rx)
    obtain ⟨_, _, xs, _, o, es, ep, h1, h2, _⟩ := (show ObjOk X.prog X.w H s.heap a (.dT kvs) from I.hok a _ ea)
    exact PySem.W.kia_one PySem.W.kitx_dict I.kIn ⟨o, h1, h2.1⟩ e (fun z => nomatch z) h
  | @ins a C dx fs ea cl ha hn htk hm =>
    cases (show u = Value.ref a from rx)
    obtain ⟨mA, O, _⟩ := ins_get I.hok ea
    obtain ⟨od, J, _⟩ := O.look
    exact PySem.W.kia_one (PySem.W.kitx_own (cl.get _) cl.hd ha hn htk hm) I.kIn J e (fun z => nomatch z) h
end
end L2

namespace L2
open PySem PySem.Spec PyProof.Rows

/-! ### room -/
structure Room (k : Nat) (A : Around) : Prop where
  hd : A.handled = none
  dp : A.depth + 3 * k + 5 < recursionLimit
  un : A.units + 16 * k + 200 < cLine
theorem Room.mono {j k : Nat} {A : Around} (r : Room k A) (h : j ≤ k) : Room j A := ⟨r.hd, by have := r.dp; omega, by have := r.un; omega⟩
theorem Room.deeper {k : Nat} {A : Around} (r : Room (k + 1) A) (env : Env) : Room k (A.deeper env) :=
  ⟨r.hd, by have := r.dp; show A.depth + 1 + 3 * k + 5 < _; omega, by have := r.un; show A.units + 3 + 16 * k + 200 < _; omega⟩
theorem Room.in1 {k : Nat} {A : Around} (r : Room (k + 1) A) : Room k A.in1 :=
  ⟨r.hd, by have := r.dp; show A.depth + 3 * k + 5 < _; omega, by have := r.un; show A.units + 1 + 16 * k + 200 < _; omega⟩
theorem Room.depth {k : Nat} {A : Around} (r : Room k A) : A.depth < recursionLimit := by have := r.dp; omega
theorem Room.units {k : Nat} {A : Around} (r : Room k A) : A.units + 64 < cLine := by have := r.un; omega
/-! ### argument lists and displays -/
def tNil : TA := fun _ H Q => Q [] H
def tCons (ta : TE) (tr : TA) : TA := fun σ H Q => ta σ H fun x H1 => tr σ H1 fun xs H2 => Q (x :: xs) H2
section
variable {X : Cx} {e : Expr} {es : List Expr} {te : TE} {t : TA} {pos : Pos}
theorem pa_nil : PA X [] tNil := fun _ _ _ _ H Q I h => Calls.spliced_nil ⟨[], H, I, .nil, h⟩
theorem pa_cons (ha : PE X e te) (hr : PA X es t) (hs : starEach (e :: es) X.env = (false, eval e X.env) :: starEach es X.env := by rfl) : PA X (e :: es) (tCons te t) := by
  intro pos pins s σ H Q I h
  rw [hs]
  show wpAny _ _ (spliced ((false, eval e X.env) :: backTo pos (starEach es X.env))) _ _ s
  refine Calls.spliced_cons (thn (ha pins s σ H _ I h) fun u s1 ⟨x, H1, I1, r1, q1⟩ => ?_)
  exact thn (hr pos pins s1 σ H1 _ I1 q1) fun us s2 ⟨xs, H2, I2, r2, q2⟩ => ⟨x :: xs, H2, I2, .cons r1 r2, q2⟩

/-- a tuple, a list of written items -/
def tTup (t : TA) : TE := fun σ H Q => t σ H fun xs H1 => xs.length ≤ sizeLine ∧ ∀ p, H1 p = none → Q (.ref p) (upd H1 p (.tup xs))
def tLst (t : TA) : TE := fun σ H Q => t σ H fun xs H1 => xs.length ≤ sizeLine ∧ ∀ p, H1 p = none → Q (.ref p) (upd H1 p (.lst xs))
theorem pe_tup {x1} (h : PA X es t) : PE X (.Tuple es x1 pos) (tTup t) := by
  intro pins s σ H Q I hq
  refine wpAny_Tuple_spliced (thn (h pos pins s σ H _ I hq) fun us s1 ⟨xs, H1, I1, r, z, q⟩ => ⟨by rw [← r.length]; exact z, ?_⟩)
  have hf : H1 s1.heap.objs.size = none := I1.hok.fresh (Nat.le_refl _)
  refine ⟨.ref s1.heap.objs.size, upd H1 s1.heap.objs.size (.tup xs), I1.laid (t' := s1.toks) (fun b u e => Heap.get?_push_of_some _ e) (Nat.le_refl _) ?_, rfl, q _ hf⟩
  exact ⟨z, us, r, ⟨_, Heap.get?_push_size _ rfl, rfl, _, rfl⟩⟩
theorem pe_lst (h : PA X es t) : PE X (.List es pos) (tLst t) := by
  intro pins s σ H Q I hq
  refine wpAny_List_spliced (thn (h pos pins s σ H _ I hq) fun us s1 ⟨xs, H1, I1, r, z, q⟩ => ⟨by rw [← r.length]; exact z, ?_⟩)
  have hf : H1 s1.heap.objs.size = none := I1.hok.fresh (Nat.le_refl _)
  refine ⟨.ref s1.heap.objs.size, upd H1 s1.heap.objs.size (.lst xs), I1.laid (t' := s1.toks) (fun b u e => Heap.get?_push_of_some _ e) (Nat.le_refl _) ?_, rfl, q _ hf⟩
  exact ⟨z, us, 0, r, Heap.get?_push_size _ rfl⟩
end

/-! ### what a def promises -/
/-- a def's promise: the bound arguments in the parameters' order, the heap, the wanted end, the wanted exception -/
abbrev Sp := List V → Hp → VK → XK → Prop
/-- how an exception lies behind a call (file 08 gives it): the callers' frames, abstract heap and state ahead of the call, the wish, the exception, the state -/
abbrev CXT := List Env → Hp → Shared → XK → Value → Shared → Prop

/-- the state at a call -/
structure Env0 (P : Program) (w : World) (K : PySem.W.Frag) (mg : Str → Option Value) (base : Heap) (A : Around) (outer : List Env) (s : Shared) (H : Hp) : Prop where
  frames : A.frames = some outer
  mod : Mod K mg base
  bs : ∀ b o, base.get? b = some o → s.heap.get? b = some o ∧ H b = none
  bsz : base.objs.size ≤ s.heap.objs.size
  funs : s.heap.FunFrames base outer
  frf : ∀ b ∈ frs outer, H b = none
  hok : HOk P w H s.heap
  bare : AllBare s.gens
/-- a call's end -/
def CE (outer : List Env) (P : Program) (w : World) (H : Hp) (s : Shared) (Q : VK) (u : Value) (s' : Shared) : Prop :=
  ∃ v H', s'.os = s.os ∧ AllBare s'.gens ∧ Un (frs outer) [] H H' s.heap s'.heap ∧ HOk P w H' s'.heap ∧ RelV v u ∧ Q v H'
def CR (CX : CXT) (outer : List Env) (P : Program) (w : World) (H : Hp) (s : Shared) (Q : VK) (E : XK) (r : Result) (s' : Shared) : Prop :=
  match r with
  | .ok (.ret u) => CE outer P w H s Q u s'
  | .ok _ => False
  | .error e => CX outer H s E e s'
structure FnOk (P : Program) (w : World) (K : PySem.W.Frag) (mg : Str → Option Value) (base : Heap) (CX : CXT) (k : Nat) (f : Addr) (fd : FuncData) (ps : List Str) (sp : Sp) : Prop where
  len : ∀ vs H Q E, sp vs H Q E → vs.length = ps.length
  run : ∀ (A : Around) (outer : List Env) (s : Shared) (H : Hp) (args : Args) (us : List Value) (vs : List V) (Q : VK) (E : XK), Room k A → Env0 P w K mg base A outer s H → BindsTo s fd args (ps.zip us) → Vals vs us → sp vs H Q E →
    codeAny (model P w) A (.call (.ref f) args) (CR CX outer P w H s Q E) s
theorem Env0.in1 {P : Program} {w : World} {K : PySem.W.Frag} {mg : Str → Option Value} {base : Heap} {A : Around} {outer : List Env} {s : Shared} {H : Hp} (e : Env0 P w K mg base A outer s H) :
    Env0 P w K mg base A.in1 outer s H := ⟨e.frames, e.mod, e.bs, e.bsz, e.funs, e.frf, e.hok, e.bare⟩

section
variable {X : Cx} {pins : List (Addr × Obj)} {σ : St} {H : Hp} {s s' : Shared}
/-- from a body: what a callee wants -/
theorem Inv.env0 (I : Inv X pins σ H s) : Env0 X.prog X.w X.K X.mg X.base X.A X.stack s H :=
  ⟨I.ok.frames, I.ok.mod, I.bs, Nat.le_trans I.ok.bsz I.sz, I.stack, I.stkFree, I.hok, I.bare⟩
/-- behind a call -/
theorem Inv.after {Q : VK} {u : Value} (I : Inv X pins σ H s) (h : CE X.stack X.prog X.w H s Q u s') : EP X pins σ Q u s' := by
  obtain ⟨v, H', os, bare, un, hok, r, q⟩ := h
  obtain ⟨hh, g, d, t, os'⟩ := s'
  obtain rfl : os' = s.os := os
  exact ⟨v, H', I.call (h' := hh) (g' := g) (d' := d) (t' := t) (ch := []) un hok bare (fun b z => absurd z (by simp)), r, q⟩
end

/-! ### calls -/
/-- how the parameters are bound: us the positional arguments, kw the keywords' values by name, ds the defaults that fill up -/
def Binds (K : PySem.W.Frag) (fd : FuncData) (ps : List Str) (ds : List Value) : Prop :=
  ∀ (s : Shared) (us : List Value), K.In s.heap → (us ++ ds).length = ps.length → BindsTo s fd ⟨us, []⟩ (ps.zip (us ++ ds))
/-- every parameter is given -/
theorem Binds.all {K : PySem.W.Frag} {fd : FuncData} {ps : List Str} (h : ∀ us : List Value, us.length = ps.length → bindArgs fd ⟨us, []⟩ = pure (ps.zip us)) : Binds K fd ps [] := fun s us _ hl => by
  rw [List.append_nil] at hl ⊢
  exact .of_eq (h us hl)

section
variable {X : Cx} {CX : CXT} {k : Nat} {f C : Addr} {fd : FuncData} {ps : List Str} {sp : Sp} {dvs : List V} {ds : List Value} {E : XK} {x m : Str} {p pos apos : Pos} {e o : Expr} {es : List Expr} {ta : TE} {t : TA}

/-- what a class must have to be made -/
structure Mk (K : PySem.W.Frag) (C f : Addr) : Prop where
  makes : PySem.W.makesIn K C = true
  init : PySem.W.findIn K (.ref C) "__init__" = some (some (.ref f))
  fn : PySem.W.isFn K (.ref f) = true
  kp : PySem.W.keepIn K (.ref C) = true

end

/-! ### keywords -/
/-- the values of the keywords, from the left -/
def PK (X : Cx) (kws : List Keyword) (t : TA) : Prop :=
  ∀ (pos : Pos) (pins : List (Addr × Obj)) (s : Shared) (σ : St) (H : Hp) (Q : List V → Hp → Prop), Inv X pins σ H s → t σ H Q → wpAny (model X.prog X.w) X.A (evalAll ((backToKw pos (keywordEach kws X.env)).map (·.2))) (AP X pins σ Q) X.xe s
section
variable {X : Cx} {CX : CXT} {k : Nat} {f C : Addr} {fd : FuncData} {ps ks : List Str} {sp : Sp} {E : XK} {x m : Str} {p pos apos kpos : Pos} {e o : Expr} {es : List Expr} {kws : List Keyword} {te ta : TE} {t tk : TA} {nm : Option Str}
theorem pk_nil : PK X [] tNil := fun _ _ _ _ H Q I h => wpAny_evalAll_nil ⟨[], H, I, .nil, h⟩
theorem pk_cons (ha : PE X e te) (hr : PK X kws t) : PK X (⟨nm, e, kpos⟩ :: kws) (tCons te t) := by
  intro pos pins s σ H Q I h
  show wpAny _ _ (evalAll ((do let v ← eval e X.env; standAt pos; pure v) :: (backToKw pos (keywordEach kws X.env)).map (·.2))) _ _ s
  refine wpAny_evalAll_cons (wpAny_bind (thn (ha pins s σ H _ I h) fun u s1 ⟨x, H1, I1, r1, q1⟩ => wpAny_bind (wpAny_standAt (wpAny_pure ?_))))
  exact thn (hr pos pins s1 σ H1 _ I1 q1) fun us s2 ⟨xs, H2, I2, r2, q2⟩ => ⟨x :: xs, H2, I2, .cons r1 r2, q2⟩

/-- how a call with keywords binds: g puts the positional values us and the keywords' values ws (names ks) in the parameters' order, defaults among them -/
structure KBinds (K : PySem.W.Frag) (fd : FuncData) (ps ks : List Str) (g : List Value → List Value → List Value) (gV : List V → List V → List V) : Prop where
  to : ∀ (s : Shared) (us ws : List Value), K.In s.heap → (g us ws).length = ps.length → BindsTo s fd ⟨us, ks.zip ws⟩ (ps.zip (g us ws))
  rel : ∀ {vs : List V} {us : List Value} {zs : List V} {ws : List Value}, Vals vs us → Vals zs ws → Vals (gV vs zs) (g us ws)
variable {g : List Value → List Value → List Value} {gV : List V → List V → List V}
end

/-! ### a def's body keeps its promise -/
/-- names: the parameters first -/
structure FnScope (N P : List Str) (sc : Scope) : Prop where
  kind : sc.kind = .function
  co : sc.isCoroutine = false
  gen : sc.isGenerator = false
  nd : N.Nodup
  pre : N.take P.length = P
  par : ∀ x ∈ P, sc.names.lookup x = some .local ∨ sc.names.lookup x = some .cell
  nofree : ∀ y ∈ sc.names, y.2 ≠ .free

theorem bindL_out {kindOf : Str → Option NameKind} {x : Str} : ∀ {binds : List (Str × Value)} {m : Str → Option Value}, (∀ v, (x, v) ∉ binds) → bindL kindOf binds m x = m x
  | [], _, _ => rfl
  | (n, v) :: r, m, h => by
    unfold bindL
    rw [bindL_out fun w hw => h w (List.mem_cons_of_mem _ hw)]
    split
    · have : x ≠ n := by rintro rfl; exact h v List.mem_cons_self
      simp [this]
    · rfl
theorem bindC_out {kindOf : Str → Option NameKind} {x : Str} : ∀ {binds : List (Str × Value)} {m : Str → Option Value}, (∀ v, (x, v) ∉ binds) → bindC kindOf binds m x = m x
  | [], _, _ => rfl
  | (n, v) :: r, m, h => by
    unfold bindC
    rw [bindC_out fun w hw => h w (List.mem_cons_of_mem _ hw)]
    split
    · rfl
    · have : x ≠ n := by rintro rfl; exact h v List.mem_cons_self
      simp [this]
theorem bindL_get {kindOf : Str → Option NameKind} {x : Str} {v : Value} : ∀ {P : List Str} {vs : List Value} {i : Nat} {m : Str → Option Value}, P.Nodup → P[i]? = some x → vs[i]? = some v → kindOf x = some .local →
    bindL kindOf (P.zip vs) m x = some v
  | [], _, _, _, _, h, _, _ => by simp at h
  | _ :: _, [], _, _, _, _, h, _ => by simp at h
  | p :: P, w :: vs, 0, m, nd, h1, h2, hk => by
    simp at h1 h2; subst h1; subst h2
    show bindL kindOf ((p, w) :: P.zip vs) m p = _
    unfold bindL
    rw [bindL_out fun v hv => (List.nodup_cons.mp nd).1 (List.of_mem_zip hv).1, if_pos hk]
    simp
  | p :: P, w :: vs, i + 1, m, nd, h1, h2, hk => by
    show bindL kindOf ((p, w) :: P.zip vs) m x = _
    unfold bindL
    exact bindL_get (i := i) (List.nodup_cons.mp nd).2 (by simpa using h1) (by simpa using h2) hk
theorem bindC_get {kindOf : Str → Option NameKind} {x : Str} {v : Value} : ∀ {P : List Str} {vs : List Value} {i : Nat} {m : Str → Option Value}, P.Nodup → P[i]? = some x → vs[i]? = some v → kindOf x ≠ some .local →
    bindC kindOf (P.zip vs) m x = some v
  | [], _, _, _, _, h, _, _ => by simp at h
  | _ :: _, [], _, _, _, _, h, _ => by simp at h
  | p :: P, w :: vs, 0, m, nd, h1, h2, hk => by
    simp at h1 h2; subst h1; subst h2
    show bindC kindOf ((p, w) :: P.zip vs) m p = _
    unfold bindC
    rw [bindC_out fun v hv => (List.nodup_cons.mp nd).1 (List.of_mem_zip hv).1, if_neg hk]
    simp
  | p :: P, w :: vs, i + 1, m, nd, h1, h2, hk => by
    show bindC kindOf ((p, w) :: P.zip vs) m x = _
    unfold bindC
    exact bindC_get (i := i) (List.nodup_cons.mp nd).2 (by simpa using h1) (by simpa using h2) hk

/-- the names' values at the entry -/
def start (N : List Str) (vs : List V) : St := vs.map some ++ List.replicate (N.length - vs.length) none

/-- the context of a def's body, at its entry; an exception leaves the frame, then lies as CX says -/
def cxOf (CX : CXT) (P : Program) (w : World) (K : PySem.W.Frag) (mg : Str → Option Value) (base : Heap) (N : List Str) (qual : Str) (scope : Scope) (f : Addr) (cd : Value) (A : Around) (outer : List Env) (s : Shared) (H : Hp) (E : XK) : Cx where
  prog := P
  w := w
  K := K
  mg := mg
  base := base
  A := A.deeper (envOfC qual scope s.heap.objs.size f cd)
  N := N
  s₀ := s
  H₀ := H
  env := envOfC qual scope s.heap.objs.size f cd
  outer := outer
  stack := envOfC qual scope s.heap.objs.size f cd :: outer
  ex := []
  calm := true
  fn := fun _ => true
  pn := []
  xe := fun e s' => wpAny (model P w) (A.deeper (envOfC qual scope s.heap.objs.size f cd)) (leaving (envOfC qual scope s.heap.objs.size f cd) e) (fun _ s'' => CX outer H s E e s'') (fun e' s'' => CX outer H s E e' s'') s'

theorem cell_has {sc : Scope} {n : Nat} {x : Str} (h : sc.names.lookup x = some .cell) : ∃ c, (cellsFrom n sc.names []).lookup x = some c := by
  have q := PySem.W.cellsFrom_some sc.names n [] (.inl h)
  exact Option.isSome_iff_exists.mp q

theorem inv_start {CX : CXT} {P : Program} {w : World} {K : PySem.W.Frag} {mg : Str → Option Value} {base : Heap} {N ps : List Str} {qual : Str} {scope : Scope} {f : Addr} {cd : Value} {A : Around} {outer : List Env} {s s1 : Shared} {H : Hp} {E : XK} {us : List Value} {vs : List V}
    (S : FnScope N ps scope) (hd : A.handled = none) (e0 : Env0 P w K mg base A outer s H) (hl : vs.length = ps.length) (r : Vals vs us)
    (x : InCallC s s.heap.objs.size (bindL (envOfC qual scope s.heap.objs.size f cd).kindOf (ps.zip us) fun _ => none) (cellsFrom (s.heap.objs.size + 1) scope.names []) (bindC (envOfC qual scope s.heap.objs.size f cd).kindOf (ps.zip us) fun _ => none) s1) :
    Inv (cxOf CX P w K mg base N qual scope f cd A outer s H E) [] (start N vs) H s1 := by
  have hpl : ps.length ≤ N.length := by have := congrArg List.length S.pre; rw [List.length_take] at this; omega
  obtain ⟨h1, tk, rfl, hk⟩ := x.done
  have noA : ∀ b : Addr, b ∉ (cxOf CX P w K mg base N qual scope f cd A outer s H E).ex := fun b z => absurd (show b ∈ ([] : List Addr) from z) (by simp)
  refine ⟨⟨e0.mod, S.kind, rfl, rfl, Nat.le_refl _, fun y z c h1 h2 => ?_, fun y hy => ?_, fun y c _ h => ?_, fun _ => hd, Around.frames_deeper e0.frames, .inr ⟨rfl, rfl⟩, fun b z => absurd z (noA b), e0.bs, e0.bsz, fun b _ _ => noA b, fun b z => absurd z (noA b), e0.funs, e0.frf⟩,
    rfl, e0.bare, Un.kept hk, ⟨_, x.toInCall.ns, fun i y v h1 h2 h3 => ?_⟩, fun y c h => ⟨_, x.cell y c h⟩, e0.hok.fresh (Nat.le_refl _), fun y c h => ?_, fun p hp => absurd (show p ∈ ([] : List (Addr × Obj)) from hp) (by simp), e0.hok.kept hk, ?_⟩
  · exact name_of_addr x.apart (PySem.mem_of_lookup h1) (PySem.mem_of_lookup h2)
  · have hy : scope.names.lookup y = some .cell ∨ scope.names.lookup y = some .free := hy
    rcases hy with hy | hy
    · exact cell_has hy
    · exact absurd rfl (S.nofree _ (PySem.mem_of_lookup hy))
  · exact Nat.le_of_lt (x.above y c (PySem.mem_of_lookup h))
  · have hi : i < vs.length := by
      unfold start at h2
      by_cases hi : i < vs.length
      · exact hi
      · rw [List.getElem?_append_right (by simpa using hi)] at h2
        rw [List.getElem?_replicate] at h2
        split at h2 <;> cases h2
    have ha : vs[i]? = some v := by
      unfold start at h2
      rw [List.getElem?_append_left (by simpa using hi), List.getElem?_map] at h2
      cases e : vs[i]? with
      | none => rw [e] at h2; cases h2
      | some a => rw [e] at h2; cases h2; rfl
    obtain ⟨u, hu, rv⟩ := r.get ha
    have hp : ps[i]? = some y := by
      rw [← S.pre, List.getElem?_take_of_lt (by omega)]; exact h1
    have ndP : ps.Nodup := by rw [← S.pre]; exact S.nd.sublist (List.take_sublist _ _)
    refine ⟨u, rv, ?_⟩
    rcases S.par y (List.mem_of_getElem? hp) with k | k
    · exact .inl ⟨k, bindL_get ndP hp hu k⟩
    · obtain ⟨c, e⟩ := cell_has (n := s.heap.objs.size + 1) k
      refine .inr ⟨.inl k, c, e, ?_⟩
      have q := x.cell y c e
      rw [bindC_get ndP hp hu (by show scope.names.lookup y ≠ _; rw [k]; decide)] at q
      exact q
  · exact e0.hok.fresh (Nat.le_of_lt (x.above y c (PySem.mem_of_lookup h)))
  · unfold start
    show _ = N.length
    rw [List.length_append, List.length_map, List.length_replicate]
    omega

/-- THE RULE: a def (or a method) of the text, by its body. The body's reading t is chosen for each entry; it is run at the parameters' values -/
theorem fn_of {CX : CXT} {P : Program} {w : World} {K : PySem.W.Frag} {mg : Str → Option Value} {base : Heap} {k : Nat} {f : Addr} {name qual : Str} {params : Arguments} {body : List Stmt} {scope : Scope} {dV kV doc pm cdv ct oc : Value} {an od : Option Addr}
    {osl : Array (Option Value)} {N ps : List Str} {sp : Sp} (lk : K.lookup f = some ⟨oc, od, .func (PySem.W.fnOf name qual params body scope dV kV doc pm an cdv ct), osl⟩) (hcd : PySem.W.codeIn K cdv qual = true) (S : FnScope N ps scope)
    (len : ∀ vs H Q E, sp vs H Q E → vs.length = ps.length)
    (hbody : ∀ (A : Around) (outer : List Env) (s : Shared) (H : Hp) (vs : List V) (Q : VK) (E : XK), Room k (A.deeper (envOfC qual scope s.heap.objs.size f cdv)) → sp vs H Q E →
      ∃ t, PSs (cxOf CX P w K mg base N qual scope f cdv A outer s H E) body t ∧ t { nx := fun _ H' => Q .non H', rt := Q } (start N vs) H) :
    FnOk P w K mg base CX (k + 1) f (PySem.W.fnOf name qual params body scope dV kV doc pm an cdv ct) ps sp := by
  refine ⟨len, fun A outer s H args us vs Q E hr e0 hb r hsp => ?_⟩
  have hl := len _ _ _ _ hsp
  have KX : K.In s.heap := e0.mod.kin.keeps fun b o e => (e0.bs b o e).1
  have lim : s.heap.NoLimit := e0.mod.nolimit.keeps fun b o e => (e0.bs b o e).1
  have hkind : ∀ y ∈ ps.zip us, scope.names.lookup y.1 = some .local ∨ (scope.names.lookup y.1 = some .cell ∧ ((cellsFrom (s.heap.objs.size + 1) scope.names []).lookup y.1).isSome = true) := fun ⟨n, v⟩ hy => by
    rcases S.par n (List.of_mem_zip hy).1 with q | q
    · exact .inl q
    · exact .inr ⟨q, PySem.W.cellsFrom_some _ _ _ (.inl q)⟩
  refine codeAny_call_function hr.depth (KX _ _ lk) rfl S.co S.gen rfl (PySem.W.codeRec_of KX hcd) (hb _ _ _ _ ?_)
  refine wpAny_newFunctionEnv_cells S.kind hkind fun env he s1 x => ?_
  subst he
  refine ⟨lim.keeps x.toInCall.keep, codeAny_func ?_⟩
  obtain ⟨t, ht, hq⟩ := hbody A outer s H vs Q E (hr.deeper _) hsp
  have I : Inv (cxOf CX P w K mg base N qual scope f cdv A outer s H E) [] (start N vs) H s1 := inv_start S hr.hd e0 hl r x
  refine wpAny_mono (ht [] s1 (start N vs) H _ I hq) (fun fl s' hs => ?_) fun e s' hs => hs
  have fin : ∀ {σ' : St} {H' : Hp} {v : V} {u : Value}, Inv (cxOf CX P w K mg base N qual scope f cdv A outer s H E) [] σ' H' s' → RelV v u → Q v H' → CE outer P w H s Q u s' :=
    fun {σ' H' v u} J rv q => ⟨v, H', J.os, J.bare, J.base, J.hok, rv, q⟩
  cases fl with
  | ret u =>
    obtain ⟨v, σ', H', J, rv, q⟩ := hs
    exact fin J rv q
  | next =>
    obtain ⟨σ', H', J, q⟩ := hs
    exact fin (v := V.non) (u := Value.none) J rfl q
  | brk =>
    obtain ⟨_, _, _, q⟩ := hs
    exact False.elim q
  | cont =>
    obtain ⟨_, _, _, q⟩ := hs
    exact False.elim q
end L2

namespace L2
open PySem PySem.Spec PyProof.Rows
section
variable {X : Cx} {x : Str} {p pos : Pos} {e : Expr} {es : List Expr} {t : TA} {id T : String} {r : List V → Hp → VK → Prop}

def tCB (r : List V → Hp → VK → Prop) (t : TA) : TE := fun σ H Q => t σ H fun vs H1 => r vs H1 Q
/-- f(e, ..), f a built-in function -/
theorem pe_callB (hc : CallR X (.builtin id) r) (hg : Gl X x) (hm : X.mg x = none) (hv : bootBuiltins x = some (.builtin id)) (ha : PA X (e :: es) t) (hn : x ≠ "__name__" := by decide) (hdb : (x == ("__debug__" : Str)) = false := by decide)
    (he : starEach (e :: es) X.env = (false, eval e X.env) :: starEach es X.env := by rfl) (hpl : (backTo pos (starEach es X.env)).any (·.1) = false := by rfl) : PE X (.Call (.Name x p) (e :: es) [] pos) (tCB r t) := by
  intro pins s σ H Q I h
  refine wpAny_Call_Name_kw (ld_blt I hg hm hv ?_ hn hdb)
  exact PyProof.Rows.callWith_builtin1 (thn (ha pos pins s σ H _ I h) fun us s1 ⟨vs, H1, I1, r1, q1⟩ => hc pins s1 σ H1 vs us Q I1 r1 q1) he hpl
/-- T(e, ..), T a built-in type -/
theorem pe_callTy (hc : CallR X (.type T) r) (hg : Gl X x) (hm : X.mg x = none) (hv : bootBuiltins x = some (.type T)) (ha : PA X (e :: es) t) (hn : x ≠ "__name__" := by decide) (hdb : (x == ("__debug__" : Str)) = false := by decide)
    (he : starEach (e :: es) X.env = (false, eval e X.env) :: starEach es X.env := by rfl) (hpl : (backTo pos (starEach es X.env)).any (·.1) = false := by rfl) : PE X (.Call (.Name x p) (e :: es) [] pos) (tCB r t) := by
  intro pins s σ H Q I h
  refine wpAny_Call_Name_kw (ld_blt I hg hm hv ?_ hn hdb)
  exact PyProof.Rows.callWith_type1 (thn (ha pos pins s σ H _ I h) fun us s1 ⟨vs, H1, I1, r1, q1⟩ => hc pins s1 σ H1 vs us Q I1 r1 q1) he hpl
end
end L2

namespace HT
open PySem PyProof.Rows

section
open PySem.SeqAt
open PySem.AutoSeq1 (wpAny_loadPart')
open PySem.MeetsSeq PySem.MeetsSeq2 PySem.MeetsSeq3

end

section
variable {prog : Program} {w : World} {A : Around} {E : Value → Shared → Prop} {s : Shared}

/-! ### t[a:b], not the whole -/
/-- a slice's bound as a place among n (d where it is left out) -/
def sIx (n d : Nat) : Option Int → Nat
  | none => d
  | some v => if v < 0 then (v + (n : Int)).toNat else min v.toNat n
theorem sIx_none (n d : Nat) : sIx n d none = d := rfl
theorem sIx_nat (n d k : Nat) : sIx n d (some (k : Int)) = min k n := by
  show (if (k : Int) < 0 then ((k : Int) + (n : Int)).toNat else min (k : Int).toNat n) = min k n
  rw [if_neg (by omega), Int.toNat_natCast]
end
end HT

namespace L2
open PySem PySem.Spec PyProof.Rows

/-! ### the parts of a slice -/
abbrev TO := St → Hp → (Option Int → Hp → Prop) → Prop
/-- a slice's part (left out, or an int) -/
def PO (X : Cx) (e : Option Expr) (t : TO) : Prop :=
  ∀ (pins : List (Addr × Obj)) (s : Shared) (σ : St) (H : Hp) (Q : Option Int → Hp → Prop), Inv X pins σ H s → t σ H Q →
    wpAny (model X.prog X.w) X.A (evalPart e X.env) (fun u s' => ∃ o H', Inv X pins σ H' s' ∧ IsPart u o ∧ Q o H') X.xe s
def tNoPart : TO := fun _ H Q => Q none H
def tPart (t : TE) : TO := fun σ H Q => t σ H fun x H1 => ∃ i, x = .int i ∧ Q (some i) H1

theorem intsAre_of {ns : List Int} : ∀ {us : List Value}, Vals (ns.map V.int) us → IntsAre us ns := by
  induction ns with
  | nil => intro us r; rw [List.map_nil] at r; cases r; exact .nil
  | cons n ns ih =>
    intro us r
    rw [List.map_cons] at r
    cases r with
    | cons r1 r2 =>
      obtain ⟨t, e⟩ := r1
      subst e
      exact .cons n t (ih r2)

section
variable {X : Cx} {e : Expr} {te : TE} {lo hi : Option Expr} {tl th : TO} {pos p2 : Pos}

theorem po_none : PO X none tNoPart := by
  intro pins s σ H Q I h
  rw [evalPart_none]
  exact wpAny_pure ⟨none, H, I, .none, h⟩
theorem po_some (h : PE X e te) : PO X (some e) (tPart te) := by
  intro pins s σ H Q I hw
  rw [evalPart_some]
  refine thn (h pins s σ H _ I hw) fun u s1 ⟨x, H1, I1, r1, q1⟩ => ?_
  obtain ⟨i, rfl, q⟩ := q1
  obtain ⟨t, rfl⟩ := r1
  exact ⟨some i, H1, I1, .int i t, q⟩

/-- what a slice of a value is, by values: the slice object stands at sl -/
def SlR (X : Cx) (r : V → Option Int → Option Int → Hp → VK → Prop) : Prop :=
  ∀ (pins : List (Addr × Obj)) (s : Shared) (σ : St) (H : Hp) (x : V) (v vl vu : Value) (lo hi : Option Int) (sl : Addr) (Q : VK), Inv X pins σ H s → RelV x v → s.heap.IsSliceOf sl vl vu .none → IsPart vl lo → IsPart vu hi → r x lo hi H Q →
    ∃ T id, typeLookup (.type T) "__getitem__" = pure (some (.builtin id)) ∧ s.TypeIs v T ∧ wpAny (model X.prog X.w) X.A (getItem v (.ref sl)) (EP X pins σ Q) X.xe s
def tSl (r : V → Option Int → Option Int → Hp → VK → Prop) (te : TE) (tl th : TO) : TE := fun σ H Q => te σ H fun x H1 => tl σ H1 fun l H2 => th σ H2 fun u H3 => r x l u H3 Q
/-- a[lo:hi], any a -/
theorem pe_slice {r : V → Option Int → Option Int → Hp → VK → Prop} (hr : SlR X r) (he : PE X e te) (hl : PO X lo tl) (hu : PO X hi th) : PE X (.Subscript e (.Slice lo hi none p2) pos) (tSl r te tl th) := by
  intro pins s σ H Q I h
  refine Subscript_ (thn (he pins s σ H _ I h) fun v s1 ⟨x, H1, I1, r1, q1⟩ => ?_)
  refine wpAny_Slice (thn (hl pins s1 σ H1 _ I1 q1) fun vl s2 ⟨l, H2, I2, pl, q2⟩ => thn (hu pins s2 σ H2 _ I2 q2) fun vu s3 ⟨u, H3, I3, pu, q3⟩ => ?_)
  rw [evalPart_none]
  refine wpAny_pure ?_
  have I4 : Inv X pins σ H3 { s3 with heap := s3.heap.push { cls := .type "slice", data := .fields #[vl, vu, .none] } } := I3.kept (t' := s3.toks) fun b ob q => Heap.get?_push_of_some _ q
  obtain ⟨T, id, hT, ht, hg⟩ := hr pins { s3 with heap := s3.heap.push { cls := .type "slice", data := .fields #[vl, vu, .none] } } σ H3 x v vl vu l u s3.heap.objs.size Q I4 r1 (Heap.IsSliceOf.new ..) pl pu q3
  show wpAny (model X.prog X.w) X.A (subscriptTail e (.Slice lo hi none p2) v (.ref s3.heap.objs.size)) (EP X pins σ Q) X.xe { s3 with heap := s3.heap.push { cls := .type "slice", data := .fields #[vl, vu, .none] } }
  exact tail_any (ops := [.ref s3.heap.objs.size, v]) ht hT hg (by with_unfolding_all rfl)

/-- the items of xs[lo:hi] -/
def cutV (xs : List V) (lo hi : Option Int) : List V := (xs.drop (HT.sIx xs.length 0 lo)).take (HT.sIx xs.length xs.length hi - HT.sIx xs.length 0 lo)
theorem cutV_length (xs : List V) (lo hi : Option Int) : (cutV xs lo hi).length ≤ xs.length := by
  unfold cutV
  rw [List.length_take, List.length_drop]
  omega
/-! ### t < u, t + u -/
end
end L2

namespace L2
open PySem PySem.Spec PyProof.Rows

/-! ### places -/
/-- the place that an index of any sign means -/
def ixN (n : Nat) (i : Int) : Option Nat := if 0 ≤ i then (if i < n then some i.toNat else none) else if -(n : Int) ≤ i then some (i + n).toNat else none
def atI {α : Type} (xs : List α) (i : Int) : Option α := (ixN xs.length i).bind fun j => xs[j]?
theorem ixN_seq {n : Nat} {i : Int} {j : Nat} (h : ixN n i = some j) : seqIndex? i n = some j ∧ j < n ∧ -(n : Int) ≤ i ∧ i < n := by
  unfold ixN at h
  by_cases h0 : 0 ≤ i
  · rw [if_pos h0] at h
    by_cases h1 : i < n
    · rw [if_pos h1] at h
      have e : i.toNat = j := Option.some.inj h
      exact ⟨by rw [seqIndex_of h0 h1, e], by omega, by omega, h1⟩
    · rw [if_neg h1] at h; cases h
  · rw [if_neg h0] at h
    by_cases h1 : -(n : Int) ≤ i
    · rw [if_pos h1] at h
      have e : (i + n).toNat = j := Option.some.inj h
      exact ⟨by rw [seqIndex_neg (by omega) h1, e], by omega, h1, by omega⟩
    · rw [if_neg h1] at h; cases h
theorem atI_get {α : Type} {xs : List α} {i : Int} {v : α} (h : atI xs i = some v) : ∃ j, seqIndex? i xs.length = some j ∧ xs[j]? = some v ∧ j < xs.length ∧ -(xs.length : Int) ≤ i ∧ i < xs.length := by
  unfold atI at h
  cases e : ixN xs.length i with
  | none => rw [e] at h; cases h
  | some j =>
    rw [e] at h
    obtain ⟨h1, h2, h3, h4⟩ := ixN_seq e
    exact ⟨j, h1, h, h2, h3, h4⟩
theorem atI_nat {α : Type} {xs : List α} {j : Nat} {v : α} (h : xs[j]? = some v) : atI xs (j : Int) = some v := by
  have hj : j < xs.length := (List.getElem?_eq_some_iff.mp h).1
  have e : ixN xs.length (j : Int) = some j := by
    unfold ixN
    rw [if_pos (by omega), if_pos (by omega)]; simp
  unfold atI; rw [e]; exact h
/-! ### what may be subscripted -/
/-- what stands as an index of a plain subscript -/
def PlainIx (b : Expr) : Prop := ∀ o i, subscripted b false o i = operate [o, i] (getItem o i)
/-- a subscript by values -/
def IxR (X : Cx) (r : R2) : Prop :=
  ∀ (value slice : Expr) (pins : List (Addr × Obj)) (s : Shared) (σ : St) (H : Hp) (x y : V) (v u : Value) (Q : VK), Inv X pins σ H s → RelV x v → RelV y u → r x y H Q →
    subscripted slice false v u = operate [v, u] (getItem v u) → wpAny (model X.prog X.w) X.A (subscriptTail value slice v u) (EP X pins σ Q) X.xe s
/-- a call of a builtin's method by values: the receiver, the arguments -/
def MtR (X : Cx) (id : String) (r : V → List V → Hp → VK → Prop) : Prop :=
  ∀ (pins : List (Addr × Obj)) (s : Shared) (σ : St) (H : Hp) (x : V) (xs : List V) (v : Value) (us : List Value) (Q : VK), Inv X pins σ H s → RelV x v → Vals xs us → r x xs H Q →
    wpAny (model X.prog X.w) X.A (call (.builtin id) (v :: us)) (EP X pins σ Q) X.xe s
section
variable {X : Cx} {a b : Expr} {ta tb : TE} {pos : Pos}
/-- a[b] -/
theorem pe_ix {r : R2} (hr : IxR X r) (ha : PE X a ta) (hb : PE X b tb) (hs : PlainIx b) : PE X (.Subscript a b pos) (tOp r ta tb) := by
  intro pins s σ H Q I h
  exact Subscript_ (binT ha hb I h fun v u s2 x y H2 I2 rx ry q => hr a b pins s2 σ H2 x y v u Q I2 rx ry q (hs _ _))

def rIxL (K : PySem.W.Frag) : R2 := fun x y H Q => ∃ p xs i v, x = .ref p ∧ y = .int i ∧ SqL K H p xs ∧ atI xs i = some v ∧ Q v H
def rIxT (K : PySem.W.Frag) : R2 := fun x y H Q => ∃ p xs i v, x = .ref p ∧ y = .int i ∧ SqT K H p xs ∧ atI xs i = some v ∧ Q v H
theorem ix_list : IxR X (rIxL X.K) := by
  intro value slice pins s σ H x y v u Q I rx ry h hs
  obtain ⟨p, xs, i, z, rfl, rfl, hq, he, q⟩ := h
  cases rx
  obtain ⟨t, rfl⟩ := ry
  obtain ⟨its, r, pl, hz⟩ := I.list hq
  obtain ⟨j, h1, h2, h3, h4, h5⟩ := atI_get he
  obtain ⟨w, ew, rw'⟩ := r.get h2
  have hl := r.length
  have hn := line63
  have fin : EP X pins σ Q w s := ⟨z, H, I, rw', q⟩
  by_cases h0 : 0 ≤ i
  · have hj : i.toNat = j := by
      rw [seqIndex_of h0 h5] at h1
      exact Option.some.inj h1
    exact item_listR pl.isList h0 (by omega) (by rw [hj]; simpa using ew) fin hs
  · have hj : (i + (its.toArray.size : Int)).toNat = j := by
      rw [seqIndex_neg (by omega) h4] at h1
      rw [List.size_toArray, ← hl]
      exact Option.some.inj h1
    exact subscriptTail_builtinR (x := w) pl.isList.typeIs slot_list_getitem.lookup
      (wpAny_getItem_list_neg (Q := fun r s' => r = w ∧ EP X pins σ Q r s') pl.isList (by omega) (by rw [List.size_toArray] <;> omega) (by omega) (by rw [hj]; simpa using ew) ⟨rfl, fin⟩) hs
theorem ix_tup : IxR X (rIxT X.K) := by
  intro value slice pins s σ H x y v u Q I rx ry h hs
  obtain ⟨p, xs, i, z, rfl, rfl, hq, he, q⟩ := h
  cases rx
  obtain ⟨t, rfl⟩ := ry
  obtain ⟨its, r, pl, hz⟩ := I.tuple hq
  obtain ⟨j, h1, h2, h3, h4, h5⟩ := atI_get he
  obtain ⟨w, ew, rw'⟩ := r.get h2
  have hl := r.length
  have hn := line63
  have fin : EP X pins σ Q w s := ⟨z, H, I, rw', q⟩
  exact subscriptTail_builtinR (x := w) pl.typeIs slot_tuple_getitem.lookup
    (getItem_tuple (j := j) (Q := fun r s' => r = w ∧ EP X pins σ Q r s') pl (by omega) (by omega) (by rw [List.size_toArray, ← hl]; exact h1) (by simpa using ew) ⟨rfl, fin⟩) hs
/-! ### xs[i] = v, any sign -/
/-- the list's object behind a store -/
theorem mapSeq_set (its : List Value) (n j : Nat) (u : Value) : Obj.mapSeq (·.setIfInBounds j u) { cls := .type "list", data := .seq its.toArray n } = { cls := .type "list", data := .seq (its.set j u).toArray n } := by
  simp [Obj.mapSeq]
theorem Inv.lst {pins : List (Addr × Obj)} {σ : St} {H : Hp} {s : Shared} {p : Addr} {xs : List V} (I : Inv X pins σ H s) (h : H p = some (.lst xs)) :
    ∃ (its : List Value) (n : Nat), Vals xs its ∧ s.heap.get? p = some { cls := .type "list", data := .seq its.toArray n } ∧ xs.length ≤ sizeLine := by
  obtain ⟨z, its, n, r, e⟩ := I.hok p _ h
  exact ⟨its, n, r, e, z⟩
/-- the list at p is written by an update of its object -/
theorem Inv.lstUpd {pins : List (Addr × Obj)} {σ : St} {H : Hp} {s : Shared} {p : Addr} {xs ys : List V} {its its' : List Value} {n n' : Nat} {f : Obj → Obj} (I : Inv X pins σ H s) (h : H p = some (.lst xs))
    (ho : s.heap.get? p = some { cls := .type "list", data := .seq its.toArray n }) (hf : f { cls := .type "list", data := .seq its.toArray n } = { cls := .type "list", data := .seq its'.toArray n' }) (r : Vals ys its') (hz : ys.length ≤ sizeLine) (t : Nat) :
    Inv X pins σ (upd H p (.lst ys)) { s with heap := s.heap.update p f, toks := t } := by
  have e : (s.heap.update p f).get? p = some { cls := .type "list", data := .seq its'.toArray n' } := by
    rw [Heap.get?_update_self f ho (by rw [hf] <;> rfl), hf]
  refine I.write (x := p) (e := p) (by rw [h]; trivial) (.inl rfl) (fun b u hb q => (Heap.get?_update_other _ _ (Ne.symm hb)).trans q) ⟨_, e⟩ ?_
  exact ⟨hz, its', n', r, e⟩
def rSetL : V → V → V → Hp → (Hp → Prop) → Prop := fun o i v H Q => ∃ p xs k j, o = .ref p ∧ i = .int k ∧ H p = some (.lst xs) ∧ ixN xs.length k = some j ∧ Q (upd H p (.lst (xs.set j v)))
theorem set_list : PSet X rSetL := by
  intro pins s σ H o i v ov iv u Q I ro ri rv h
  obtain ⟨p, xs, k, j, rfl, rfl, hp, hj, q⟩ := h
  cases ro
  obtain ⟨t, rfl⟩ := ri
  obtain ⟨its, n, r, ho, hz⟩ := I.lst hp
  obtain ⟨h1, h2, h3, h4⟩ := ixN_seq hj
  have hl := r.length
  have hn := line63
  have I' : Inv X pins σ (upd H p (.lst (xs.set j v))) { s with heap := s.heap.update p (Obj.mapSeq (·.setIfInBounds j u)) } :=
    I.lstUpd hp ho (mapSeq_set its n j u) (r.set rv j) (by rw [List.length_set]; exact hz) s.toks
  by_cases h0 : 0 ≤ k
  · have hk : k.toNat = j := by
      rw [seqIndex_of h0 h4] at h1
      exact Option.some.inj h1
    exact PySem.W.ki_setAt ho h0 (by omega) (by rw [List.size_toArray, ← hl]; exact h4) (by rw [hk]; exact ⟨_, I', q⟩)
  · have hk : (k + (its.toArray.size : Int)).toNat = j := by
      rw [seqIndex_neg (by omega) h3] at h1
      rw [List.size_toArray, ← hl]
      exact Option.some.inj h1
    exact PySem.W.ki_setBack ho (by omega) (by rw [List.size_toArray, ← hl]; exact h3) (by omega) (by rw [hk]; exact ⟨_, I', q⟩)

/-! ### slices -/
theorem slice_bounds (lo hi : Option Int) (n : Nat) : (sliceBounds lo hi none n).1 = ((HT.sIx n 0 lo : Nat) : Int) ∧ (sliceBounds lo hi none n).2.1 = ((HT.sIx n n hi : Nat) : Int) ∧ (sliceBounds lo hi none n).2.2 = 1 := by
  refine ⟨?_, ?_, rfl⟩
  · cases lo with
    | none => simp [sliceBounds, HT.sIx]
    | some i =>
      simp only [sliceBounds, HT.sIx, Option.getD_none, show (1 : Int) > 0 by decide, if_true]
      by_cases h : i < 0
      · simp only [h, if_true] <;> omega
      · simp only [h, if_false] <;> omega
  · cases hi with
    | none => simp [sliceBounds, HT.sIx]
    | some i =>
      simp only [sliceBounds, HT.sIx, Option.getD_none, show (1 : Int) > 0 by decide, if_true]
      by_cases h : i < 0
      · simp only [h, if_true] <;> omega
      · simp only [h, if_false] <;> omega
theorem slicePick_cut (its : List Value) (lo hi : Option Int) : slicePick its.toArray lo hi none = ((its.drop (HT.sIx its.length 0 lo)).take (HT.sIx its.length its.length hi - HT.sIx its.length 0 lo)).toArray := by
  obtain ⟨h1, h2, h3⟩ := slice_bounds lo hi its.toArray.size
  unfold slicePick
  rw [h1, h2, h3]
  simp only [sliceRange_one, pick_run, List.size_toArray] <;> rfl
/-- xs[lo:hi] of a list: a new list -/
def rSlL (K : PySem.W.Frag) : V → Option Int → Option Int → Hp → VK → Prop := fun x lo hi H Q => ∃ a xs, x = .ref a ∧ SqL K H a xs ∧ ∀ p, H p = none → Q (.ref p) (upd H p (.lst (cutV xs lo hi)))
theorem sl_list : SlR X (rSlL X.K) := by
  intro pins s σ H x v vl vu lo hi sl Q I rx hs pl pu h
  obtain ⟨a, xs, rfl, hx, q⟩ := h
  cases rx
  obtain ⟨its, r, ht, hz⟩ := I.list hx
  have hlen := r.length
  refine ⟨"list", _, slot_list_getitem.lookup, ht.isList.typeIs, ?_⟩
  refine wpAny_getItem_list_slice ht.isList hs pl pu .none (by simp) ?_ (by rw [List.size_toArray] <;> omega)
  rw [slicePick_cut, ← hlen]
  refine ⟨.ref s.heap.objs.size, _, I.laid (t' := s.toks) (o := .lst (cutV xs lo hi)) (fun b ob q => Heap.get?_push_of_some _ q) (Nat.le_refl _) ?_, rfl, q _ (I.hok.fresh (Nat.le_refl _))⟩
  exact ⟨Nat.le_trans (cutV_length xs lo hi) hz, _, 0, (r.drop (HT.sIx xs.length 0 lo)).take (HT.sIx xs.length xs.length hi - HT.sIx xs.length 0 lo), Heap.get?_push_size _ rfl⟩

/-! ### in, not in: flat items -/
/-! ### len, list(x), tuple(x) of any list or tuple that is read -/
theorem call_len_seq : CallR X (.builtin "len") (fun xs H Q => ∃ p ys, xs = [.ref p] ∧ (SqL X.K H p ys ∨ SqT X.K H p ys) ∧ Q (.int ys.length) H) := by
  intro pins s σ H xs us Q I r h
  obtain ⟨p, ys, rfl, hq, q⟩ := h
  obtain ⟨u, rfl, rx⟩ := vals1 r
  cases rx
  have hn := line63
  rcases hq with hq | hq
  · obtain ⟨its, r', pl, hz⟩ := I.list hq
    have hlen := r'.length
    exact Calls.call_len_list pl.isList (by simp only [List.size_toArray] <;> omega) ⟨.int ys.length, H, I.tok _, ⟨s.toks + 1, by rw [List.size_toArray, hlen]⟩, q⟩
  · obtain ⟨its, r', pl, hz⟩ := I.tuple hq
    have hlen := r'.length
    exact len_tuple pl (by simp only [List.size_toArray] <;> omega) ⟨.int ys.length, H, I.tok _, ⟨s.toks + 1, by rw [List.size_toArray, hlen]⟩, q⟩
theorem call_list_of : CallR X (.type "list") (fun xs H Q => ∃ p ys, xs = [.ref p] ∧ (SqL X.K H p ys ∨ SqT X.K H p ys) ∧ ∀ l, H l = none → Q (.ref l) (upd H l (.lst ys))) := by
  intro pins s σ H xs us Q I r h
  obtain ⟨p, ys, rfl, hq, q⟩ := h
  obtain ⟨u, rfl, rx⟩ := vals1 r
  cases rx
  have fin : ∀ (its : List Value), Vals ys its → ys.length ≤ sizeLine → ∀ (h' : Heap) (c' : Nat), (∀ b o', s.heap.get? b = some o' → h'.get? b = some o') →
      h'.get? s.heap.objs.size = some { cls := .type "list", dict := none, data := .seq its.toArray c', slots := #[] } → EP X pins σ Q (.ref s.heap.objs.size) { s with heap := h' } := fun its r' hz h' c' kp e =>
    ⟨.ref s.heap.objs.size, _, I.laid (t' := s.toks) kp (Nat.le_refl _) (show ObjOk X.prog X.w _ h' _ (.lst ys) from ⟨hz, its, c', r', e⟩), rfl, q _ (I.hok.fresh (Nat.le_refl _))⟩
  rcases hq with hq | hq
  · obtain ⟨its, r', pl, hz⟩ := I.list hq
    have hlen := r'.length
    obtain ⟨o, ho, hc, n, hd⟩ := pl.isList
    exact call_list_seq p (.inl rfl) ho hc hd (fun h' c' kp e => fin its r' hz h' c' kp e) (by simp only [List.size_toArray] <;> omega)
  · obtain ⟨its, r', pl, hz⟩ := I.tuple hq
    have hlen := r'.length
    obtain ⟨o, ho, hc, n, hd⟩ := pl
    exact call_list_seq p (.inr rfl) ho hc hd (fun h' c' kp e => fin its r' hz h' c' kp e) (by simp only [List.size_toArray] <;> omega)
/-! ### the call of a builtin's method: o.m(..) -/
/-- the value is of that builtin type -/
def tyV (K : PySem.W.Frag) (T : String) (x : V) (H : Hp) : Prop := match x with
  | .str _ => T = "str"
  | .int _ => T = "int"
  | .ref p => (T = "list" ∧ ∃ xs, SqL K H p xs) ∨ (T = "tuple" ∧ ∃ o, K.lookup p = some o ∧ o.cls = .type "tuple" ∧ o.dict = none) ∨
      (T = "dict" ∧ ((∃ kvs, H p = some (.dK kvs)) ∨ ∃ kvs, H p = some (.dT kvs))) ∨ (T = "set" ∧ ∃ S n, H p = some (.set S n))
  | _ => False
theorem tyV_is {pins : List (Addr × Obj)} {σ : St} {H : Hp} {s : Shared} {T : String} {x : V} {v : Value} (I : Inv X pins σ H s) (r : RelV x v) (ty : tyV X.K T x H) :
    s.TypeIs v T ∧ ∀ a, v = .ref a → ∃ ob, s.heap.get? a = some ob ∧ ob.dict = none := by
  cases x with
  | str z =>
    obtain ⟨t, rfl⟩ := r
    cases (show T = "str" from ty)
    exact ⟨typeIs_str s z t, fun _ e => nomatch e⟩
  | int i =>
    obtain ⟨t, rfl⟩ := r
    cases (show T = "int" from ty)
    exact ⟨typeIs_int s i t, fun _ e => nomatch e⟩
  | ref p =>
    cases r
    rcases ty with ⟨rfl, xs, hq⟩ | ⟨rfl, o, hk, hc, hd⟩ | ⟨rfl, hk⟩ | ⟨rfl, S, n, hk⟩
    · obtain ⟨its, _, pl, _⟩ := I.list hq
      refine ⟨pl.isList.typeIs, fun a e => ?_⟩
      cases e
      obtain ⟨o, n, e, c, hd, _⟩ := pl
      exact ⟨o, e, hd⟩
    · refine ⟨⟨o, I.kIn p o hk, hc⟩, fun a e => ?_⟩
      cases e
      exact ⟨o, I.kIn _ o hk, hd⟩
    · have z : ∃ o, s.heap.get? p = some o ∧ o.ExactDict := by
        rcases hk with ⟨kvs, hk⟩ | ⟨kvs, hk⟩
        · obtain ⟨_, _, _, _, o, _, _, e, ex, _⟩ := I.hok p _ hk
          exact ⟨o, e, ex⟩
        · obtain ⟨_, _, _, _, o, _, _, e, ex, _⟩ := I.hok p _ hk
          exact ⟨o, e, ex⟩
      obtain ⟨o, e, ex⟩ := z
      refine ⟨⟨o, e, ex.1⟩, fun a e2 => ?_⟩
      cases e2
      exact ⟨o, e, ex.2.1⟩
    · obtain ⟨o, _, _, _, e, ex, _⟩ := I.hok p _ hk
      refine ⟨⟨o, e, ex.1⟩, fun a e2 => ?_⟩
      cases e2
      exact ⟨o, e, ex.2.1⟩
  | _ => exact False.elim ty
def tBM (K : PySem.W.Frag) (T : String) (r : V → List V → Hp → VK → Prop) (to : TE) (t : TA) : TE := fun σ H Q => to σ H fun x H1 => tyV K T x H1 ∧ t σ H1 fun xs H2 => r x xs H2 Q
variable {o e : Expr} {es : List Expr} {to : TE} {t : TA} {name : Str} {apos cpos : Pos} {T id : String} {r : V → List V → Hp → VK → Prop}
theorem pe_bm (pa : PlainAttrs T) (slot : Slot T name id) (hty : typeOf (.builtin id) = pure (.type "method_descriptor")) (hm : MtR X id r) (ho : PE X o to) (ha : PA X (e :: es) t)
    (hbase : attributeBase o name X.env (eval o X.env) = eval o X.env := by rfl)
    (hfew : ((backTo cpos (starEach (e :: es) X.env)).all (fun x => !x.1) && (backToKw cpos (keywordEach [] X.env)).all (fun x => x.1.isSome)
      && decide ((e :: es).length + ([] : List Keyword).length + (if ([] : List Keyword).isEmpty then 0 else 1) < 30)) = true := by rfl)
    (hline : (apos.endLine == cpos.line) = true := by rfl) (hs : starEach (e :: es) X.env = (false, eval e X.env) :: starEach es X.env := by rfl) (hplain : (backTo cpos (starEach es X.env)).any (·.1) = false := by rfl) :
    PE X (.Call (.Attribute o name apos) (e :: es) [] cpos) (tBM X.K T r to t) := by
  intro pins s σ H Q I h
  refine wpAny_Call_method_late hbase hfew hline rfl (thn (ho pins s σ H _ I h) fun v s1 ⟨x, H1, I1, r1, ty, q1⟩ => ?_)
  obtain ⟨h1, h2⟩ := tyV_is I1 r1 ty
  refine ⟨T, id, pa, slot, hty, h1, h2, ?_⟩
  have hA := ha cpos pins s1 σ H1 _ I1 q1
  rw [hs] at hA ⊢
  refine Calls.callWith_builtin (by show (false || (backTo cpos (starEach es X.env)).any (·.1)) = false; rw [hplain] <;> rfl) (Calls.evalArgs_plain ?_)
  exact thn hA fun us s2 ⟨vs, H2, I2, r2, q2⟩ => hm pins s2 σ H2 x vs v us Q I2 r1 r2 q2
/- xs.append(e), list.index on a module's tuple .. are MtR facts of 06m -/
end
end L2

namespace L2
open PySem PySem.Spec PyProof.Rows

def MtM (X : Cx) (id : String) (r : V → List V → Hp → VK → Prop) : Prop :=
  ∀ (pins : List (Addr × Obj)) (s : Shared) (σ : St) (H : Hp) (x : V) (xs : List V) (v : Value) (us : List Value) (Q : VK), Inv X pins σ H s → RelV x v → Vals xs us → r x xs H Q →
    wpAny (model X.prog X.w) X.A (call (.builtin id) (v :: us)) (EP X pins σ Q) X.xe s

/-! ### lists of values -/
theorem Vals.one : ∀ {x : V} {us : List Value}, Vals [x] us → ∃ u, us = [u] ∧ RelV x u
  | _, _, .cons r .nil => ⟨_, rfl, r⟩
section
variable {X : Cx} {pins : List (Addr × Obj)} {σ : St} {H : Hp} {s : Shared} {l b : Addr} {xs ys zs : List V}

/-! ### the two steps: a tracked list is rewritten, a new list is laid -/
theorem Inv.lset {its its' : List Value} {n : Nat} {f : Array Value → Array Value} {t' : Nat} (I : Inv X pins σ H s) (hH : H l = some (.lst xs))
    (e : s.heap.get? l = some { cls := .type "list", data := .seq its.toArray n }) (hf : f its.toArray = its'.toArray) (hv : Vals ys its') (hz : ys.length ≤ sizeLine) :
    Inv X pins σ (upd H l (.lst ys)) { s with heap := s.heap.update l (Obj.mapSeq f), toks := t' } := by
  have q := PySem.IsL.update e f
  rw [hf] at q
  refine I.write (x := l) (e := l) (by rw [hH]; exact trivial) (.inl rfl) (fun b' u hb hu => (Heap.get?_update_other s.heap (Obj.mapSeq f) (Ne.symm hb)).trans hu) ⟨_, q⟩ ?_
  exact ⟨hz, its', _, hv, q⟩
theorem Inv.lnew {its : List Value} {t' : Nat} (I : Inv X pins σ H s) (hv : Vals ys its) (hz : ys.length ≤ sizeLine) :
    Inv X pins σ (upd H s.heap.objs.size (.lst ys)) { s with heap := s.heap.push { cls := .type "list", data := .seq its.toArray }, toks := t' } :=
  I.laid (fun _ _ q => Heap.get?_push_of_some _ q) (Nat.le_refl _) ⟨hz, its, 0, hv, Heap.get?_push_size _ rfl⟩
theorem Inv.fresh (I : Inv X pins σ H s) : H s.heap.objs.size = none := I.hok.fresh (Nat.le_refl _)
theorem Inv.lstM (I : Inv X pins σ H s) (hH : H l = some (.lst xs)) : xs.length ≤ sizeLine ∧ ∃ (its : List Value) (n : Nat), Vals xs its ∧ xs.length = its.length ∧ s.heap.get? l = some { cls := .type "list", data := .seq its.toArray n } := by
  obtain ⟨z, its, n, r, e⟩ := I.hok l _ hH
  exact ⟨z, its, n, r, r.length, e⟩

end

section
variable {X : Cx}

/-! ### methods -/
def rAppend : V → List V → Hp → VK → Prop := fun x vs H Q => ∃ l xs y, x = .ref l ∧ vs = [y] ∧ H l = some (.lst xs) ∧ xs.length < sizeLine ∧ Q .non (upd H l (.lst (xs ++ [y])))
theorem mt_append : MtM X "list.append" rAppend := by
  intro pins s σ H x vs v us Q I rx rv h
  obtain ⟨l, xs, y, rfl, rfl, hH, hz, q⟩ := h
  cases rx
  obtain ⟨u, rfl, ru⟩ := rv.one
  obtain ⟨z, its, n, r, hl, e⟩ := I.lstM hH
  refine call_meets F.slot_list_append ⟨_, e, rfl⟩ F.entry_list_append (F.args_list_append_2 _ _) (PySem.list_append l its.toArray n u (by rw [List.size_toArray]; omega)) ⟨e, ?_⟩
  refine ⟨.non, _, I.lset (its' := its ++ [u]) hH e (by simp) (r.append (.cons ru .nil)) ?_, rfl, q⟩
  rw [List.length_append, List.length_singleton]
  omega

/-! ### list + list, list += list, list * int -/
def rCat : R2 := fun x y H Q => ∃ l b xs zs, x = .ref l ∧ y = .ref b ∧ H l = some (.lst xs) ∧ H b = some (.lst zs) ∧ xs.length + zs.length ≤ sizeLine ∧ ∀ p, H p = none → Q (.ref p) (upd H p (.lst (xs ++ zs)))
theorem op_cat : OpR X (binaryOp .Add) rCat := by
  intro pins s σ H x y v u Q I rx ry h
  obtain ⟨l, b, xs, zs, rfl, rfl, hH, hB, hz, q⟩ := h
  cases rx
  cases ry
  obtain ⟨z, its, n, r, hl, e⟩ := I.lstM hH
  obtain ⟨z2, its2, n2, r2, hl2, e2⟩ := I.lstM hB
  refine PySem.P.add_list e e2 ?_ (by rw [List.size_toArray, List.size_toArray]; omega)
  have ea : its.toArray ++ its2.toArray = (its ++ its2).toArray := by simp
  rw [ea]
  exact ⟨.ref _, _, I.lnew (t' := s.toks) (r.append r2) (by rw [List.length_append]; omega), rfl, q _ I.fresh⟩
/-! ### del xs[i] -/
end

/-! ### xs[a:b] = ys -/
section
variable {prog : Program} {w : World} {A : Around} {E : Value → Shared → Prop} {s : Shared}
end

section
variable {X : Cx}
end
end L2

namespace Att
open PySem PySem.W PySem.Calls PyProof.Rows

/-! ### the script -/
theorem ints_of_wellAll {P : Params} {h : Heap} : ∀ (ns : List Int) (vs : List Value), WellAll P h vs (ns.map WData.int) → IntsAre vs ns := by
  intro ns
  induction ns with
  | nil =>
    intro vs w
    rw [List.map_nil] at w
    cases w
    exact .nil
  | cons n ns ih =>
    intro vs w
    rw [List.map_cons] at w
    cases w with
    | cons a b =>
      cases a
      exact .cons _ _ (ih _ b)

theorem script_of {l : OpenLaw} {n : Nat} (hn : l.most = some n) {P : Params} {h : Heap} {args : List WData} {vals : List Value}
    (hpre : l.row.toRowW.claim.pre args = true) (hwl : WellAll P h vals args) :
    ∃ a vs ns, vals = [Value.ref a] ∧ args = [WData.list (ns.map WData.int)] ∧ h.get? a = some { cls := .type "list", data := .seq vs.toArray } ∧ IntsAre vs ns ∧ ns.length ≤ n := by
  have hsh : WShape.hasAll [] args [.list .int] = true := (pre_splitW hpre).1
  have hc : l.pre.holds [] { args := args } = true := (pre_splitW hpre).2
  obtain ⟨d, r, rfl, h1, h2⟩ := hasAllW_cons hsh
  obtain rfl := hasAllW_nil h2
  obtain ⟨xs, rfl, h3⟩ := hasW_list h1
  obtain ⟨ns, rfl⟩ := items_int h3
  have hlen : ns.length ≤ n := by
    unfold OpenLaw.pre at hc
    have h4 : (WTm.not (.lt (.lit (.int (n : Int))) (.len (.arg 0)))).holds [] { args := [.list (ns.map .int)] } = true := by
      have h4 := (holds_andW hc).1
      rw [hn] at h4
      exact h4
    have h5 := condW_of h4 (w_not (w_lt w_lit (w_len_list (w_arg rfl))))
    rw [List.length_map] at h5
    refine Nat.le_of_not_lt fun q => ?_
    have q' : (n : Int) < ((ns.length : Nat) : Int) := by omega
    first
      | (rw [decide_eq_true q'] at h5; exact absurd h5 (by decide))
      | (simp at h5; omega)
  cases hwl with
  | cons w1 w2 =>
    cases w2
    cases w1 with
    | list ho hall => exact ⟨_, _, ns, rfl, rfl, ho, ints_of_wellAll ns _ hall, hlen⟩

theorem post_true (l : OpenLaw) (args : List WData) : l.row.toRowW.claim.post args (.bool true) args = true :=
  postW_of (r := l.row.toRowW) (X := (true == true))
    (show WShape.has [] (.bool true) .bool = true by first | rfl | decide | simp [WShape.has, WShape.arms, WShape.armsAll])
    (show (WTm.eq .res (.lit (.bool true))).value [] { args := args, res := some (.bool true), after := args } = some (.bool (true == true)) from w_eq_bool (w_res rfl) w_lit) rfl

/-! ### the attachment: holds_open's last premise (the goal 'hc' behind k_head) from a wpAny of the law's body -/
/-- the same from a codeAny of the CALL (for a layer whose function contracts speak of calls) -/
theorem attach_call {l : OpenLaw} {n : Nat} {q : Program} {loose : List Str} {XP : (Str → Option Value) → Heap → Prop} {YP : World → Heap → Prop} {d : DefRec}
    (hn : l.most = some n) (hdf : d.params.defaults = [])
    (call : ∀ (w : World) (s₀ s₁ : Shared) (mg mb : Str → Option Value) (fa : Addr) (o : Obj) (pm cd doc : Value) (a : Addr) (vs : List Value) (ns : List Int),
      Ground q loose [] XP w s₀ mg mb s₁.heap → YP w s₁.heap →
      s₁.heap.get? fa = some o → o.data = .func (docDef d.name d.params d.body d.scope pm cd doc) → s₁.heap.CodeRec cd d.name → mg d.name = some (.ref fa) →
      s₁.heap.get? a = some { cls := .type "list", data := .seq vs.toArray } → IntsAre vs ns → ns.length ≤ n → s₁.gens = #[] →
      codeAny (model l.prog w) callerA (.call (.ref fa) ⟨[.ref a], []⟩) (fun r s' => r = .ok (.ret (.bool true)) ∧ OldK s₁.heap s'.heap ∧ s'.os = s₁.os ∧ AllBare s'.gens) s₁) :
    WalkO q loose XP YP l.row.toRowW d [] (fun f vs => PySem.call f vs) := by
  intro w s₀ s₁ mg mb G Y fa o pm cd doc dV kV ho hd hcd hD hmg hg args vals as hpre hlay hrd hwl hlo
  obtain rfl : dV = .none := Dflts.none hD hdf
  obtain rfl : kV = .none := Dflts.noKw hD
  obtain ⟨a, vs, ns, rfl, rfl, hobj, hints, hlen⟩ := script_of hn hpre hwl
  refine enter_call (codeAny_mono (call w s₀ s₁ mg mb fa o pm cd doc a vs ns G Y ho (fd_plain hd) hcd hmg hobj hints hlen hg) fun r s' hq => ?_)
  obtain ⟨rfl, h2, h3, h4⟩ := hq
  exact ⟨.inl ⟨.bool true, .bool true, [], rfl, fun _ => rfl, .bool true, post_true l _, fun _ => ⟨List.Pairwise.nil, fun _ hm => (nomatch hm)⟩⟩, h2, h3, h4⟩

/-! ### rules over ANY heap (no ledger) from facts about the written part K: the library's own take a ledger (News) for what they write -/
section
variable {prog : Program} {w : World} {A : Around} {E : Value → Shared → Prop} {s : Shared} {K : Frag}

/-! the whole heap as the ledger: makes every rule that writes through a ledger a rule over any heap -/
end
end Att

namespace L2
open PySem PySem.Spec PyProof.Rows

theorem vals_ints : ∀ {vs : List Value} {ns : List Int}, IntsAre vs ns → Vals (ns.map V.int) vs
  | _, _, .nil => .nil
  | _, _, .cons n t h => .cons ⟨t, rfl⟩ (vals_ints h)

end L2

namespace L2
open PySem PySem.Spec PyProof.Rows

end L2

/- THE LAST THEOREM (shape; LID, My.* are yours):
   My.Adr: a structure of the addresses that your layer names (classes, functions); My.Txt K t: a structure (Prop) of the equations over K;
   My.txt_mk : {K} {implicit addresses ..} (e1 : nsIn K mainGlobals "law" = some (some (.ref f))) (e2 : K.lookup f = some ⟨oc, od, .func (fnOf "law" "law" params body scope dV kV doc pm an cdv ct), sl⟩) (e3 : codeIn K cdv "law" = true) .. : ∃ t, My.Txt K t

(the tactic k_is has no namespace: write k_is) -/

/-! SHORT WORDS over the layer: a def of the text, its body, what a loop and a test want. -/
namespace L2
open PySem PySem.Spec PyProof.Rows

/-! ### the text by places -/
def defArgs (s : Stmt) : Arguments := match s with
  | .FunctionDef _ a _ _ _ _ _ _ _ _ => a
  | _ => { posonlyargs := [], args := [], vararg := none, kwonlyargs := [], kw_defaults := [], kwarg := none, defaults := [] }
def defBody (s : Stmt) : List Stmt := match s with
  | .FunctionDef _ _ b _ _ _ _ _ _ _ => b
  | _ => []
def defScope (s : Stmt) : Scope := match s with
  | .FunctionDef _ _ _ _ _ _ sc _ _ _ => sc
  | _ => { kind := .function, names := [], isGenerator := false, isCoroutine := false }

/-! ### no exception leaves a def -/
abbrev E0 : XK := fun _ _ _ => False
/-! ### a def (or method) of the text as it stands behind the top -/
structure Fun (K : PySem.W.Frag) (x qual : Str) (st : Stmt) (f : Addr) (fd : FuncData) : Prop where
  ex : ∃ (oc : Value) (od : Option Addr) (kV doc pm : Value) (an : Option Addr) (cdv ct : Value) (osl : Array (Option Value)),
    fd = PySem.W.fnOf x qual (defArgs st) (defBody st) (defScope st) .none kV doc pm an cdv ct ∧ K.lookup f = some ⟨oc, od, .func fd, osl⟩ ∧ PySem.W.codeIn K cdv qual = true
  kp : PySem.W.keepIn K (.ref f) = true
section
variable {P : Program} {w : World} {K : PySem.W.Frag} {mg : Str → Option Value} {base : Heap}
/-- how its arguments bind (no defaults): h is «fun _ _ _ _ _ _ us hl => match us, hl with | [_, _], _ => rfl», one _ a parameter -/
theorem Fun.binds {x qual : Str} {st : Stmt} {f : Addr} {fd : FuncData} {ps : List Str} (F : Fun K x qual st f fd)
    (h : ∀ (kV doc pm : Value) (an : Option Addr) (cdv ct : Value) (us : List Value), us.length = ps.length → bindArgs (PySem.W.fnOf x qual (defArgs st) (defBody st) (defScope st) .none kV doc pm an cdv ct) ⟨us, []⟩ = pure (ps.zip us)) : Binds K fd ps [] := by
  obtain ⟨oc, od, kV, doc, pm, an, cdv, ct, osl, rfl, lk, hcd⟩ := F.ex
  exact .all (h kV doc pm an cdv ct)
theorem fun_mk {x qual : Str} {st : Stmt} {f : Addr} {oc : Value} {od an : Option Addr} {osl : Array (Option Value)} {kV doc pm cdv ct : Value} (l : K.lookup f = some ⟨oc, od, .func (PySem.W.fnOf x qual (defArgs st) (defBody st) (defScope st) .none kV doc pm an cdv ct), osl⟩)
    (c : PySem.W.codeIn K cdv qual = true) (k : PySem.W.keepIn K (.ref f) = true) : Fun K x qual st f (PySem.W.fnOf x qual (defArgs st) (defBody st) (defScope st) .none kV doc pm an cdv ct) := ⟨⟨oc, od, kV, doc, pm, an, cdv, ct, osl, rfl, l, c⟩, k⟩
end
theorem small1000 {n : Nat} (h : n ≤ 1000) : n < sizeLine := Nat.lt_of_le_of_lt h (by decide)

/-! ### expressions in short: the name that stands in the i-th slot -/
section
variable {X : Cx}
theorem pv (i : Nat) {x : Str} {pos : Pos} (hN : X.N[i]? = some x := by rfl) (hv : Vis X.env.scope x := by first | exact Or.inl rfl | exact Or.inr (Or.inl rfl) | exact Or.inr (Or.inr rfl)) (hd : (x == ("__debug__" : Str)) = false := by decide)
    (hcd : (x == ("__classdict__" : Str)) = false := by decide) : PE X (.Name x pos) (tVar i) := pe_var hN hv hd hcd
end

/-! ### tests -/
theorem iteF {A B : Prop} (h : B) : if false = true then A else B := by
  rw [if_neg Bool.false_ne_true]
  exact h
theorem iteT {A B : Prop} (h : A) : if true = true then A else B := by
  rw [if_pos rfl]
  exact h
/-! ### heaps -/
/-- all that was tracked is as it was -/
def Same (H H' : Hp) : Prop := ∀ b o, H b = some o → H' b = some o
theorem Same.refl (H : Hp) : Same H H := fun _ _ h => h
theorem Same.trans {H H1 H2 : Hp} (a : Same H H1) (b : Same H1 H2) : Same H H2 := fun c o h => b c o (a c o h)
theorem Same.seq {K : PySem.W.Frag} {H H' : Hp} {a : Addr} {xs : List V} (e : Same H H') (h : SqL K H a xs) : SqL K H' a xs := by
  rcases h with (h | ⟨o, h⟩) | h
  · exact .inl (.inl (e _ _ h))
  · exact .inl (.inr ⟨o, e _ _ h⟩)
  · exact .inr h

end L2

set_option Elab.async false
set_option linter.all false
set_option maxRecDepth 100000
set_option maxHeartbeats 4000000
/-! Exceptions over the hand layer: a raise of an own class, a call that may raise, try with one handler. -/
namespace L2
open PySem PySem.Spec PyProof.Rows

theorem nin {b : Addr} : b ∉ ([] : List Addr) := fun z => nomatch z
/-- an own exception class, as the written part has it -/
theorem exc_obj {K : PySem.W.Frag} {h : Heap} {C : Addr} {bmB : List Value} {newId : String} (X : K.In h) (q : PySem.W.excIn K C bmB newId = true) :
    ∃ tl N a1 a2 a3 a4 a5 a6 a7 a8 a9 b0 b1 b2 b3 b5 mN, h.get? C = some (excClassObj a1 a2 C N a3 tl a4 a5 a6 a7 a8 a9 b0 b1 b2 b3 b5 newId) ∧
      h.Ns N mN ∧ mN "__init__" = none ∧ OwnTail h bmB tl := by
  unfold PySem.W.excIn at q
  split at q
  · next dd cd sl ho =>
    split at q
    · next C1 tl x0 x1 x2 x3 nn x5 hm hs =>
      rw [Bool.and_eq_true, Bool.and_eq_true, Bool.and_eq_true, Bool.and_eq_true, Bool.and_eq_true] at q
      obtain ⟨⟨⟨⟨⟨p1, p2⟩, p3⟩, p4⟩, p5⟩, p6⟩ := q
      have p1' := eq_of_beq p1
      have p2' := eq_of_beq p2
      have p6' := eq_of_beq p6
      have p3' : cd.hasDel = false := by simpa using p3
      subst p1' p2'
      obtain ⟨f1, f2, f3, f4, f5, f6, f7, f8, f9, f10, f11⟩ := cd
      have hm' : f3 = Value.ref C1 :: tl := hm
      have p3'' : f11 = false := p3'
      subst hm' p3''
      have hsl : sl = #[x0, x1, x2, x3, some (.builtin nn), x5] := by
        cases sl with
        | mk l =>
          have : l = [x0, x1, x2, x3, some (.builtin nn), x5] := hs
          rw [this]
      subst hsl
      have nsok := PySem.W.isNs_of_in X p5
      exact ⟨tl, f4, f1, f5, f2, f6, f7, f8, f9, f10, dd, x0, x1, x2, x3, x5, _, X _ _ ho, .of_isNs nsok, PySem.W.nsMap_none_of_in X p5 p6', PySem.W.tail_of_in X p4⟩
    · exact absurd q (by decide)
  · exact absurd q (by decide)

/-- how an exception lies behind a call -/
def CXE (P : Program) (w : World) : CXT := fun outer H s E e s' =>
  ∃ (a C : Addr) (a0 : Value) (B : Heap) (H' : Hp), e = .ref a ∧ s'.os = s.os ∧ AllBare s'.gens ∧ Un (frs outer) [] H H' s.heap s'.heap ∧ HOk P w H' B ∧
    Heap.FlyingW B outer a (.ref C) a0 s'.heap ∧ (∀ b o, s.heap.get? b = some o → b ∉ frs outer → ∃ o', B.get? b = some o' ∧ (H b = none → o' = o)) ∧ E (.ref C) none H'

theorem CXE.no {P : Program} {w : World} {outer : List Env} {H : Hp} {s s' : Shared} {e : Value} (h : CXE P w outer H s E0 e s') : False := by
  obtain ⟨_, _, _, _, _, _, _, _, _, _, _, _, q⟩ := h
  exact q

/-- an exception of a callee reaches what is wanted here -/
def PassE (X : Cx) (E : St → XK) : Prop := ∀ (pins : List (Addr × Obj)) (σ : St) (H : Hp) (s : Shared) (e : Value) (s' : Shared), Inv X pins σ H s → CXE X.prog X.w X.stack H s (E σ) e s' → X.xe e s'
/-- one that is made here -/
def RaiseE (X : Cx) (E : St → XK) : Prop := ∀ (pins : List (Addr × Obj)) (σ : St) (H : Hp) (s : Shared) (h' : Heap) (e C : Addr) (vs : List Value), Inv X pins σ H s → Heap.MadeExcOf s.heap h' e (.ref C) vs → E σ (.ref C) none H → X.xe (.ref e) { s with heap := h' }

theorem frs_cons {env : Env} {L : Addr} {outer : List Env} (h : env.frame = some L) : frs (env :: outer) = L :: frs outer := by
  unfold frs
  rw [List.filterMap_cons, h]

section
variable {P : Program} {w : World} {K : PySem.W.Frag} {mg : Str → Option Value} {base : Heap} {N : List Str} {qual : Str} {scope : Scope} {f : Addr} {cdv : Value} {A : Around} {outer : List Env} {s0 : Shared} {H0 : Hp} {E : XK}

theorem passE_def : PassE (cxOf (CXE P w) P w K mg base N qual scope f cdv A outer s0 H0 E) (fun _ => E) := by
  intro pins σ H s e s' I hx
  obtain ⟨a, C, a0, B, H', rfl, hos, hba, un, hokB, hfl, old, q⟩ := hx
  have ub := I.base
  have hL : ∀ b o, s0.heap.get? b = some o → b ≠ s0.heap.objs.size := fun b o e z => Nat.lt_irrefl _ (z ▸ Heap.lt_size e)
  have hfs : frs (envOfC qual scope s0.heap.objs.size f cdv :: outer) = s0.heap.objs.size :: frs outer := frs_cons rfl
  have hmem : ∀ b o, s0.heap.get? b = some o → b ∉ frs outer → b ∉ frs (envOfC qual scope s0.heap.objs.size f cdv :: outer) := fun b o e n => by
    rw [hfs]
    intro z
    rcases List.mem_cons.mp z with z | z
    · exact hL b o e z
    · exact n z
  have hold : ∀ b o, s0.heap.get? b = some o → b ∉ frs outer → ∃ o', B.get? b = some o' ∧ (H0 b = none → o' = o) := fun b o e n => by
    obtain ⟨o1, e1⟩ := ub.there b o e nin
    obtain ⟨o2, e2, e3⟩ := old b o1 e1 (hmem b o e n)
    refine ⟨o2, e2, fun z => ?_⟩
    have e4 := ub.keep b o e z n nin
    have e5 := ub.free b o e z nin
    rw [e1] at e4
    rw [e3 e5]
    exact Option.some.inj e4
  refine wpAny_leaves_onW I.ok.frames rfl hfl fun h' hf' hup => ?_
  have toH : ∀ b, b ∈ frs outer → ∀ o, s0.heap.get? b = some o → H0 b = none → ∃ sl, h'.get? b = some { o with slots := sl } := fun b hb o e n => by
    obtain ⟨sl, e1⟩ := ub.slot b o e n hb nin
    obtain ⟨sl2, e2⟩ := un.slot b _ e1 (ub.free b o e n nin) (by show b ∈ frs (envOfC qual scope s0.heap.objs.size f cdv :: outer); rw [hfs]; exact .tail _ hb) nin
    obtain ⟨_, o3, e3, nf⟩ := hfl.2.2.1.mem (b := b) (by show b ∈ frs (envOfC qual scope s0.heap.objs.size f cdv :: outer); rw [hfs]; exact .tail _ hb)
    obtain ⟨sl4, e4⟩ := hup b o3 e3 nf
    rw [e2] at e3
    have e5 := Option.some.inj e3
    exact ⟨sl4, by rw [e4, ← e5]⟩
  refine ⟨a, C, a0, B, H', rfl, hos.trans I.os, hba, ⟨fun b o e n nb _ => ?_, fun b o e n hb _ => toH b hb o e n, fun b o e n _ => ?_, fun b o e _ => ?_, fun b xs e => un.tups b xs (ub.tups b xs e), fun b o u e => un.frzs b o u (ub.frzs b o u e), fun b ps e => ?_⟩, hokB, hf', hold, q⟩
  · obtain ⟨o', e1, e2⟩ := hold b o e nb
    rw [e2 n] at e1
    exact hf'.1 b o e1
  · obtain ⟨o1, e1⟩ := ub.there b o e nin
    exact un.free b o1 e1 (ub.free b o e n nin) nin
  · by_cases hb : b ∈ frs outer
    · obtain ⟨o1, e1⟩ := ub.there b o e nin
      obtain ⟨o2, e2⟩ := un.there b o1 e1 nin
      obtain ⟨_, o3, e3, nf⟩ := hfl.2.2.1.mem (b := b) (by show b ∈ frs (envOfC qual scope s0.heap.objs.size f cdv :: outer); rw [hfs]; exact .tail _ hb)
      obtain ⟨sl4, e4⟩ := hup b o3 e3 nf
      exact ⟨_, e4⟩
    · obtain ⟨o', e1, _⟩ := hold b o e hb
      exact ⟨o', hf'.1 b o' e1⟩
  · obtain ⟨m1, e1⟩ := ub.tbls b ps e
    obtain ⟨m2, e2⟩ := un.tbls b _ e1
    exact ⟨m1 ++ m2, by rw [e2, Array.append_assoc]⟩

theorem raiseE_def : RaiseE (cxOf (CXE P w) P w K mg base N qual scope f cdv A outer s0 H0 E) (fun _ => E) := by
  intro pins σ H s h' e C vs I hx q
  have ub := I.base
  have hfs : frs (envOfC qual scope s0.heap.objs.size f cdv :: outer) = s0.heap.objs.size :: frs outer := frs_cons rfl
  have hmem : ∀ b o, s0.heap.get? b = some o → b ∉ frs outer → b ∉ frs (envOfC qual scope s0.heap.objs.size f cdv :: outer) := fun b o e n => by
    rw [hfs]
    intro z
    rcases List.mem_cons.mp z with z | z
    · exact Nat.lt_irrefl _ (z ▸ Heap.lt_size e)
    · exact n z
  have hfree : ∀ b ∈ frs (envOfC qual scope s0.heap.objs.size f cdv :: outer), H b = none := I.stkFree
  have hB : ∀ b o, s.heap.get? b = some o → b ∉ frs (envOfC qual scope s0.heap.objs.size f cdv :: outer) → (PySem.W.hideAll s.heap (frs (envOfC qual scope s0.heap.objs.size f cdv :: outer))).get? b = some o := fun b o e n => PySem.W.hideAll_get _ e n
  have hokB : HOk P w H (PySem.W.hideAll s.heap (frs (envOfC qual scope s0.heap.objs.size f cdv :: outer))) := fun b u hb => by
    refine (I.hok b u hb).stay (fun c v hc ec => hB c v ec fun hm => ?_) (fun _ z => z) (fun _ _ z => z)
    have hn := hfree c hm
    rcases hc with rfl | hc
    · rw [hn] at hb; cases hb
    · rw [hn] at hc; cases hc
  have hold : ∀ b o, s0.heap.get? b = some o → b ∉ frs outer → ∃ o', (PySem.W.hideAll s.heap (frs (envOfC qual scope s0.heap.objs.size f cdv :: outer))).get? b = some o' ∧ (H0 b = none → o' = o) := fun b o e n => by
    obtain ⟨o1, e1⟩ := ub.there b o e nin
    refine ⟨o1, hB b o1 e1 (hmem b o e n), fun z => ?_⟩
    have e4 := ub.keep b o e z n nin
    rw [e1] at e4
    exact Option.some.inj e4
  have hst : s.heap.FunFrames base (envOfC qual scope s0.heap.objs.size f cdv :: outer) := I.stack
  have hff := PySem.W.funFrames_hide (as := frs (envOfC qual scope s0.heap.objs.size f cdv :: outer)) hst (fun env he b hb => List.mem_filterMap.mpr ⟨env, he, hb⟩)
  refine wpAny_leaves_madeW (base := PySem.W.hideAll s.heap (frs (envOfC qual scope s0.heap.objs.size f cdv :: outer))) (h := s.heap) I.ok.frames rfl (fun b o e => PySem.W.of_hideAll _ e) hff hx fun h'' t hf' _ _ hup => ?_
  have toF : ∀ b, b ∈ frs outer → ∃ o, s.heap.get? b = some o ∧ ∃ sl, h''.get? b = some { o with slots := sl } := fun b hb => by
    obtain ⟨_, o3, e3, nf⟩ := hst.mem (b := b) (by show b ∈ frs (envOfC qual scope s0.heap.objs.size f cdv :: outer); rw [hfs]; exact .tail _ hb)
    exact ⟨o3, e3, hup b o3 (hx.keeps b o3 e3) nf⟩
  refine ⟨e, C, .ref t, _, H, rfl, I.os, I.bare, ⟨fun b o e1 n nb _ => ?_, fun b o e1 n hb _ => ?_, fun b o e1 n _ => ub.free b o e1 n nin, fun b o e1 _ => ?_, ub.tups, ub.frzs, ub.tbls⟩, hokB, hf', hold, q⟩
  · obtain ⟨o', e2, e3⟩ := hold b o e1 nb
    rw [e3 n] at e2
    exact hf'.1 b o e2
  · obtain ⟨sl, e2⟩ := ub.slot b o e1 n hb nin
    obtain ⟨o3, e3, sl3, e4⟩ := toF b hb
    rw [e2] at e3
    have e5 := Option.some.inj e3
    exact ⟨sl3, by rw [e4, ← e5]⟩
  · by_cases hb : b ∈ frs outer
    · obtain ⟨o3, e3, sl3, e4⟩ := toF b hb
      exact ⟨_, e4⟩
    · obtain ⟨o', e2, _⟩ := hold b o e1 hb
      exact ⟨o', hf'.1 b o' e2⟩
end

/-! ### defs and calls -/
section
variable {P : Program} {w : World} {K : PySem.W.Frag} {mg : Str → Option Value} {base : Heap}
end

def tCallE (sp : Sp) (E : St → XK) (t : TA) : TE := fun σ H Q => t σ H fun vs H1 => sp vs H1 Q (E σ)
section
variable {X : Cx} {k : Nat} {f C : Addr} {fd : FuncData} {ps : List Str} {sp : Sp} {E : St → XK} {x m : Str} {p pos apos : Pos} {e o : Expr} {es : List Expr} {ta : TE} {t : TA}
theorem run_fnE {pins : List (Addr × Obj)} {σ : St} {H : Hp} {s : Shared} {Q : VK} {us : List Value} {vs : List V} (F : FnOk X.prog X.w X.K X.mg X.base (CXE X.prog X.w) k f fd ps sp) (hr : Room k X.A) (hb : Binds X.K fd ps []) (hx : PassE X E)
    (I : Inv X pins σ H s) (r : Vals vs us) (h : sp vs H Q (E σ)) : wpAny (model X.prog X.w) X.A (call (.ref f) us) (EP X pins σ Q) X.xe s := by
  have hl : (us ++ []).length = ps.length := by rw [List.append_nil, ← r.length]; exact F.len _ _ _ _ h
  have hb' := hb s us I.kIn hl
  rw [List.append_nil] at hb'
  refine wpAny_call (codeAny_mono (F.run X.A X.stack s H ⟨us, []⟩ us vs Q (E σ) hr I.env0 hb' r h) fun r s' hq => ?_)
  cases r with
  | error e => exact hx pins σ H s e s' I hq
  | ok fl =>
    cases fl with
    | ret u => exact I.after hq
    | next => exact False.elim hq
    | brk => exact False.elim hq
    | cont => exact False.elim hq
theorem pe_callE (F : FnOk X.prog X.w X.K X.mg X.base (CXE X.prog X.w) k f fd ps sp) (hr : Room k X.A) (hg : Gl X x) (hm : X.mg x = some (.ref f)) (hk : PySem.W.keepIn X.K (.ref f) = true) (hb : Binds X.K fd ps []) (hx : PassE X E)
    (ha : PA X (e :: es) t) (hdb : (x == ("__debug__" : Str)) = false := by decide) (he : starEach (e :: es) X.env = (false, eval e X.env) :: starEach es X.env := by rfl) (hpl : (backTo pos (starEach es X.env)).any (·.1) = false := by rfl) :
    PE X (.Call (.Name x p) (e :: es) [] pos) (tCallE sp E t) := by
  intro pins s σ H Q I h
  refine wpAny_Call_Name_kw (ld_glob I hg hm ?_ hdb)
  refine PySem.W.callWith_K (h₀ := X.base) I.ok.mod.kin hk (thn (ha pos pins s σ H _ I h) fun us s1 ⟨vs, H1, I1, r, q⟩ => ⟨I1.kIn, ?_⟩) he hpl
  exact run_fnE F hr hb hx I1 r q
end

/-! ### raise -/
/-- an own exception class under ValueError -/
structure ExcC (K : PySem.W.Frag) (C : Addr) : Prop where
  q : PySem.W.excIn K C [.type "ValueError", .type "Exception", .type "BaseException", .type "object"] "ValueError.__new__" = true
def tRaise (C : Addr) (E : St → XK) (t : TA) : TS := fun D σ H => t σ H fun vs H1 => vs.length ≤ sizeLine ∧ E σ (.ref C) none H1
section
variable {X : Cx} {C : Addr} {E : St → XK} {x : Str} {np cpos pos : Pos} {e : Expr} {es : List Expr} {t : TA}
theorem ps_raise (hc : X.calm = true) (c : ExcC X.K C) (hR : RaiseE X E) (hg : Gl X x) (hm : X.mg x = some (.ref C)) (ha : PA X (e :: es) t) (hdb : (x == ("__debug__" : Str)) = false := by decide)
    (he : starEach (e :: es) X.env = (false, eval e X.env) :: starEach es X.env := by rfl) (hpl : (backTo cpos (starEach es X.env)).any (·.1) = false := by rfl) :
    PS X (.Raise (some (.Call (.Name x np) (e :: es) [] cpos)) none pos) (tRaise C E t) := by
  intro pins s σ H D I h
  obtain ⟨tl, N, a1, a2, a3, a4, a5, a6, a7, a8, a9, b0, b1, b2, b3, b5, mN, hC, hN, hni, T⟩ := exc_obj I.ok.mod.kin c.q
  refine wpAny_Raise_call_subT (C := C) (nm := a1) (q := a2) (N := N) (bs := a3) (bm := tl) (hdct := a4) (sn := a5) (sub := a6) (ab := a7) (col := a8) (dd := a9) (k0 := b0) (k1 := b1) (k2 := b2) (k3 := b3) (k5 := b5)
    PySem.F.excBase_ValueError (mN := mN) (T.hasType PySem.F.excBase_ValueError.hasBase) (I.ok.hd hc) (by rw [he]; show (false || (backTo cpos (starEach es X.env)).any (·.1)) = false; rw [hpl]; rfl) hni (ld_glob I hg hm ⟨rfl, ?_⟩ hdb)
  have hw := ha cpos pins s σ H _ I h
  rw [he] at hw ⊢
  refine Calls.evalArgs_plain (wpAny_mono hw (fun us s1 ⟨vs, H1, I1, r, hl, q⟩ => ⟨rfl, by rw [← r.length]; exact hl, I1.bk _ _ hC, hN.keeps I1.bk, T.keeps I1.bk, fun h' e hx => hR pins σ H1 s1 h' e C us I1 hx q⟩) fun _ _ z => z)
end
end L2

set_option Elab.async false
set_option linter.all false
set_option maxRecDepth 100000
set_option maxHeartbeats 4000000
/-! try with one handler of one own class -/
namespace L2
open PySem PySem.Spec PyProof.Rows

/-- within an except suite -/
abbrev Cx.handling (X : Cx) (e : Addr) : Cx := { X with A := X.A.mark (some (.ref e)), calm := false, xe := fun _ _ => False }
/-- within a try's body -/
abbrev Cx.trying (X : Cx) (pn : List (Addr × Obj)) (xe : Value → Shared → Prop) : Cx := { X with pn := pn, xe := xe }
section
variable {X : Cx} {pins : List (Addr × Obj)} {σ : St} {H H' : Hp} {s s' : Shared} {e : Addr}
theorem Cx.Ok.handling (o : X.Ok) (e : Addr) : (X.handling e).Ok :=
  ⟨o.mod, o.kind, o.glob, o.blt, o.above, o.inj, o.has, o.cab, fun z => (Bool.false_ne_true z).elim, o.frames, o.stk, o.exf, o.bs, o.bsz, o.noex, o.exfs, o.funs, o.frf⟩
theorem Cx.Ok.trying (o : X.Ok) (pn : List (Addr × Obj)) (xe : Value → Shared → Prop) : (X.trying pn xe).Ok :=
  ⟨o.mod, o.kind, o.glob, o.blt, o.above, o.inj, o.has, o.cab, o.hd, o.frames, o.stk, o.exf, o.bs, o.bsz, o.noex, o.exfs, o.funs, o.frf⟩
theorem Inv.handling (I : Inv X pins σ H s) (e : Addr) : Inv (X.handling e) pins σ H s := ⟨I.ok.handling e, I.os, I.bare, I.base, I.loc, I.cell, I.free, I.freeC, I.pin, I.hok, I.len⟩
theorem Inv.unhandling (o : X.Ok) (I : Inv (X.handling e) pins σ H s) : Inv X pins σ H s := ⟨o, I.os, I.bare, I.base, I.loc, I.cell, I.free, I.freeC, I.pin, I.hok, I.len⟩
theorem Inv.trying (I : Inv X pins σ H s) (xe : Value → Shared → Prop) : Inv (X.trying (X.pn ++ pins) xe) [] σ H s :=
  ⟨I.ok.trying _ _, I.os, I.bare, I.base, I.loc, I.cell, I.free, I.freeC, fun p hp => I.pin p ((List.mem_append.mp hp).elim (fun z => z) fun z => nomatch z), I.hok, I.len⟩
theorem Inv.untrying {pins' : List (Addr × Obj)} {xe : Value → Shared → Prop} (o : X.Ok) (I : Inv (X.trying (X.pn ++ pins) xe) pins' σ H s) : Inv X pins σ H s :=
  ⟨o, I.os, I.bare, I.base, I.loc, I.cell, I.free, I.freeC, fun p hp => I.pin p (List.mem_append_left _ hp), I.hok, I.len⟩
theorem SP.untrying {pins' : List (Addr × Obj)} {xe : Value → Shared → Prop} {D : Ends} {f : Flow} (o : X.Ok) (h : SP (X.trying (X.pn ++ pins) xe) pins' D f s') : SP X pins D f s' := by
  cases f with
  | next => obtain ⟨a, b, c, d⟩ := h; exact ⟨a, b, c.untrying o, d⟩
  | brk => obtain ⟨a, b, c, d⟩ := h; exact ⟨a, b, c.untrying o, d⟩
  | cont => obtain ⟨a, b, c, d⟩ := h; exact ⟨a, b, c.untrying o, d⟩
  | ret u => obtain ⟨v, a, b, c, d⟩ := h; exact ⟨v, a, b, c.untrying o, d⟩
theorem SP.unhandling {D : Ends} {f : Flow} (o : X.Ok) (h : SP (X.handling e) pins D f s') : SP X pins D f s' := by
  cases f with
  | next => obtain ⟨a, b, c, d⟩ := h; exact ⟨a, b, c.unhandling o, d⟩
  | brk => obtain ⟨a, b, c, d⟩ := h; exact ⟨a, b, c.unhandling o, d⟩
  | cont => obtain ⟨a, b, c, d⟩ := h; exact ⟨a, b, c.unhandling o, d⟩
  | ret u => obtain ⟨v, a, b, c, d⟩ := h; exact ⟨v, a, b, c.unhandling o, d⟩

/-- the raised class and the handler's -/
def CatchR (K : PySem.W.Frag) (C D : Addr) : Prop := ∀ {M : Model} {A : Around} {E : Value → Shared → Prop} {h : Heap} {g : Array GenState} {d : Drawn} {t : Nat} {os : OsState} {e : Addr} {oe : Obj} {Q : Bool → Shared → Prop},
  K.In h → h.get? e = some oe → oe.cls = .ref C → Q true ⟨h, g, d, t, os⟩ → wpAny M A (excMatches (.ref e) (.ref D)) Q E ⟨h, g, d, t, os⟩
theorem catch_self {K : PySem.W.Frag} {C : Addr} (c : ExcC K C) : CatchR K C C := by
  intro M A E h g d t os e oe Q X he hc q
  obtain ⟨tl, N, a1, a2, a3, a4, a5, a6, a7, a8, a9, b0, b1, b2, b3, b5, mN, hC, hN, hni, T⟩ := exc_obj X c.q
  exact wpAny_excMatches_sub_self hC he hc (T.hasType PySem.F.excBase_ValueError.hasBase) q

theorem land {E : XK} {ev : Value} {x : Str} {D0 : Addr} {np hpos : Pos} {b₀ : Stmt} {suite : List Stmt} {rest : List ExceptHandler} {th : TS} {D : Ends} (I : Inv X pins σ H s) (hst : X.stack = X.env :: X.outer) (hfr : X.env.frame = some X.env.locals)
    (hg : Gl X x) (hm : X.mg x = some (.ref D0)) (hdb : (x == ("__debug__" : Str)) = false) (hx : CXE X.prog X.w X.stack H s E ev s') (hE : ∀ c d H', E c d H' → ∃ C, c = .ref C ∧ CatchR X.K C D0 ∧ th D σ H') (hh : ∀ e, PSs (X.handling e) (b₀ :: suite) th) :
    wpAny (model X.prog X.w) X.A (noteFrame ev X.env) (fun _ s2 => wpAny (model X.prog X.w) X.A (setFlight ev none) (fun _ s3 =>
      wpAny (model X.prog X.w) X.A (handleBy ev X.env (.ExceptHandler (some (.Name x np)) none (b₀ :: suite) hpos :: rest)) (SP X pins D) X.xe s3) X.xe s2) X.xe s' := by
  obtain ⟨a, C, a0, B, H', rfl, hos, hba, un, hokB, hfl, old, q⟩ := hx
  obtain ⟨C1, e1, hcat, hth⟩ := hE _ _ _ q
  cases e1
  have mk : ∀ (h6 : Heap), Heap.FlyingW B X.stack a (.ref C) a0 h6 → s'.heap.UpToSlots h6 → Inv X pins σ H' { s' with heap := h6 } := fun h6 fl up => by
    refine I.call' (s' := { s' with heap := h6 }) (ch := []) hos ⟨fun b o e n nb _ => ?_, fun b o e n hb _ => ?_, fun b o e n _ => un.free b o e n nin, fun b o e _ => ?_, un.tups, un.frzs, un.tbls⟩ (hokB.kept fl.1) hba (fun b z => nomatch z)
    · obtain ⟨o', e1, e2⟩ := old b o e nb
      rw [e2 n] at e1
      exact fl.1 b o e1
    · obtain ⟨sl, e2⟩ := un.slot b o e n hb nin
      obtain ⟨_, o3, e3, nf⟩ := hfl.2.2.1.mem (b := b) hb
      obtain ⟨sl4, e4⟩ := up b o3 e3 nf
      rw [e2] at e3
      have e5 := Option.some.inj e3
      exact ⟨sl4, by show h6.get? b = _; rw [e4, ← e5]⟩
    · by_cases hb : b ∈ frs X.stack
      · obtain ⟨_, o3, e3, nf⟩ := hfl.2.2.1.mem (b := b) hb
        obtain ⟨sl4, e4⟩ := up b o3 e3 nf
        exact ⟨_, e4⟩
      · obtain ⟨o', e1, _⟩ := old b o e hb
        exact ⟨o', fl.1 b o' e1⟩
  have hfrm : X.A.frames = some (X.env :: X.outer) := by rw [← hst]; exact I.ok.frames
  have hfl' : Heap.FlyingW B (X.env :: X.outer) a (.ref C) a0 s'.heap := by rw [← hst]; exact hfl
  refine wpAny_looks_onW hfrm hfr hfl' fun h4 held4 up4 => ?_
  refine wpAny_landsW held4 fun h5 fl5 up5 => ?_
  have I5 := mk h5 (by rw [hst]; exact fl5) (up4.trans up5)
  have I5h := I5.handling a
  obtain ⟨ob, hob, hobc⟩ := fl5.there
  refine wpAny_handleBy_cons (codeAny_handlers_test (ld_glob (X := X.handling a) I5h hg hm ?_ hdb)) (by intro z; cases z)
  obtain ⟨hp, gg, dd, tk, os⟩ := s'
  refine hcat (h := h5) I5.kIn hob hobc ?_
  refine codeAny_handlers_suite ?_
  refine lands_againW fl5 fun h6 fl6 up6 => ?_
  have I6 := (mk h6 (by rw [hst]; exact fl6) ((up4.trans up5).trans up6)).handling a
  exact wpAny_mono (hh a pins _ σ H' D I6 hth) (fun f s2 h2 => h2.unhandling I.ok) fun _ _ z => z.elim
end

def tTry (K : PySem.W.Frag) (D0 : Addr) (tb : (St → XK) → TS) (th : TS) : TS := fun D σ H => tb (fun σ' c _ H' => ∃ C, c = .ref C ∧ CatchR K C D0 ∧ th D σ' H') D σ H
section
variable {X : Cx} {x : Str} {D0 : Addr} {np hpos pos : Pos} {b₀ : Stmt} {body suite : List Stmt} {tb : (St → XK) → TS} {th : TS}
theorem ps_try (hst : X.stack = X.env :: X.outer) (hfr : X.env.frame = some X.env.locals) (hg : Gl X x) (hm : X.mg x = some (.ref D0))
    (hb : ∀ (pn : List (Addr × Obj)) (xe : Value → Shared → Prop) (E : St → XK), PassE (X.trying pn xe) E → PassesOwn (model X.prog X.w) X.A X.env xe → PSs (X.trying pn xe) body (tb E))
    (hh : ∀ e, PSs (X.handling e) (b₀ :: suite) th) (hdb : (x == ("__debug__" : Str)) = false := by decide) :
    PS X (.Try body [.ExceptHandler (some (.Name x np)) none (b₀ :: suite) hpos] [] [] pos) (tTry X.K D0 tb th) := by
  intro pins s σ H D I h
  refine wpAny_Try_except ?_
  refine wpAny_mono (hb (X.pn ++ pins) (fun e s₁ => wpAny (model X.prog X.w) X.A (noteFrame e X.env) (fun _ s₂ => wpAny (model X.prog X.w) X.A (setFlight e none) (fun _ s₃ =>
      wpAny (model X.prog X.w) X.A (handleBy e X.env [.ExceptHandler (some (.Name x np)) none (b₀ :: suite) hpos]) (SP X pins D) X.xe s₃) X.xe s₂) X.xe s₁) _ ?_ PassesOwn.looking [] s σ H D (I.trying _) h) (fun f s1 h1 => ?_) fun _ _ z => z
  · intro pins' σ' H1 s1 e s1' I1 hx
    exact land (X := X) (I1.untrying I.ok) hst hfr hg hm hdb hx (fun c d H' q => q) hh
  · have h2 := h1.untrying I.ok
    cases f with
    | next => exact wpAny_execs_nil h2
    | brk => exact h2
    | cont => exact h2
    | ret u => exact h2
end
end L2

set_option Elab.async false
set_option linter.all false
set_option maxRecDepth 100000
set_option maxHeartbeats 4000000
/-! more operations: products and quotients of larger ints, isinstance, == and != of data -/
namespace L2
open PySem PySem.Spec PyProof.Rows

/-- at most n bits -/
def Sm (n : Nat) (i : Int) : Prop := i.natAbs < 2 ^ n
theorem Sm.bits {n : Nat} {i : Int} (h : Sm n i) : Builtin.Int.intBits i ≤ n := PyProof.Rows.intBits_le h
theorem Sm.mono {n m : Nat} {i : Int} (h : Sm n i) (hm : n ≤ m) : Sm m i := Nat.lt_of_lt_of_le h (Nat.pow_le_pow_right (by decide) hm)
theorem Sm.mul {n m : Nat} {i j : Int} (h : Sm n i) (h' : Sm m j) : Sm (n + m) (i * j) := by
  unfold Sm at *
  rw [Int.natAbs_mul, Nat.pow_add]
  exact Nat.mul_lt_mul_of_lt_of_le h (Nat.le_of_lt h') (Nat.two_pow_pos m)
theorem Sm.ok {n m : Nat} {i j : Int} (h : Sm n i) (h' : Sm m j) (e : n + m ≤ 134217728) : IntMulOk i j := IntMulOk.of_le h.bits h'.bits e
theorem Sm.log {n : Nat} {i : Int} (h : Sm n i) (hn : n ≤ 9000) : i.natAbs.log2 < 9000 := by
  by_cases h0 : i.natAbs = 0
  · rw [h0]
    decide
  · exact Nat.lt_of_lt_of_le ((Nat.log2_lt h0).mpr h) hn
theorem Sm.noPl {n : Nat} {i j : Int} (h : Sm n j) (hn : n ≤ 9000) : Builtin.divisionGoesByPylong i j = false := PyProof.noPylong_of_log2 (h.log hn)

section
variable {X : Cx}
/-- a product; asked: IntMulOk (Sm.ok) -/
theorem op_mulX : OpR X (binaryOp .Mult) (rI IntMulOk fun i j => .int (i * j)) := opI fun _ _ _ _ _ _ _ hc q => mul_int q hc
/-- // by a positive divisor of at most 9000 bits -/
theorem op_fdivX : OpR X (binaryOp .FloorDiv) (rI (fun _ j => 0 < j ∧ Sm 9000 j) fun i j => .int (i / j)) := opI fun i j _ _ _ _ _ hc q =>
  floordiv_int (by omega) (by rw [Int.fdiv_eq_ediv_of_nonneg i (Int.le_of_lt hc.1)]; exact q) (.inl (hc.2.noPl (Nat.le_refl _)))
/-- isinstance(x, T) for a built-in type -/
theorem call_isinst : CallR X (.builtin "isinstance") (fun xs H Q => ∃ x T t b, xs = [x, .ty T] ∧ TyOf X.K H x t ∧ PySem.W.kitOne X.K t (.type T) = some b ∧ Q (.bl b) H) := by
  intro pins s σ H xs us Q I r h
  obtain ⟨x, T, t, b, rfl, ty, e, q⟩ := h
  obtain ⟨u, u', rfl, r1, r2⟩ := vals2 r
  cases r2
  exact isinst_ok I r1 ty e fun tk => ⟨.bl b, H, I.tok tk, rfl, q⟩
end

/-! ### data: what is read through the heap -/
mutual
def RD (K : PySem.W.Frag) (H : Hp) : PyData → V → Prop
  | .none, v => v = .non
  | .bool b, v => v = .bl b
  | .int i, v => v = .int i
  | .str x, v => v = .str x
  | .list ds, v => ∃ a xs, v = .ref a ∧ SqL K H a xs ∧ RDs K H ds xs
  | .tuple ds, v => ∃ a xs, v = .ref a ∧ SqT K H a xs ∧ RDs K H ds xs
  | .dict _, _ => False
def RDs (K : PySem.W.Frag) (H : Hp) : List PyData → List V → Prop
  | [], xs => xs = []
  | d :: ds, xs => ∃ y ys, xs = y :: ys ∧ RD K H d y ∧ RDs K H ds ys
end
section
variable {X : Cx} {pins : List (Addr × Obj)} {σ : St} {H : Hp} {s : Shared}
mutual
theorem reads_of (I : Inv X pins σ H s) : ∀ (d : PyData) (v : V) (u : Value), RD X.K H d v → RelV v u → ∃ as, Reads s.heap u d as
  | .none, v, u, h, r => by
    rw [RD] at h; subst h
    cases (show u = Value.none from r)
    exact ⟨_, .none⟩
  | .bool b, v, u, h, r => by
    rw [RD] at h; subst h
    cases (show u = Value.bool b from r)
    exact ⟨_, .bool b⟩
  | .int i, v, u, h, r => by
    rw [RD] at h; subst h
    obtain ⟨t, rfl⟩ := (show ∃ t, u = Value.int i t from r)
    exact ⟨_, .int i t⟩
  | .str x, v, u, h, r => by
    rw [RD] at h; subst h
    obtain ⟨t, rfl⟩ := (show ∃ t, u = Value.str x t from r)
    exact ⟨_, .str x t⟩
  | .list ds, v, u, h, r => by
    rw [RD] at h
    obtain ⟨a, xs, rfl, hs, hd⟩ := h
    cases (show u = Value.ref a from r)
    obtain ⟨its, rv, ⟨o, n, e1, e2, _, e3⟩, _⟩ := I.list hs
    obtain ⟨as, ha⟩ := reads_ofs I ds xs its hd rv
    exact ⟨_, .list e1 e2 e3 (by simpa using ha)⟩
  | .tuple ds, v, u, h, r => by
    rw [RD] at h
    obtain ⟨a, xs, rfl, hs, hd⟩ := h
    cases (show u = Value.ref a from r)
    obtain ⟨its, rv, ⟨o, e1, e2, n, e3⟩, _⟩ := I.tuple hs
    obtain ⟨as, ha⟩ := reads_ofs I ds xs its hd rv
    exact ⟨_, .tuple e1 e2 e3 (by simpa using ha)⟩
  | .dict _, _, _, h, _ => by
    rw [RD] at h
    exact h.elim
theorem reads_ofs (I : Inv X pins σ H s) : ∀ (ds : List PyData) (vs : List V) (us : List Value), RDs X.K H ds vs → Vals vs us → ∃ as, ReadsAll s.heap us ds as
  | [], vs, us, h, r => by
    rw [RDs] at h; subst h
    cases r
    exact ⟨_, .nil⟩
  | d :: ds, vs, us, h, r => by
    rw [RDs] at h
    obtain ⟨y, ys, rfl, h1, h2⟩ := h
    cases r with
    | cons r1 r2 =>
      obtain ⟨as, a1⟩ := reads_of I d y _ h1 r1
      obtain ⟨bs, a2⟩ := reads_ofs I ds ys _ h2 r2
      exact ⟨_, .cons a1 a2⟩
end
/-- two data compared -/
def rEqD (K : PySem.W.Frag) (neg : Bool) : R2 := fun x y H Q => ∃ d e, RD K H d x ∧ RD K H e y ∧ d.canLay0 = true ∧ e.canLay0 = true ∧ min d.depth e.depth ≤ 60 ∧ Q (.bl (if neg then !PyData.eqv d e else PyData.eqv d e)) H
theorem op_neD (hu : X.A.units + 64 < cLine) : OpR X (compareOp .NotEq) (rEqD X.K true) := by
  intro pins s σ H x y v u Q I rx ry h
  obtain ⟨d, e, h1, h2, c1, c2, dp, q⟩ := h
  obtain ⟨as, a1⟩ := reads_of I d x v h1 rx
  obtain ⟨bs, a2⟩ := reads_of I e y u h2 ry
  exact PySem.SeqAt.compareNe_reads a1 a2 c1 c2 (by omega) ⟨.bl _, H, I, rfl, q⟩
end
/-! ints, points, lists of them, as data -/
def ptD (p : Int × Int) : PyData := .tuple [.int p.1, .int p.2]
theorem eqv_ints : ∀ (xs ys : List Int), PyData.eqvAll (xs.map .int) (ys.map .int) = decide (xs = ys)
  | [], [] => rfl
  | [], _ :: _ => rfl
  | _ :: _, [] => rfl
  | x :: xs, y :: ys => by
    rw [List.map_cons, List.map_cons, PyData.eqvAll, eqv_ints xs ys, PyData.eqv]
    by_cases h : x = y
    · subst h; simp
    · simp [h]
theorem eqv_pt (p q : Int × Int) : PyData.eqv (ptD p) (ptD q) = decide (p = q) := by
  obtain ⟨a, b⟩ := p
  obtain ⟨c, d⟩ := q
  unfold ptD
  rw [PyData.eqv]
  have := eqv_ints [a, b] [c, d]
  rw [List.map_cons, List.map_cons, List.map_nil, List.map_cons, List.map_cons, List.map_nil] at this
  rw [this]
  simp
theorem eqv_pts : ∀ (xs ys : List (Int × Int)), PyData.eqvAll (xs.map ptD) (ys.map ptD) = decide (xs = ys)
  | [], [] => rfl
  | [], _ :: _ => rfl
  | _ :: _, [] => rfl
  | x :: xs, y :: ys => by
    rw [List.map_cons, List.map_cons, PyData.eqvAll, eqv_pts xs ys, eqv_pt]
    by_cases h : x = y
    · subst h; simp
    · simp [h]
theorem lay_pts : ∀ (xs : List (Int × Int)), PyData.canLayAll0 (xs.map ptD) = true
  | [] => rfl
  | x :: xs => by rw [List.map_cons, PyData.canLayAll0, lay_pts xs]; rfl
theorem dep_pts : ∀ (xs : List (Int × Int)), PyData.depthAll (xs.map ptD) ≤ 2
  | [] => by simp [PyData.depthAll]
  | x :: xs => by
    have := dep_pts xs
    simp only [List.map_cons, PyData.depthAll, PyData.depth, ptD]
    omega
end L2

set_option Elab.async false
set_option linter.all false
set_option maxRecDepth 100000
set_option maxHeartbeats 4000000
/-! defs as they are called; a cut between two statements -/
namespace L2
open PySem PySem.Spec PyProof.Rows

section
variable {P : Program} {w : World} {K : PySem.W.Frag} {mg : Str → Option Value} {base : Heap}
theorem Fun.okX {x qual : Str} {st : Stmt} {f : Addr} {fd : FuncData} {N ps : List Str} {k : Nat} {sp : Sp} (F : Fun K x qual st f fd) (S : FnScope N ps (defScope st)) (len : ∀ vs H Q E, sp vs H Q E → vs.length = ps.length)
    (body : ∀ (cdv : Value) (A : Around) (outer : List Env) (s : Shared) (H : Hp) (vs : List V) (Q : VK) (E : XK), Room k (A.deeper (envOfC qual (defScope st) s.heap.objs.size f cdv)) → sp vs H Q E →
      ∃ t, PSs (cxOf (CXE P w) P w K mg base N qual (defScope st) f cdv A outer s H E) (defBody st) t ∧ t { nx := fun _ H' => Q .non H', rt := Q } (start N vs) H) : FnOk P w K mg base (CXE P w) (k + 1) f fd ps sp := by
  obtain ⟨oc, od, kV, doc, pm, an, cdv, ct, osl, rfl, lk, hcd⟩ := F.ex
  exact fn_of lk hcd S len fun A outer s H vs Q E hr hsp => body cdv A outer s H vs Q E hr hsp

/-- a def of the text, as the written part has it -/
structure DefIn (K : PySem.W.Frag) (x : Str) (st : Stmt) : Prop where
  ex : ∃ f fd, PySem.W.nsIn K mainGlobals x = some (some (.ref f)) ∧ Fun K x x st f fd
theorem def_mk {x : Str} {st : Stmt} {f : Addr} {oc : Value} {od an : Option Addr} {osl : Array (Option Value)} {kV doc pm cdv ct : Value} (a : PySem.W.nsIn K mainGlobals x = some (some (.ref f)))
    (l : K.lookup f = some ⟨oc, od, .func (PySem.W.fnOf x x (defArgs st) (defBody st) (defScope st) .none kV doc pm an cdv ct), osl⟩) (c : PySem.W.codeIn K cdv x = true) (k : PySem.W.keepIn K (.ref f) = true) : DefIn K x st := ⟨_, _, a, fun_mk l c k⟩
/-- how the arguments of a def without defaults bind -/
def BindOk (x : Str) (st : Stmt) (ps : List Str) : Prop := ∀ (kV doc pm : Value) (an : Option Addr) (cdv ct : Value) (us : List Value), us.length = ps.length → bindArgs (PySem.W.fnOf x x (defArgs st) (defBody st) (defScope st) .none kV doc pm an cdv ct) ⟨us, []⟩ = pure (ps.zip us)
/-- what may be called by its name -/
structure Cal (P : Program) (w : World) (K : PySem.W.Frag) (mg : Str → Option Value) (base : Heap) (x : Str) (k : Nat) (sp : Sp) : Prop where
  ex : ∃ f fd ps, mg x = some (.ref f) ∧ FnOk P w K mg base (CXE P w) k f fd ps sp ∧ PySem.W.keepIn K (.ref f) = true ∧ Binds K fd ps []
theorem DefIn.cal {x : Str} {st : Stmt} {ps : List Str} {k : Nat} {sp : Sp} {h : Heap} (d : DefIn K x st) (KX : K.In h) (G : h.Ns mainGlobals mg) (b : BindOk x st ps) (ok : ∀ f fd, Fun K x x st f fd → FnOk P w K mg base (CXE P w) k f fd ps sp) : Cal P w K mg base x k sp := by
  obtain ⟨f, fd, a, F⟩ := d.ex
  exact ⟨f, fd, ps, PySem.W.mg_of KX G a, ok f fd F, F.kp, F.binds b⟩
end
section
variable {X : Cx} {x : Str} {k : Nat} {sp : Sp} {E : St → XK} {p pos : Pos} {e : Expr} {es : List Expr} {t : TA}
theorem pe_callC (c : Cal X.prog X.w X.K X.mg X.base x k sp) (hr : Room k X.A) (hg : Gl X x) (hx : PassE X E)
    (ha : PA X (e :: es) t) (hdb : (x == ("__debug__" : Str)) = false := by decide) (he : starEach (e :: es) X.env = (false, eval e X.env) :: starEach es X.env := by rfl) (hpl : (backTo pos (starEach es X.env)).any (·.1) = false := by rfl) :
    PE X (.Call (.Name x p) (e :: es) [] pos) (tCallE sp E t) := by
  obtain ⟨f, fd, ps, hm, F, kp, b⟩ := c.ex
  exact pe_callE F hr hg hm kp b hx ha hdb he hpl
end
/-- a word between two statements -/
def tCut (t u : TS) : TS := fun D σ H => ∃ R : St → Hp → Prop, t { D with nx := R } σ H ∧ ∀ σ' H', R σ' H' → u D σ' H'
theorem pss_cut {X : Cx} {st : Stmt} {rest : List Stmt} {t u : TS} (h1 : PS X st t) (h2 : PSs X rest u) : PSs X (st :: rest) (tCut t u) := by
  intro pins s σ H D I ⟨R, h, hR⟩
  refine wpAny_execs_cons (thn (h1 pins s σ H { D with nx := R } I h) fun f s1 q => ?_)
  cases f with
  | next =>
    obtain ⟨σ1, H1, I1, q1⟩ := q
    exact h2 pins s1 σ1 H1 D I1 (hR σ1 H1 q1)
  | brk => exact q
  | cont => exact q
  | ret u => exact q
theorem iteD {c A B : Prop} [Decidable c] (h1 : c → A) (h2 : ¬ c → B) : if decide c = true then A else B := by
  by_cases h : c
  · rw [decide_eq_true h]
    exact iteT (h1 h)
  · rw [decide_eq_false h]
    exact iteF (h2 h)
theorem iteND {c A B : Prop} [Decidable c] (h1 : ¬ c → A) (h2 : c → B) : if (!decide c) = true then A else B := by
  by_cases h : c
  · rw [decide_eq_true h]
    exact iteF (h2 h)
  · rw [decide_eq_false h]
    exact iteT (h1 h)
/-! two ints compared by == -/
theorem deqI {i j : Int} : decide (V.int i = V.int j) = decide (i = j) := by
  by_cases h : i = j
  · subst h; simp
  · simp [h]
theorem iteDV {i j : Int} {A B : Prop} (h1 : i = j → A) (h2 : i ≠ j → B) : if decide (V.int i = V.int j) = true then A else B := by
  rw [deqI]
  exact iteD h1 h2
theorem iteNDV {i j : Int} {A B : Prop} (h1 : i ≠ j → A) (h2 : i = j → B) : if (!decide (V.int i = V.int j)) = true then A else B := by
  rw [deqI]
  exact iteND h1 h2
/-! reading through a heap that has grown -/
theorem Same.upd {H : Hp} {p : Addr} {o : HO} (n : H p = none) : Same H (upd H p o) := fun b u e => by
  rw [upd_ne (ne_of_none e n)]
  exact e
theorem Same.sql {K : PySem.W.Frag} {H H' : Hp} {a : Addr} {xs : List V} (h : Same H H') (s : SqL K H a xs) : SqL K H' a xs := h.seq s
theorem boot_abs : bootBuiltins "abs" = some (.builtin "abs") := by decide +kernel
/-- a place that is in the list -/
theorem at_ints {ns : List Int} {i : Int} (h0 : 0 ≤ i) (h1 : i < ns.length) : atI (ns.map V.int) i = some (V.int (ns.getD i.toNat 0)) := by
  have hl : i.toNat < ns.length := by omega
  have e : (ns.map V.int)[i.toNat]? = some (V.int (ns.getD i.toNat 0)) := by
    rw [List.getElem?_map, List.getD_eq_getElem?_getD, List.getElem?_eq_getElem hl]
    rfl
  have := atI_nat e
  rwa [Int.toNat_of_nonneg h0] at this
/-- the cells of a script -/
def cellF (ns : List Int) (i : Int) : Int := if i < ns.length then ns.getD i.toNat 0 else if (ns.length : Int) = 0 then 7 * i + 3 else ns.getD (i % ns.length).toNat 0 + 1009 * i
def divs (c : Int) : Nat → Int
  | 0 => c
  | n + 1 => divs c n / 1000
def spCell (K : PySem.W.Frag) : Sp := fun vs H Q _ => ∃ (a : Addr) (ns : List Int) (i : Int), vs = [.ref a, .int i] ∧ SqL K H a (ns.map V.int) ∧ 0 ≤ i ∧ ∀ r, r = cellF ns i → Q (.int r) H
def absI (c : Int) : Int := if c < 0 then -c else c
def oneF (c t : Int) : Int := (c % 1000003 * 48271 + t * 7919 + 101) % 999983
def twoF (c t : Int) : Int := (oneF c t * oneF c t + c % 1000003 * 31 + t * 104729) % 1000033
def rawF (c t : Int) : Int := if 10 ^ 18 ≤ absI c then (if c < 0 then divs (absI c) t.toNat % 1000 else divs (absI c) t.toNat) else (twoF c t * twoF c t + oneF c t * 17 + t * 30011) % 999979
def pickF (ns : List Int) (i t m : Int) : Int := rawF (cellF ns i) t % m
theorem rawF_big {c t : Int} (h : 10 ^ 18 ≤ absI c) (n : c < 0) : rawF c t = divs (absI c) t.toNat % 1000 := by rw [rawF, if_pos h, if_pos n]
theorem rawF_bigp {c t : Int} (h : 10 ^ 18 ≤ absI c) (n : ¬ c < 0) : rawF c t = divs (absI c) t.toNat := by rw [rawF, if_pos h, if_neg n]
theorem rawF_low {c t : Int} (h : ¬ 10 ^ 18 ≤ absI c) : rawF c t = (twoF c t * twoF c t + oneF c t * 17 + t * 30011) % 999979 := by rw [rawF, if_neg h]
def spPick (K : PySem.W.Frag) : Sp := fun vs H Q _ => ∃ (a : Addr) (ns : List Int) (i t m : Int), vs = [.ref a, .int i, .int t, .int m] ∧ SqL K H a (ns.map V.int) ∧ 0 ≤ i ∧ 0 ≤ t ∧ t < 1000000 ∧ 0 < m ∧
  ∀ r, r = pickF ns i t m → 0 ≤ r → r < m → Q (.int r) H
theorem sz1 {x : V} : [x].length ≤ sizeLine := by show 1 ≤ sizeLine; decide
theorem sz2 {x y : V} : [x, y].length ≤ sizeLine := by show 2 ≤ sizeLine; decide
theorem sz0 : ([] : List V).length ≤ sizeLine := by show 0 ≤ sizeLine; decide
end L2

set_option Elab.async false
set_option linter.all false
/-! greatest common divisors, lowest terms -/
namespace L2
open PySem

end L2

set_option Elab.async false
set_option linter.all false
set_option maxRecDepth 100000
set_option maxHeartbeats 4000000
/-! list comprehensions of one clause, without a test, in which nothing raises -/
namespace L2
open PySem PySem.Spec PyProof.Rows

def CapAll (env : Env) : List (Str × Addr) → Prop
  | [] => True
  | (y, c) :: r => env.cells.lookup y = some c ∧ CapAll env r
theorem CapAll.look {env : Env} : ∀ {cl : List (Str × Addr)}, CapAll env cl → ∀ {y : Str} {c : Addr}, cl.lookup y = some c → env.cells.lookup y = some c
  | [], _, _, _, e => by cases e
  | (z, d) :: r, h, y, c, e => by
    rw [List.lookup_cons] at e
    cases hb : y == z with
    | true =>
      rw [hb] at e
      rw [eq_of_beq hb]
      exact h.1.trans e
    | false =>
      rw [hb] at e
      exact CapAll.look h.2 e
def HasAll (cl : List (Str × Addr)) : List (Str × NameKind) → Prop
  | [] => True
  | (n, k) :: r => (k = .free → ∃ c, cl.lookup n = some c) ∧ k ≠ .cell ∧ HasAll cl r
theorem HasAll.nocell {cl : List (Str × Addr)} : ∀ {ns : List (Str × NameKind)}, HasAll cl ns → ∀ y ∈ ns, y.2 ≠ .cell
  | (n, k) :: r, h, y, hy => by
    rcases List.mem_cons.mp hy with rfl | hy
    · exact h.2.1
    · exact HasAll.nocell h.2.2 y hy
theorem HasAll.has {cl : List (Str × Addr)} {env : Env} : ∀ {ns : List (Str × NameKind)}, HasAll cl ns → ∀ {x : Str} {q : NameKind}, q = .cell ∨ q = .free →
    (ns.map fun (n, k) => if (k == NameKind.free && env.scope.kind == .function && env.kindOf n == some .cell) then (n, NameKind.cell) else (n, k)).lookup x = some q → ∃ c, cl.lookup x = some c
  | [], _, _, _, _, e => by cases e
  | (n, k) :: r, h, x, q, hq, e => by
    have ih := HasAll.has (env := env) h.2.2 (x := x) hq
    rw [List.map_cons] at e
    by_cases hc : (k == NameKind.free && env.scope.kind == .function && env.kindOf n == some .cell) = true
    · have e' := e
      dsimp only at e'
      rw [if_pos hc, List.lookup_cons] at e'
      cases hb : x == n with
      | true =>
        rw [Bool.and_eq_true, Bool.and_eq_true] at hc
        obtain ⟨c, hcc⟩ := h.1 (eq_of_beq hc.1.1)
        exact ⟨c, by rw [eq_of_beq hb]; exact hcc⟩
      | false =>
        rw [hb] at e'
        exact ih e'
    · have e' := e
      dsimp only at e'
      rw [if_neg hc, List.lookup_cons] at e'
      cases hb : x == n with
      | true =>
        rw [hb] at e'
        have ek : k = q := Option.some.inj e'
        rcases hq with rfl | rfl
        · exact absurd ek h.2.1
        · obtain ⟨c, hcc⟩ := h.1 ek
          exact ⟨c, by rw [eq_of_beq hb]; exact hcc⟩
      | false =>
        rw [hb] at e'
        exact ih e'
/-- the names that the element reads, by their places -/
def CapIx (X : Cx) (scope : Scope) (cl : List (Str × Addr)) : List Nat → Prop
  | [] => True
  | j :: r => (∃ y c, X.N[j]? = some y ∧ X.env.scope.names.lookup y = some .cell ∧ (relabel scope X.env).names.lookup y = some .cell ∧ cl.lookup y = some c) ∧ CapIx X scope cl r
theorem CapIx.get {X : Cx} {scope : Scope} {cl : List (Str × Addr)} : ∀ {M : List Nat}, CapIx X scope cl M → ∀ {k j : Nat}, M[k]? = some j →
    ∃ y c, X.N[j]? = some y ∧ X.env.scope.names.lookup y = some .cell ∧ (relabel scope X.env).names.lookup y = some .cell ∧ cl.lookup y = some c
  | [], _, k, j, e => by cases e
  | i :: r, h, 0, j, e => by
    cases e
    exact h.1
  | i :: r, h, k + 1, j, e => CapIx.get h.2 (k := k) e
def compN (X : Cx) (x : Str) (M : List Nat) : List Str := x :: M.map fun j => X.N.getD j Str.empty
def compS (M : List Nat) (σ : St) (o : Option V) : St := o :: M.map fun j => (σ[j]?).join
/-- the context of the block -/
abbrev compCx (X : Cx) (scope : Scope) (cl : List (Str × Addr)) (x : Str) (M : List Nat) (C : Addr) (s2 : Shared) (H2 : Hp) (fp : List Addr) (pn : List (Addr × Obj)) : Cx :=
  { X with N := compN X x M, s₀ := s2, H₀ := H2, env := compEnvC scope cl C X.env, outer := X.stack, ex := fp, fn := fun _ => false, pn := pn, xe := fun _ _ => False }

section
variable {X : Cx} {pins : List (Addr × Obj)} {σ : St} {H : Hp} {s2 : Shared} {scope : Scope} {cl : List (Str × Addr)} {x : Str} {M : List Nat} {fp : List Addr} {C : Addr} {h1 : Heap} {tk : Nat}
theorem Inv.comp (I : Inv X pins σ H s2) (hc : CapAll X.env cl) (hh : HasAll cl scope.names) (hm : CapIx X scope cl M) (hk : scope.kind = .function) (hC : s2.heap.objs.size < C)
    (keep : ∀ b o, s2.heap.get? b = some o → h1.get? b = some o) (hn : h1.Ns C fun _ => none) (hD : h1.get? s2.heap.objs.size = some { cls := .type "list", data := .seq #[] 0 })
    (hfp : ∀ b ∈ fp, FpOk X pins H b) (hob : ∀ b ∈ fp, ∃ o, s2.heap.get? b = some o) :
    Inv (compCx X scope cl x M C s2 H fp (X.pn ++ pins)) [] (compS M σ none) (upd H s2.heap.objs.size (.lst [])) { s2 with heap := h1, toks := tk } := by
  have hfr := I.hok.fresh (a := s2.heap.objs.size) (Nat.le_refl _)
  have o := I.ok
  have hcc : ∀ y c, cl.lookup y = some c → X.env.cells.lookup y = some c := fun y c e => hc.look e
  have hlt : ∀ b ∈ fp, b < s2.heap.objs.size := fun b hb => by
    obtain ⟨ob, e⟩ := hob b hb
    exact Heap.lt_size e
  have hstk : ∀ b ∈ fp, b ∉ frs X.stack := fun b hb z => by
    rcases List.mem_cons.mp (I.stkSub b z) with z | z
    · exact (hfp b hb).2.1 z
    · exact (hfp b hb).2.2.1 z
  have hCn : H C = none := I.hok.fresh (Nat.le_of_lt hC)
  refine ⟨⟨o.mod, hk, o.glob, o.blt, Nat.le_of_lt hC, fun y z c e1 e2 => o.inj y z c (hcc y c e1) (hcc z c e2), fun y hy => ?_, fun y c z => (Bool.false_ne_true z).elim, o.hd, o.frames, .inl rfl, fun b hb => ⟨Nat.ne_of_lt (Nat.lt_trans (hlt b hb) hC), fun y c e => (hfp b hb).2.2.2.2.1 y c (hcc y c e)⟩,
    fun b ob e => I.bs b ob e, Nat.le_trans o.bsz I.sz, fun b ob e z => ?_, hstk, I.stack, I.stkFree⟩, rfl, I.bare, ?_, ?_, fun y c e => ?_, ?_, fun y c e => ?_, fun p hp => ?_, ?_, ?_⟩
  · rcases hy with hy | hy
    · exact hh.has (.inl rfl) hy
    · exact hh.has (.inr rfl) hy
  · obtain ⟨e1, e2⟩ := I.bs b ob e
    exact (hfp b z).2.2.2.1.elim (fun q => o.noex b ob e q) fun q => by
      have := o.bs b ob e
      exact Nat.lt_irrefl _ (Nat.lt_of_lt_of_le (Heap.lt_size this.1) q)
  · exact (Un.laid (fs := frs X.stack) (ex := fp) (o := .lst []) keep (Nat.le_refl _) hfr)
  · refine ⟨_, hn, fun i z v e1 e2 e3 => ?_⟩
    cases i with
    | zero => cases e2
    | succ k =>
      have e1' : (M.map fun j => X.N.getD j Str.empty)[k]? = some z := e1
      have e2' : (M.map fun j => (σ[j]?).join)[k]? = some (some v) := e2
      rw [List.getElem?_map] at e1' e2'
      cases hj : M[k]? with
      | none => rw [hj] at e1'; cases e1'
      | some j =>
        rw [hj] at e1' e2'
        obtain ⟨y, c, f1, f2, f3, f4⟩ := hm.get hj
        have ez : X.N.getD j Str.empty = z := Option.some.inj e1'
        rw [List.getD_eq_getElem?_getD, f1] at ez
        have ez' : y = z := ez
        subst ez'
        have ev : (σ[j]?).join = some v := Option.some.inj e2'
        have ev' : σ[j]? = some (some v) := by
          cases hs : σ[j]? with
          | none => rw [hs] at ev; cases ev
          | some w' =>
            rw [hs] at ev
            have : w' = some v := ev
            rw [this]
        obtain ⟨m, hns, hl⟩ := I.loc
        obtain ⟨u, r, l⟩ := hl j y v f1 ev' (.inr (.inl f2))
        refine ⟨u, r, .inr ⟨.inl f3, c, f4, ?_⟩⟩
        rcases l with ⟨lk, _⟩ | ⟨_, c', lc, li⟩
        · have : X.env.scope.names.lookup y = some .local := lk
          rw [f2] at this
          cases this
        · rw [hcc y c f4] at lc
          have := Option.some.inj lc
          subst this
          exact li.keeps keep
  · obtain ⟨v, hv⟩ := I.cell y c (hcc y c e)
    exact ⟨v, hv.keeps keep⟩
  · show upd H s2.heap.objs.size (.lst []) C = none
    rw [upd_ne (Nat.ne_of_gt hC)]
    exact hCn
  · show upd H s2.heap.objs.size (.lst []) c = none
    obtain ⟨v, ob, e1, e2⟩ := I.cell y c (hcc y c e)
    rw [upd_ne (Nat.ne_of_lt (Heap.lt_size e1))]
    exact I.freeC y c (hcc y c e)
  · have hp' : p ∈ X.pn ++ pins := (List.mem_append.mp hp).elim (fun z => z) fun z => nomatch z
    obtain ⟨e1, e2, e3, e4, e5⟩ := I.pin p hp'
    refine ⟨keep _ _ e1, ?_, Nat.ne_of_lt (Nat.lt_trans (Heap.lt_size e1) hC), fun z => ?_, e5⟩
    · rw [upd_ne (Nat.ne_of_lt (Heap.lt_size e1))]
      exact e2
    · rcases List.mem_cons.mp (I.stkSub p.1 z) with z | z
      · exact e3 z
      · exact e4 z
  · exact I.hok.laid keep (Nat.le_refl _) ⟨Nat.zero_le _, [], 0, .nil, hD⟩
  · show (none :: M.map fun j => (σ[j]?).join).length = (x :: M.map fun j => X.N.getD j Str.empty).length
    rw [List.length_cons, List.length_cons, List.length_map, List.length_map]

theorem Inv.uncomp {pins' : List (Addr × Obj)} {σ' : St} {H' : Hp} {s' : Shared} {h' : Heap} (I : Inv X pins σ H s2) (hC : s2.heap.objs.size ≤ C) (hfp : ∀ b ∈ fp, FpOk X pins H b)
    (J : Inv (compCx X scope cl x M C s2 H fp (X.pn ++ pins)) pins' σ' H' s') (hs : Heap.SameBut C s'.heap h') : Inv X pins σ H' { s' with heap := h' } := by
  have hb := J.base
  have nC : ∀ b o, s2.heap.get? b = some o → b ≠ C := fun b o e => Nat.ne_of_lt (Nat.lt_of_lt_of_le (Heap.lt_size e) hC)
  have st : ∀ b o, b ≠ C → s'.heap.get? b = some o → h'.get? b = some o := fun b o n e => (hs.2 b n).trans e
  refine I.call' (s' := { s' with heap := h' }) (ch := fp) J.os ⟨fun b o e n nb nx => st b o (nC b o e) (hb.keep b o e n nb nx), fun b o e n hb' nx => ?_, hb.free, fun b o e nx => ?_, hb.tups, hb.frzs, hb.tbls⟩ ?_ J.bare fun b hbf => ?_
  · obtain ⟨sl, e1⟩ := hb.slot b o e n hb' nx
    exact ⟨sl, st b _ (nC b o e) e1⟩
  · obtain ⟨o', e1⟩ := hb.there b o e nx
    exact ⟨o', st b _ (nC b o e) e1⟩
  · intro b u hu
    have fr : H' C = none := J.free
    refine (J.hok b u hu).stay (fun c v hc e => st c v ?_ e) (fun _ z => z) fun _ _ z => z
    rcases hc with rfl | hc
    · intro z; rw [z, fr] at hu; cases hu
    · intro z; rw [z, fr] at hc; cases hc
  · obtain ⟨q1, q2, q3, q4, q5, q6⟩ := hfp b hbf
    exact ⟨q4, q2, q5, q6⟩
end

/-- W: what holds ahead of turn i, the items so far, the heap (the new list stands in it) -/
def CompR (J : It) (M : List Nat) (te : TE) (σ : St) (H1 : Hp) (Q : VK) : Prop := ∀ p, H1 p = none → ∃ W : Nat → Nat → List V → Hp → Prop, (∃ m, W 0 m [] (upd H1 p (.lst []))) ∧
  ∀ i m ys H2, W i m ys H2 → H2 p = some (.lst ys) ∧ ys.length < sizeLine ∧ ((J.stop i H2 ∧ Q (.ref p) H2) ∨ (J.go i H2 ∧ ∀ v H3, J.yld i H2 v H3 →
    te (compS M σ (some v)) H3 fun y H4 => H4 p = some (.lst ys) ∧ ∃ m', m' < m ∧ W (i + 1) m' (ys ++ [y]) (upd H4 p (.lst (ys ++ [y])))))
def tComp (M : List Nat) (wi : TI) (te : TE) : TE := fun σ H Q => wi σ H fun J H1 => CompR J M te σ H1 Q
section
variable {X : Cx} {elt iter : Expr} {x : Str} {px pos : Pos} {scope : Scope} {cl : List (Str × Addr)} {M : List Nat} {wi : TI} {te : TE}
theorem comp_run (hc : X.calm = true) (hclos : closureFor scope X.env = pure cl) (hcap : CapAll X.env cl) (hhas : HasAll cl scope.names) (hix : CapIx X scope cl M) (hk : scope.kind = .function)
    (hnames : ∀ y ∈ scope.names, y.2 = .local → scope.names.lookup y.1 = some .local) (hx : scope.names.lookup x = some .local) (hnd : (compN X x M).Nodup) (hi : PI X (.Name x px) iter wi)
    (he : ∀ C s2 H2 fp pn, PE (compCx X scope cl x M C s2 H2 fp pn) elt te) (hs : ∀ z, foldedSetIterable iter X.env z = pure z)
    {use : Option (Value → Sem Unit)} {QQ : Value → Shared → Prop} {pins : List (Addr × Obj)} {s : Shared} {σ : St} {H : Hp} {Q : VK} {ps : Pos} (I : Inv X pins σ H s) (h : wi σ H fun J H1 => CompR J M te σ H1 Q)
    (fin : ∀ (C : Addr) (s2 s4 : Shared) (H1 H2 : Hp) (fp : List Addr), Inv X pins σ H1 s2 → s2.heap.objs.size < C → (∀ b ∈ fp, FpOk X pins H1 b) → Inv (compCx X scope cl x M C s2 H1 fp (X.pn ++ pins)) [] (compS M σ none) H2 s4 → Q (.ref s2.heap.objs.size) H2 →
      compPost (model X.prog X.w) X.A X.xe use QQ (.ref s2.heap.objs.size) C (.ok .next) s4) :
    wpAny (model X.prog X.w) X.A (comprehension (.ListComp elt [⟨.Name x px, iter, [], 0⟩] scope pos) scope X.env ps (newList []) false (eval iter X.env) use) QQ X.xe s := by
  refine wpAny_comprehension_free (use := use) rfl hs hclos hk hnames ?_
  refine thn (hi pins s σ H _ I h) fun v s1 h1 => thn h1 fun itv s2 h2 => ?_
  obtain ⟨it, fp, tn, J, H1, rfl, I2, T, t0, hfp, hR⟩ := h2
  have hob : ∀ b ∈ fp, ∃ o, s2.heap.get? b = some o ∧ ∀ v, o.data ≠ .cell v := T.obj 0 _ t0
  obtain ⟨W, ⟨m0, w0⟩, hW⟩ := hR s2.heap.objs.size (I2.hok.fresh (Nat.le_refl _))
  refine wpAny_newObj_type ?_
  refine wpAny_newFunctionEnv hhas.nocell (by intro y hy; cases hy) (fun h3 hns hsb => ?_) hk
  dsimp only at hns hsb ⊢
  generalize hH2 : s2.heap.push { cls := .type "list", dict := none, data := .seq ([] : List Value).toArray } = G2 at hns hsb ⊢
  have hC : G2.objs.size = s2.heap.objs.size + 1 := by rw [← hH2, Heap.size_push]
  have hlt : s2.heap.objs.size < G2.objs.size := by omega
  have keep : ∀ b o, s2.heap.get? b = some o → h3.get? b = some o := fun b o e => by
    have hb : b ≠ G2.objs.size := Nat.ne_of_lt (Nat.lt_trans (Heap.lt_size e) hlt)
    rw [hsb.2 b hb]
    exact Heap.get?_push_of_some _ (hH2 ▸ Heap.get?_push_of_some _ e)
  have hD : h3.get? s2.heap.objs.size = some { cls := .type "list", data := .seq #[] 0 } := by
    rw [hsb.2 _ (Nat.ne_of_lt hlt)]
    exact Heap.get?_push_of_some _ (hH2 ▸ Heap.get?_push_size _ rfl)
  have hns' : h3.Ns G2.objs.size fun _ => none := hns
  have J0 : ∀ tk, Inv (compCx X scope cl x M G2.objs.size s2 H1 fp (X.pn ++ pins)) [] (compS M σ none) (upd H1 s2.heap.objs.size (.lst [])) { s2 with heap := h3, toks := tk } := fun tk =>
    I2.comp hcap hhas hix hk hlt keep hns' hD hfp fun b hb => let ⟨o, e, _⟩ := hob b hb; ⟨o, e⟩
  have hbl : ∀ b ∈ fp, b < s2.heap.objs.size := fun b hb => let ⟨o, e, _⟩ := hob b hb; Heap.lt_size e
  have fok : ∀ (H2 : Hp), (∀ b ∈ fp, H2 b = none) → ∀ b ∈ fp, FpOk (compCx X scope cl x M G2.objs.size s2 H1 fp (X.pn ++ pins)) [] H2 b := fun H2 hn b hb => by
    obtain ⟨q1, q2, q3, q4, q5, q6⟩ := hfp b hb
    refine ⟨hn b hb, Nat.ne_of_lt (Nat.lt_trans (hbl b hb) hlt), fun z => ?_, .inl hb, fun y c e => q5 y c (hcap.look e), fun p hp => q6 p ((List.mem_append.mp hp).elim (fun z => z) fun z => nomatch z)⟩
    rcases List.mem_cons.mp (I2.stkSub b z) with z | z
    · exact q2 z
    · exact q3 z
  have hxl : (relabel scope X.env).names.lookup x = some .local := lookup_relabel_local hx
  have loop : ∀ tk, codeAny (model X.prog X.w) X.A (.compLoop (.ListComp elt [⟨.Name x px, iter, [], 0⟩] scope pos) 0 (.ref it) (.ref s2.heap.objs.size) (compEnvC scope cl G2.objs.size X.env))
      (compPost (model X.prog X.w) X.A X.xe use QQ (.ref s2.heap.objs.size) G2.objs.size) { s2 with heap := h3, toks := tk } := fun tk => by
    refine codeAny_loop rfl (fun n s3 => ∃ i ys H2, W i n ys H2 ∧ Inv (compCx X scope cl x M G2.objs.size s2 H1 fp (X.pn ++ pins)) [] (compS M σ none) H2 s3 ∧ tn i s3.heap ∧ ∀ b ∈ fp, H2 b = none) (fun n s3 hI => ?_) m0
      ⟨0, [], _, w0, J0 tk, T.keep 0 _ _ t0 fun b _ o e => keep b o e, fun b hb => by rw [upd_ne (Nat.ne_of_lt (hbl b hb))]; exact (hfp b hb).1⟩
    obtain ⟨i, ys, H2, w, J2, t, nf2⟩ := hI
    show wpAny _ _ ((compTurn (.ListComp elt [⟨.Name x px, iter, [], 0⟩] scope pos) 0 (.ref it) (.ref s2.heap.objs.size) (compEnvC scope cl G2.objs.size X.env)).onRaise fun z => do noteFrame z (compEnvC scope cl G2.objs.size X.env); theTreesLotGoes z) _ _ s3
    refine wpAny_noted ?_
    rw [compTurn_list1]
    refine wpAny_bind (wpAny_standAt (wpAny_bind ?_))
    obtain ⟨hp, hz, hcase⟩ := hW i n ys H2 w
    rcases hcase with ⟨hst, hq⟩ | ⟨hgo, hy⟩
    · refine wpAny_mono (T.done (compCx X scope cl x M G2.objs.size s2 H1 fp (X.pn ++ pins)) rfl rfl rfl hc i [] s3 _ H2 (fun _ _ => False) J2 (fok H2 nf2) t hst) (fun r s4 hr => ?_) fun _ _ z => z.elim
      obtain ⟨rfl, J4⟩ := hr
      refine wpAny_pure ?_
      exact fin G2.objs.size s2 s4 H1 H2 fp I2 hlt hfp J4 hq
    · refine wpAny_mono (T.item (compCx X scope cl x M G2.objs.size s2 H1 fp (X.pn ++ pins)) rfl rfl rfl hc i [] s3 _ H2 (fun _ _ => False) J2 (fok H2 nf2) t hgo) (fun r s4 hr => ?_) fun _ _ z => z.elim
      obtain ⟨u, rfl, hw⟩ := hr
      refine wpAny_bind (wpAny_mono hw (fun _ s5 hr5 => ?_) fun _ _ z => z.elim)
      obtain ⟨v, H3, J5, rv, yl, t5, nf⟩ := hr5
      have J5p := J5.pinned (fok H3 nf) (T.obj _ _ t5)
      refine wpAny_bind (wpAny_mono (pg_name (X := compCx X scope cl x M G2.objs.size s2 H1 fp (X.pn ++ pins)) (i := 0) hnd rfl (.inl hxl) (.inr hxl) _ s5 _ H3 v u (fun σ' H' => σ' = compS M σ (some v) ∧ H' = H3) J5p rv ⟨rfl, rfl⟩) (fun _ s6 hr6 => ?_) fun _ _ z => z.elim)
      obtain ⟨σ6, H6, J6, rfl, rfl⟩ := hr6
      refine wpAny_bind (wpAny_bind (wpAny_mono (he _ _ _ _ _ _ s6 _ H6 _ J6 (hy v H6 yl)) (fun yv s7 hr7 => ?_) fun _ _ z => z.elim))
      obtain ⟨y, H4, J7, ry, hp4, m', hm', w'⟩ := hr7
      refine wpAny_bind (wpAny_mono (mt_append (X := compCx X scope cl x M G2.objs.size s2 H1 fp (X.pn ++ pins)) _ s7 _ H4 (.ref s2.heap.objs.size) [y] (.ref s2.heap.objs.size) [yv] (fun _ H8 => H8 = upd H4 s2.heap.objs.size (.lst (ys ++ [y]))) J7 rfl (.cons ry .nil) ⟨_, ys, y, rfl, rfl, hp4, hz, rfl⟩) (fun _ s8 hr8 => ?_) fun _ _ z => z.elim)
      obtain ⟨_, H8, J8, _, rfl⟩ := hr8
      refine wpAny_pure (wpAny_pure ⟨rfl, m', hm', i + 1, ys ++ [y], _, w', ?_, ?_, ?_⟩)
      · refine (J8.unpinned (pins := [])).weak rfl fun k z ez => ?_
        cases k with
        | zero => cases ez
        | succ k => exact ez
      · exact T.keep _ _ _ t5 fun b hb o e => (J8.pin (b, o) (List.mem_append_right _ (List.mem_append_right _ (mem_pinsAt hb e)))).1
      · intro b hb
        obtain ⟨o, e, _⟩ := T.obj _ _ t5 b hb
        exact (J8.pin (b, o) (List.mem_append_right _ (List.mem_append_right _ (mem_pinsAt hb e)))).2.1
  exact codeAny_compStart_list (loop _) (T.self _ 0 _ _ _ (T.keep 0 _ _ t0 fun b _ o e => keep b o e) (loop _))

theorem pe_comp (hc : X.calm = true) (hclos : closureFor scope X.env = pure cl) (hcap : CapAll X.env cl) (hhas : HasAll cl scope.names) (hix : CapIx X scope cl M) (hk : scope.kind = .function)
    (hnames : ∀ y ∈ scope.names, y.2 = .local → scope.names.lookup y.1 = some .local) (hx : scope.names.lookup x = some .local) (hnd : (compN X x M).Nodup) (hi : PI X (.Name x px) iter wi)
    (he : ∀ C s2 H2 fp pn, PE (compCx X scope cl x M C s2 H2 fp pn) elt te) (hs : ∀ z, foldedSetIterable iter X.env z = pure z := by intro _; rfl) :
    PE X (.ListComp elt [⟨.Name x px, iter, [], 0⟩] scope pos) (tComp M wi te) := by
  intro pins s σ H Q I h
  rw [eval_ListComp]
  refine comp_run hc hclos hcap hhas hix hk hnames hx hnd hi he hs (use := none) I h fun C s2 s4 H1 H2 fp I2 hlt hfp J4 hq => ?_
  obtain ⟨m, hn, _⟩ := J4.loc
  exact ⟨m, hn, fun h' hs' => ⟨.ref s2.heap.objs.size, H2, I2.uncomp (Nat.le_of_lt hlt) hfp J4 hs', rfl, hq⟩⟩
end
end L2

set_option Elab.async false
set_option linter.all false
set_option maxRecDepth 100000
set_option maxHeartbeats 4000000
/-! min, max, all of a list; own classes and methods as they are called -/
namespace L2
open PySem PySem.Spec PyProof.Rows

section
variable {X : Cx}
theorem list_ints {pins : List (Addr × Obj)} {σ : St} {H : Hp} {s : Shared} {p : Addr} {ns : List Int} (I : Inv X pins σ H s) (hS : SqL X.K H p (ns.map V.int)) :
    ∃ ts : Array (Int × Tok), s.heap.IsList p (intItems ts) ∧ ns = ts.toList.map (·.1) := by
  obtain ⟨its, rv, ⟨o, n, e1, e2, e3, e4⟩, hz⟩ := I.list hS
  have hi := intsAre_of rv
  obtain ⟨ts, ht⟩ := hi.allInts.items
  refine ⟨ts, ⟨o, e1, e2, n, by rw [← ht]; exact e4⟩, ?_⟩
  have a1 := hi.numsOf
  have a2 := nums_intItems (xs := ts)
  rw [← ht] at a2
  exact a1.symm.trans a2
end

/-! ### methods, classes -/
structure MCal (P : Program) (w : World) (K : PySem.W.Frag) (mg : Str → Option Value) (base : Heap) (C : Addr) (m : Str) (k : Nat) (sp : Sp) : Prop where
  ex : ∃ f fd ps, Meth K C m f ∧ FnOk P w K mg base (CXE P w) k f fd ps sp ∧ Binds K fd ps []
structure CCal (P : Program) (w : World) (K : PySem.W.Frag) (mg : Str → Option Value) (base : Heap) (x : Str) (C : Addr) (k : Nat) (sp : Sp) : Prop where
  ex : ∃ f fd ps, mg x = some (.ref C) ∧ Mk K C f ∧ FnOk P w K mg base (CXE P w) k f fd ps sp ∧ Binds K fd ps []
/-- a method of the text -/
structure MethIn (K : PySem.W.Frag) (C : Addr) (m qual : Str) (st : Stmt) : Prop where
  ex : ∃ f fd, PySem.W.findIn K (.ref C) m = some (some (.ref f)) ∧ PySem.W.isFn K (.ref f) = true ∧ Fun K m qual st f fd
section
variable {P : Program} {w : World} {K : PySem.W.Frag} {mg : Str → Option Value} {base : Heap} {C : Addr}
end
section
variable {X : Cx} {C : Addr} {x m : Str} {k : Nat} {sp : Sp} {E : St → XK} {p pos apos : Pos} {e o : Expr} {es : List Expr} {ta : TE} {t : TA}
end
end L2

set_option Elab.async false
set_option linter.all false
set_option maxRecDepth 100000
set_option maxHeartbeats 4000000
/-! a handler of a class that stands above; `as` a name; isinstance of the exception -/
namespace L2
open PySem PySem.Spec PyProof.Rows

section
variable {X : Cx} {pins pn : List (Addr × Obj)} {σ : St} {H H' : Hp} {s s' : Shared} {e : Addr} {ob : Obj}
end

section
variable {X : Cx} {x n : Str} {i : Nat} {D0 : Addr} {G : Addr → Prop} {np hpos pos : Pos} {b₀ : Stmt} {body suite : List Stmt} {tb : (St → XK) → TS} {th : Addr → TS}
end
end L2

set_option Elab.async false
set_option linter.all false
/-! the bent line over a point -/
namespace L2
open PySem

end L2

set_option Elab.async false
set_option linter.all false
set_option maxRecDepth 100000
set_option maxHeartbeats 4000000
/-! list comprehensions of one clause with one test; list(range(..)) -/
namespace L2
open PySem PySem.Spec PyProof.Rows

section
variable {X : Cx} {elt iter cd : Expr} {x : Str} {px pos : Pos} {scope : Scope} {cl : List (Str × Addr)} {M : List Nat} {wi : TI} {tt : TT} {te : TE}
end
end L2

set_option Elab.async false
set_option linter.all false
set_option maxRecDepth 100000
set_option maxHeartbeats 4000000
/-! a def whose last argument has None as its default -/
namespace L2
open PySem PySem.Spec PyProof.Rows
structure FunD (K : PySem.W.Frag) (x : Str) (st : Stmt) (f : Addr) (fd : FuncData) : Prop where
  ex : ∃ (oc : Value) (od : Option Addr) (T : Addr) (kV doc pm : Value) (an : Option Addr) (cdv ct : Value) (osl : Array (Option Value)),
    fd = PySem.W.fnOf x x (defArgs st) (defBody st) (defScope st) (.ref T) kV doc pm an cdv ct ∧ K.lookup f = some ⟨oc, od, .func fd, osl⟩ ∧ PySem.W.codeIn K cdv x = true ∧ ∃ o n, K.lookup T = some o ∧ o.data = .seq #[.none] n
  kp : PySem.W.keepIn K (.ref f) = true
structure DefInD (K : PySem.W.Frag) (x : Str) (st : Stmt) : Prop where
  ex : ∃ f fd, PySem.W.nsIn K mainGlobals x = some (some (.ref f)) ∧ FunD K x st f fd
section
variable {P : Program} {w : World} {K : PySem.W.Frag} {mg : Str → Option Value} {base : Heap}
structure CalD (P : Program) (w : World) (K : PySem.W.Frag) (mg : Str → Option Value) (base : Heap) (x : Str) (k : Nat) (sp : Sp) : Prop where
  ex : ∃ f fd ps, mg x = some (.ref f) ∧ FnOk P w K mg base (CXE P w) k f fd ps sp ∧ PySem.W.keepIn K (.ref f) = true ∧ Binds K fd ps [] ∧ Binds K fd ps [.none]
end
section
variable {X : Cx} {x : Str} {k : Nat} {sp : Sp} {E : St → XK} {p pos : Pos} {e : Expr} {es : List Expr} {t : TA}
end
end L2

set_option Elab.async false
set_option linter.all false
set_option maxRecDepth 100000
set_option maxHeartbeats 4000000
namespace L2
open PySem PySem.Spec PyProof.Rows

/-! ### lists of pairs as tables -/
section
variable {κ : Type} [DecidableEq κ]
end


/-! ### a tracked dict, its keys ints and texts or tuples of these -/
section
variable {P : Program} {w : World} {H : Hp} {h : Heap} {a : Addr}
end

section
variable {X : Cx} {pins : List (Addr × Obj)} {σ : St} {H : Hp} {s : Shared} {a : Addr} {y v : V} {u r : Value} {o : Option V} {A : Around} {E : Value → Shared → Prop}

end

section
variable {X : Cx} {pins : List (Addr × Obj)} {σ : St} {H : Hp} {s : Shared} {a : Addr} {kvs : List (Key × V)} {k : Key} {u : Value} {A : Around} {E : Value → Shared → Prop}
end


/-! ### readings and rules -/
section
variable {X : Cx} {o i e value : Expr} {pos pos' tpos : Pos} {td ty tv : TE}
end


/-! ### displays -/
section
variable {X : Cx} {pos : Pos}
end

end L2

set_option Elab.async false
set_option linter.all false
set_option maxRecDepth 100000
set_option maxHeartbeats 4000000
/-! a dict as it lies: its size, its keys as a list -/
namespace L2
open PySem PySem.Spec PyProof.Rows PySem.W
section
variable {prog : Program} {w : World} {A : Around} {E : Value → Shared → Prop} {s : Shared} {d : Addr} {es : Array DictEntry} {ep : Nat}
end
section
variable {X : Cx}
end
end L2

set_option Elab.async false
set_option linter.all false
set_option maxRecDepth 100000
set_option maxHeartbeats 4000000
/-! list comprehensions whose own name is captured by a comprehension within -/
namespace L2
open PySem PySem.Spec PyProof.Rows
section
variable {X : Cx} {pins : List (Addr × Obj)} {σ : St} {H : Hp} {s2 : Shared} {scope : Scope} {cl : List (Str × Addr)} {x : Str} {c : Addr} {M : List Nat} {fp : List Addr} {C : Addr} {h1 : Heap} {tk : Nat}
end

section
variable {X : Cx} {elt iter : Expr} {x : Str} {px pos : Pos} {scope : Scope} {cl : List (Str × Addr)} {M : List Nat} {wi : TI} {te : TE}
end
end L2

set_option Elab.async false
set_option linter.all false
set_option maxRecDepth 100000
set_option maxHeartbeats 4000000
/-! comprehensions whose items are told by a relation -/
namespace L2
open PySem PySem.Spec PyProof.Rows
/-- stays while all but the new list stays -/
def Stay (G : Nat → V → Hp → Prop) : Prop := ∀ i v H H' p, G i v H → v ≠ .ref p → (∀ b o, b ≠ p → H b = some o → H' b = some o) → G i v H'
theorem comp_listR {K : PySem.W.Frag} {M : List Nat} {a : Addr} {xs : List V} {te : TE} {σ : St} {H : Hp} {Q : VK} (G : Nat → V → Hp → Prop) (gs : Stay G) (hS : SqL K H a xs) (hn : xs.length ≤ 1000000)
    (he : ∀ (i : Nat) (x : V) (H' : Hp) (R : VK), xs[i]? = some x → Same H H' → (∀ v H'', Same H' H'' → G i v H'' → (∀ b, v = .ref b → H' b = none) → R v H'') → te (compS M σ (some x)) H' R)
    (k : ∀ p ys H', H p = none → Same H H' → H' p = some (.lst ys) → ys.length = xs.length → (∀ j v, ys[j]? = some v → G j v H' ∧ v ≠ .ref p) → Q (.ref p) H') : CompR (Itl K a) M te σ H Q := by
  intro p np
  refine ⟨fun i m ys H2 => i ≤ xs.length ∧ m = xs.length - i ∧ ys.length = i ∧ Same H H2 ∧ H2 p = some (.lst ys) ∧ ∀ j v, ys[j]? = some v → G j v H2 ∧ v ≠ .ref p, ⟨xs.length, Nat.zero_le _, rfl, rfl, Same.upd np, upd_same, fun j v e => by cases e⟩, ?_⟩
  rintro i m ys H2 ⟨hi, rfl, hy, sm, hp, hG⟩
  have hS' : SqL K H2 a xs := Same.sql sm hS
  refine ⟨hp, ?_, ?_⟩
  · have : (1000000 : Nat) < sizeLine := by decide
    omega
  · by_cases hlt : i < xs.length
    · have hx : xs[i]? = some xs[i] := List.getElem?_eq_getElem hlt
      refine .inr ⟨⟨xs, _, hS', hx⟩, ?_⟩
      rintro v H3 ⟨rfl, hv⟩
      have e := hv xs hS'
      rw [hx] at e
      have e' := Option.some.inj e
      subst e'
      refine he i _ _ _ hx sm fun v H4 s4 g4 fr => ⟨s4 _ _ hp, xs.length - (i + 1), by omega, by omega, rfl, by rw [List.length_append, hy]; rfl, fun b o e => ?_, upd_same, fun j w e => ?_⟩
      · rw [upd_ne (ne_of_none e np)]
        exact s4 _ _ (sm _ _ e)
      · have vp : v ≠ .ref p := fun z => by
          have := fr p z
          rw [hp] at this
          cases this
        have st : ∀ b o, b ≠ p → H4 b = some o → upd H4 p (.lst (ys ++ [v])) b = some o := fun b o nb e => by rw [upd_ne nb]; exact e
        rcases (Nat.lt_or_ge j ys.length) with z | z
        · rw [List.getElem?_append_left z] at e
          obtain ⟨g, nw⟩ := hG j w e
          exact ⟨gs j w _ _ p g nw fun b o nb e => st b o nb (s4 b o e), nw⟩
        · rw [List.getElem?_append_right z] at e
          have hj : j = i := by
            rcases Nat.lt_or_ge (j - ys.length) 1 with y | y
            · omega
            · rw [List.getElem?_eq_none (by simpa using y)] at e
              cases e
          have e3 : [v][j - ys.length]? = some w := by assumption
          subst hj
          rw [show j - ys.length = 0 by omega] at e3
          have : v = w := Option.some.inj e3
          subst this
          exact ⟨gs j v H4 _ p g4 vp st, vp⟩
    · have hi' : i = xs.length := by omega
      subst hi'
      exact .inl ⟨⟨xs, hS', Nat.le_refl _⟩, k p ys _ np sm hp hy hG⟩
end L2

set_option Elab.async false
set_option linter.all false
set_option maxRecDepth 100000
set_option maxHeartbeats 4000000
/-! sums of lists; tables of ints -/
namespace L2
open PySem PySem.Spec PyProof.Rows
section
variable {X : Cx} {K : PySem.W.Frag}
end
/-! ### tables -/
/-! ### powers -/
end L2

set_option Elab.async false
set_option linter.all false
set_option maxRecDepth 100000
set_option maxHeartbeats 4000000
/-! reversed(xs) walked; isinstance of an own class -/
namespace L2
open PySem PySem.Spec PyProof.Rows
section
variable {X : Cx} {tg : Expr}
end
end L2
namespace L2
open PySem
end L2
namespace L2
open PySem PySem.Spec PyProof.Rows
end L2

set_option Elab.async false
set_option linter.all false
set_option maxRecDepth 100000
set_option maxHeartbeats 4000000
/-! list comprehensions of two clauses, the second one with or without a test -/
namespace L2
open PySem PySem.Spec PyProof.Rows
section
variable {X : Cx} {pins : List (Addr × Obj)} {σ : St} {H : Hp} {s2 : Shared} {scope : Scope} {cl : List (Str × Addr)} {x y : Str} {M : List Nat} {fp : List Addr} {C : Addr} {h1 : Heap} {tk : Nat}
end

section
variable {X : Cx} {elt iter iter2 : Expr} {x y : Str} {px py pos : Pos} {scope : Scope} {cl : List (Str × Addr)} {M : List Nat} {wi wi2 : TI} {te : TE}
end
section
variable {X : Cx} {elt iter iter2 : Expr} {x y2 : Str} {px py2 pos : Pos} {scope : Scope} {cl : List (Str × Addr)} {M : List Nat} {wi wi2 : TI} {te : TE}
end
end L2
namespace L2
open PySem PySem.Spec PyProof.Rows
theorem ix_tupK {X : Cx} {K : PySem.W.Frag} (hK : X.K = K) : IxR X (rIxT K) := by
  subst hK
  exact ix_tup
end L2

set_option Elab.async false
set_option linter.all false
set_option maxRecDepth 100000
set_option maxHeartbeats 4000000
/-! xs += ys; xs[i] op= y; comprehensions whose items are new things, all unlike -/
namespace L2
open PySem PySem.Spec PyProof.Rows
section
variable {X : Cx}
end
/-- things that lie side by side, all new -/
structure Fresh (H H' : Hp) (qs : List Addr) (os : List HO) : Prop where
  len : qs.length = os.length
  nd : qs.Nodup
  new : ∀ q ∈ qs, H q = none
  at_ : ∀ (i : Nat) q o, qs[i]? = some q → os[i]? = some o → H' q = some o
end L2

set_option Elab.async false
set_option linter.all false
set_option maxRecDepth 100000
set_option maxHeartbeats 4000000
/-! zip and enumerate, walked by pairs; comprehensions by pairs -/
namespace L2
open PySem PySem.Spec PyProof.Rows
section
variable {X : Cx} {pins : List (Addr × Obj)} {σ : St} {H : Hp} {s : Shared} {h' : Heap} {ch : List Addr}
/-- the iterator's own things turned, nothing new -/
theorem Inv.turnedL {tk : Nat} (I : Inv X pins σ H s) (hk : ∀ b u, b ∉ ch → s.heap.get? b = some u → h'.get? b = some u) (hf : ∀ b ∈ ch, FpOk X pins H b) : Inv X pins σ H { s with heap := h', toks := tk } := by
  refine I.call' (s' := { s with heap := h', toks := tk }) (ch := ch) rfl ⟨fun b o e n _ nx => hk b o nx e, fun b o e n _ nx => ⟨o.slots, hk b o nx e⟩, fun b o e n _ => n, fun b o e nx => ⟨o, hk b o nx e⟩, fun _ _ e => e, fun _ _ _ e => e, fun b ps e => ⟨#[], by rw [e]; simp⟩⟩ ?_ I.bare fun b hb => ?_
  · intro b u hu
    refine (I.hok b u hu).stay (fun c v hc e => hk c v (fun z => ?_) e) (fun _ z => z) fun _ _ z => z
    have := (hf c z).1
    rcases hc with rfl | hc
    · rw [this] at hu; cases hu
    · rw [this] at hc; cases hc
  · obtain ⟨q1, q2, q3, q4, q5, q6⟩ := hf b hb
    exact ⟨q4, q2, q5, q6⟩
end
section
variable {X : Cx}
end
section
variable {X : Cx}
end
section
variable {X : Cx} {elt iter tg : Expr} {x y2 : Str} {pos : Pos} {scope : Scope} {cl : List (Str × Addr)} {M : List Nat} {wi : TI} {gg : TG} {te : TE}
end
end L2

set_option Elab.async false
set_option linter.all false
set_option maxRecDepth 100000
set_option maxHeartbeats 4000000
/-! the sort of fewer than 64 things by int keys keeps the old order of those with one key -/
namespace L2
open PySem PySem.Spec PyProof.Rows

/-- place p of the old array goes ahead of place q -/
def Bef (a : Array Keyed) (p q : Nat) : Prop := K a p < K a q ∨ (K a p = K a q ∧ p < q)
/-- where each thing came from; from k on all is as it was -/
structure From (a xs : Array Keyed) (k : Nat) (ix : Nat → Nat) : Prop where
  at_ : ∀ i, xs[i]? = a[ix i]?
  rest : ∀ i, k ≤ i → ix i = i
  low : ∀ i, i < k → ix i < k
theorem From.key {a xs : Array Keyed} {k : Nat} {ix : Nat → Nat} (f : From a xs k ix) (i : Nat) : K xs i = K a (ix i) := K_congr (f.at_ i)
theorem From.more {a xs : Array Keyed} {k : Nat} {ix : Nat → Nat} (f : From a xs k ix) : From a xs (k + 1) ix :=
  ⟨f.at_, fun i h => f.rest i (by omega), fun i h => by
    by_cases e : i < k
    · have := f.low i e; omega
    · have := f.rest i (by omega); omega⟩
theorem From.mirror {a xs : Array Keyed} {k b : Nat} {ix : Nat → Nat} (f : From a xs k ix) (hk : k ≤ xs.size) : From a (mirror xs b k ((k - b) / 2)) k (fun i => if b ≤ i ∧ i < k then ix (b + k - 1 - i) else ix i) := by
  refine ⟨fun i => ?_, fun i h => ?_, fun i h => ?_⟩
  · rw [getElem?_mirror_all hk]
    by_cases c : b ≤ i ∧ i < k
    · simp only [if_pos c]
      exact f.at_ _
    · simp only [if_neg c]
      exact f.at_ _
  · simp only [if_neg (show ¬ (b ≤ i ∧ i < k) by omega)]
    exact f.rest i h
  · by_cases c : b ≤ i ∧ i < k
    · simp only [if_pos c]
      exact f.low _ (by omega)
    · simp only [if_neg c]
      exact f.low i h
def Up (a xs : Array Keyed) (k : Nat) : Prop := ∃ ix, From a xs k ix ∧ ∀ i j, i < j → j < k → Bef a (ix i) (ix j)
def Dr (a xs : Array Keyed) (k : Nat) : Prop := ∃ ix, From a xs k ix ∧ ∀ i j, i < j → j < k → Bef a (ix j) (ix i)
/-- falling, but the last e + 1 are alike and not yet turned round -/
def Dn (a xs : Array Keyed) (k e : Nat) : Prop := e + 1 ≤ k ∧ ∃ ix, From a xs k ix ∧ (∀ i j, i < j → j < k - (e + 1) → Bef a (ix j) (ix i)) ∧ (∀ i j, i < k - (e + 1) → k - (e + 1) ≤ j → j < k → K a (ix j) < K a (ix i)) ∧
  ∀ i j, k - (e + 1) ≤ i → i < j → j < k → K a (ix i) = K a (ix j) ∧ ix i < ix j
section
variable {a xs : Array Keyed} {k e : Nat}
theorem Up.le (h : Up a xs k) {i j : Nat} (hij : i ≤ j) (hj : j < k) : K xs i ≤ K xs j := by
  obtain ⟨ix, f, o⟩ := h
  rw [f.key, f.key]
  by_cases c : i = j
  · subst c; exact Int.le_refl _
  · rcases o i j (by omega) hj with h | h <;> omega
theorem Up.grow (h : Up a xs k) (hk : 1 ≤ k) (hn : ¬ K xs k < K xs (k - 1)) : Up a xs (k + 1) := by
  obtain ⟨ix, f, o⟩ := h
  rw [f.key, f.key, f.rest k (Nat.le_refl _)] at hn
  refine ⟨ix, f.more, fun i j hij hj => ?_⟩
  by_cases c : j < k
  · exact o i j hij c
  · obtain rfl : j = k := by omega
    have hl := f.low i hij
    rw [f.rest j (Nat.le_refl _)]
    unfold Bef
    by_cases c2 : i = j - 1
    · subst c2; omega
    · rcases o i (j - 1) (by omega) (by omega) with h | h <;> omega
theorem Dr.up (h : Dr a xs k) (hk : k ≤ xs.size) : Up a (mirror xs 0 k ((k - 0) / 2)) k := by
  obtain ⟨ix, f, o⟩ := h
  refine ⟨_, f.mirror hk, fun i j hij hj => ?_⟩
  simp only [if_pos (show 0 ≤ i ∧ i < k by omega), if_pos (show 0 ≤ j ∧ j < k by omega)]
  exact o _ _ (by omega) (by omega)
theorem Dn.flat (h : Dn a xs k 0) : Dr a xs k := by
  obtain ⟨h0, ix, f, o1, o2, o3⟩ := h
  refine ⟨ix, f, fun i j hij hj => ?_⟩
  by_cases c : j < k - (0 + 1)
  · exact o1 i j hij c
  · exact .inl (o2 i j (by omega) (by omega) hj)
theorem Dn.turn (h : Dn a xs k e) (hk : k ≤ xs.size) : Dr a (mirror xs (k - (e + 1)) k ((k - (k - (e + 1))) / 2)) k := by
  obtain ⟨h0, ix, f, o1, o2, o3⟩ := h
  refine ⟨_, f.mirror hk, fun i j hij hj => ?_⟩
  by_cases c1 : k - (e + 1) ≤ i
  · simp only [if_pos (show k - (e + 1) ≤ i ∧ i < k by omega), if_pos (show k - (e + 1) ≤ j ∧ j < k by omega)]
    exact .inr (o3 _ _ (by omega) (by omega) (by omega))
  · simp only [if_neg (show ¬ (k - (e + 1) ≤ i ∧ i < k) by omega)]
    by_cases c2 : k - (e + 1) ≤ j
    · simp only [if_pos (show k - (e + 1) ≤ j ∧ j < k by omega)]
      exact .inl (o2 _ _ (by omega) (by omega) (by omega))
    · simp only [if_neg (show ¬ (k - (e + 1) ≤ j ∧ j < k) by omega)]
      exact o1 i j hij (by omega)
theorem Dr.grow (h : Dr a xs k) (hk : 1 ≤ k) (hn : K xs k < K xs (k - 1)) : Dn a xs (k + 1) 0 := by
  obtain ⟨ix, f, o⟩ := h
  rw [f.key, f.key, f.rest k (Nat.le_refl _)] at hn
  refine ⟨by omega, ix, f.more, fun i j hij hj => o i j hij (by omega), fun i j hi h1 h2 => ?_, fun i j h1 h2 h3 => by omega⟩
  obtain rfl : j = k := by omega
  rw [f.rest j (Nat.le_refl _)]
  by_cases c : i = j - 1
  · subst c; exact hn
  · rcases o i (j - 1) (by omega) (by omega) with h | h <;> omega
theorem Dn.grow (h : Dn a xs k e) (h1 : ¬ K xs k < K xs (k - 1)) (h2 : ¬ K xs (k - 1) < K xs k) : Dn a xs (k + 1) (e + 1) := by
  obtain ⟨h0, ix, f, o1, o2, o3⟩ := h
  rw [f.key, f.key, f.rest k (Nat.le_refl _)] at h1 h2
  have hk1 : k + 1 - (e + 1 + 1) = k - (e + 1) := by omega
  refine ⟨by omega, ix, f.more, ?_, ?_, ?_⟩
  · rw [hk1]; exact o1
  · rw [hk1]
    intro i j hi hj1 hj2
    by_cases c : j < k
    · exact o2 i j hi hj1 c
    · obtain rfl : j = k := by omega
      rw [f.rest j (Nat.le_refl _)]
      have := o2 i (j - 1) hi (by omega) (by omega)
      omega
  · rw [hk1]
    intro i j hi hij hj
    by_cases c : j < k
    · exact o3 i j hi hij c
    · obtain rfl : j = k := by omega
      rw [f.rest j (Nat.le_refl _)]
      refine ⟨?_, f.low i hij⟩
      by_cases c2 : i = j - 1
      · subst c2; omega
      · have := (o3 i (j - 1) hi (by omega) (by omega)).1
        omega
/-- all alike: turned round as one block -/
theorem Up.even (h : Up a xs k) (hk : 1 ≤ k) (hz : k ≤ xs.size) (hr : ¬ K xs 0 < K xs (k - 1)) : Dr a (mirror xs 0 k ((k - 0) / 2)) k := by
  have hle := @Up.le a xs k h
  obtain ⟨ix, f, o⟩ := h
  have hall : ∀ i, i < k → K a (ix i) = K a (ix 0) := fun i hi => by
    have e1 := hle (i := 0) (j := i) (by omega) hi
    have e2 := hle (i := i) (j := k - 1) (by omega) (by omega)
    rw [f.key, f.key] at e1 e2 hr
    omega
  refine ⟨_, f.mirror hz, fun i j hij hj => ?_⟩
  simp only [if_pos (show 0 ≤ i ∧ i < k by omega), if_pos (show 0 ≤ j ∧ j < k by omega)]
  have e1 := hall (0 + k - 1 - i) (by omega)
  have e2 := hall (0 + k - 1 - j) (by omega)
  rcases o (0 + k - 1 - j) (0 + k - 1 - i) (by omega) (by omega) with h | h
  · exact .inl h
  · exact .inr h
/-- the last one is put into its place -/
theorem Up.put (h : Up a xs k) (hk : k < xs.size) {l : Nat} (hl : l ≤ k) (h1 : ∀ i, i < l → K xs i ≤ K xs k) (h2 : ∀ i, l ≤ i → i < k → K xs k < K xs i) : Up a (bubble xs k (k - l)) (k + 1) := by
  obtain ⟨ix, f, o⟩ := h
  have hkk : k - (k - l) = l := by omega
  have hr := f.rest k (Nat.le_refl _)
  refine ⟨fun i => if i = l then k else if l < i ∧ i ≤ k then ix (i - 1) else ix i, ⟨fun i => ?_, fun i hi => ?_, fun i hi => ?_⟩, fun i j hij hj => ?_⟩
  · rw [getElem?_bubble hk _ (by omega), hkk]
    by_cases c : i = l
    · simp only [if_pos c]
      rw [f.at_, hr]
    · simp only [if_neg c]
      by_cases c2 : l < i ∧ i ≤ k
      · simp only [if_pos c2]
        exact f.at_ _
      · simp only [if_neg c2]
        exact f.at_ _
  · simp only [if_neg (show ¬ i = l by omega), if_neg (show ¬ (l < i ∧ i ≤ k) by omega)]
    exact f.rest i (by omega)
  · by_cases c : i = l
    · simp only [if_pos c]; omega
    · simp only [if_neg c]
      by_cases c2 : l < i ∧ i ≤ k
      · simp only [if_pos c2]
        have := f.low (i - 1) (by omega)
        omega
      · simp only [if_neg c2]
        have := f.low i (by omega)
        omega
  · have key : ∀ i, i < k → (i < l → K a (ix i) ≤ K a k) ∧ (l ≤ i → K a k < K a (ix i)) := fun i hi => by
      refine ⟨fun c => ?_, fun c => ?_⟩
      · have := h1 i c
        rw [f.key, f.key, hr] at this
        exact this
      · have := h2 i c hi
        rw [f.key, f.key, hr] at this
        exact this
    by_cases ci : i = l
    · simp only [if_pos ci, if_neg (show ¬ j = l by omega), if_pos (show l < j ∧ j ≤ k by omega)]
      exact .inl ((key (j - 1) (by omega)).2 (by omega))
    · by_cases cj : j = l
      · simp only [if_neg ci, if_pos cj, if_neg (show ¬ (l < i ∧ i ≤ k) by omega)]
        have a1 := (key i (by omega)).1 (by omega)
        have a2 := f.low i (by omega)
        unfold Bef
        omega
      · simp only [if_neg ci, if_neg cj]
        by_cases c3 : l < i
        · simp only [if_pos (show l < i ∧ i ≤ k by omega), if_pos (show l < j ∧ j ≤ k by omega)]
          exact o _ _ (by omega) (by omega)
        · simp only [if_neg (show ¬ (l < i ∧ i ≤ k) by omega)]
          by_cases c4 : l < j
          · simp only [if_pos (show l < j ∧ j ≤ k by omega)]
            exact o _ _ (by omega) (by omega)
          · simp only [if_neg (show ¬ (l < j ∧ j ≤ k) by omega)]
            exact o _ _ hij (by omega)
end
section
variable {prog : Program} {w : World} {A : Around} {E : Value → Shared → Prop} {s : Shared} {a₀ : Array Keyed}
theorem st_asc {st : SortSt} {b n : Nat} {Q : AscSt → SortSt → Prop} (h0 : IntKeys a₀) (hB : SBase a₀ st) (hn : n ≤ a₀.size) (hb : 1 ≤ b) (hbn : b ≤ n) (hu : Up a₀ (arrOf st) b)
    (h : ∀ m, b ≤ m → m ≤ n → Up a₀ (arrOf st) m → (m = n ∨ K (arrOf st) m < K (arrOf st) (m - 1)) → Q (none, m) st) : wpS (model prog w) A E s (ascLoop b n) Q st := by
  unfold ascLoop
  refine wpS_forRange (I := fun x c t => t = st ∧ c = (none, x) ∧ Up a₀ (arrOf st) x) (fun x c t hx hxn hI => ?_) (fun c t hI => ?_) ⟨rfl, rfl, hu⟩
  · obtain ⟨rfl, rfl, u⟩ := hI
    dsimp only
    refine wpS_bind (wpS_ltK hB h0 (by omega) (by omega) ?_)
    by_cases c : K (arrOf t) x < K (arrOf t) (x - 1)
    · simp only [c, decide_true, if_true]
      exact wpS_pure (h x hx (by omega) u (.inr c))
    · simp only [c, decide_false, Bool.false_eq_true, if_false]
      exact wpS_pure ⟨rfl, rfl, u.grow (by omega) c⟩
  · obtain ⟨rfl, rfl, u⟩ := hI
    have e : max b n = n := by omega
    rw [e] at u ⊢
    exact h n hbn (Nat.le_refl _) u (.inl rfl)
theorem st_tail {st : SortSt} {k n : Nat} {Q : Option Nat → SortSt → Prop} (h0 : IntKeys a₀) (hB : SBase a₀ st) (hn : n ≤ a₀.size) (hk : 1 ≤ k) (hkn : k ≤ n) (hd : Dr a₀ (arrOf st) k)
    (h : ∀ m t, SBase a₀ t → 1 ≤ m → m ≤ n → Up a₀ (arrOf t) m → Q (some m) t) : wpS (model prog w) A E s (tail3 k n) Q st := by
  unfold tail3
  have hz : k ≤ (arrOf st).size := by rw [hB.size]; omega
  have B1 := hB.setArr (mirror_perm (arrOf st) 0 k ((k - 0) / 2))
  exact wpS_bind (wpS_reverse (wpS_bind (st_asc h0 B1 hn hk hkn (hd.up hz) fun m m1 m2 u _ => wpS_pure (h m _ B1 (by omega) m2 u))))
theorem st_desc {st : SortSt} {b n : Nat} {Q : DescSt → SortSt → Prop} (h0 : IntKeys a₀) (hB : SBase a₀ st) (hn : n ≤ a₀.size) (hbn : b ≤ n) (hd : Dn a₀ (arrOf st) b 0)
    (h : ∀ m e t, SBase a₀ t → b ≤ m → m ≤ n → Dn a₀ (arrOf t) m e → Q (none, m, e) t) : wpS (model prog w) A E s (descLoop b n) Q st := by
  unfold descLoop
  refine wpS_forRange (I := fun x c t => ∃ e, c = (none, x, e) ∧ SBase a₀ t ∧ Dn a₀ (arrOf t) x e) (fun x c t hx hxn hI => ?_) (fun c t hI => ?_) ⟨0, rfl, hB, hd⟩
  · obtain ⟨e, rfl, B, d⟩ := hI
    have hz : x ≤ (arrOf t).size := by rw [B.size]; omega
    have hx1 : 1 ≤ x := by have := d.1; omega
    dsimp only
    refine wpS_bind (wpS_ltK B h0 (by omega) (by omega) ?_)
    by_cases c : K (arrOf t) x < K (arrOf t) (x - 1)
    · simp only [c, decide_true, if_true]
      by_cases c2 : e > 0
      · rw [if_pos c2]
        refine wpS_bind (wpS_reverse (wpS_pure ⟨0, rfl, B.setArr (mirror_perm _ _ _ _), (d.turn hz).grow hx1 ?_⟩))
        show K (mirror (arrOf t) (x - (e + 1)) x ((x - (x - (e + 1))) / 2)) x < K (mirror (arrOf t) (x - (e + 1)) x ((x - (x - (e + 1))) / 2)) (x - 1)
        rw [K_mirror hz, K_mirror hz, if_neg (by omega), if_pos (by have := d.1; omega)]
        obtain ⟨hq, ix, f, _, _, o3⟩ := id d
        by_cases c3 : x - (e + 1) + x - 1 - (x - 1) = x - 1
        · rw [c3]; exact c
        · have := (o3 (x - (e + 1) + x - 1 - (x - 1)) (x - 1) (by omega) (by omega) (by omega)).1
          rw [← f.key, ← f.key] at this
          omega
      · rw [if_neg c2]
        obtain rfl : e = 0 := by omega
        exact wpS_pure ⟨0, rfl, B, d.flat.grow hx1 c⟩
    · simp only [c, decide_false, Bool.false_eq_true, if_false]
      refine wpS_bind (wpS_ltK B h0 (by omega) (by omega) ?_)
      by_cases c2 : K (arrOf t) (x - 1) < K (arrOf t) x
      · simp only [c2, decide_true, if_true]
        exact wpS_pure (h x e t B hx (by omega) d)
      · simp only [c2, decide_false, Bool.false_eq_true, if_false]
        exact wpS_pure ⟨e + 1, rfl, B, d.grow c c2⟩
  · obtain ⟨e, rfl, B, d⟩ := hI
    have e1 : max b n = n := by omega
    rw [e1] at d ⊢
    exact h n e t B hbn (Nat.le_refl _) d
theorem st_part {st : SortSt} {k n : Nat} {Q : Option Nat → SortSt → Prop} (h0 : IntKeys a₀) (hB : SBase a₀ st) (hn : n ≤ a₀.size) (hkn : k + 1 ≤ n) (hd : Dn a₀ (arrOf st) (k + 1) 0)
    (h : ∀ m t, SBase a₀ t → 1 ≤ m → m ≤ n → Up a₀ (arrOf t) m → Q (some m) t) : wpS (model prog w) A E s (descPart k n) Q st := by
  unfold descPart
  refine wpS_bind (wpS_lift (wpAny_rule ⟨rfl, wpS_bind (st_desc h0 hB hn hkn hd fun m e t B m1 m2 d => ?_)⟩))
  have hz : m ≤ (arrOf t).size := by rw [B.size]; omega
  show wpS (model prog w) A E s (if e > 0 then (do reverseSlice' (m - (e + 1)) m; tail3 m n) else tail3 m n) Q t
  by_cases c : e > 0
  · rw [if_pos c]
    exact wpS_bind (wpS_reverse (st_tail h0 (B.setArr (mirror_perm _ _ _ _)) hn (by omega) m2 (d.turn hz) h))
  · rw [if_neg c]
    obtain rfl : e = 0 := by omega
    exact st_tail h0 B hn (by omega) m2 d.flat h
theorem st_run {st : SortSt} {n : Nat} {Q : Option Nat → SortSt → Prop} (h0 : IntKeys a₀) (hB : SBase a₀ st) (ha : arrOf st = a₀) (hn : n ≤ a₀.size) (h1 : 1 ≤ n)
    (h : ∀ m t, SBase a₀ t → 1 ≤ m → m ≤ n → Up a₀ (arrOf t) m → Q (some m) t) : wpS (model prog w) A E s (countRun' 0 n) Q st := by
  rw [countRun0_eq]
  have u1 : Up a₀ (arrOf st) 1 := ⟨id, ⟨fun i => by rw [ha]; rfl, fun i _ => rfl, fun i z => z⟩, fun i j a b => by omega⟩
  refine wpS_bind (st_asc h0 hB hn (Nat.le_refl 1) h1 u1 fun m m1 m2 u hor => ?_)
  have hz : m ≤ (arrOf st).size := by rw [hB.size]; omega
  dsimp only
  by_cases c : m = n
  · rw [if_pos (beq_iff_eq.mpr c)]
    exact wpS_pure (h m st hB m1 m2 u)
  · have hlt := hor.resolve_left c
    rw [if_neg (fun z => c (beq_iff_eq.mp z))]
    by_cases c2 : m > 1
    · rw [if_pos c2]
      refine wpS_bind (wpS_ltK hB h0 (by omega) (by omega) ?_)
      by_cases c3 : K (arrOf st) 0 < K (arrOf st) (m - 1)
      · simp only [c3, decide_true, if_true]
        exact wpS_pure (h m st hB m1 m2 u)
      · simp only [c3, decide_false, Bool.false_eq_true, if_false]
        refine wpS_bind (wpS_reverse (st_part h0 (hB.setArr (mirror_perm _ _ _ _)) hn (by omega) ((u.even m1 hz c3).grow m1 ?_) h))
        show K (mirror (arrOf st) 0 m ((m - 0) / 2)) m < K (mirror (arrOf st) 0 m ((m - 0) / 2)) (m - 1)
        rw [K_mirror hz, K_mirror hz, if_neg (by omega), if_pos (by omega)]
        have e1 := u.le (i := 0) (j := 0 + m - 1 - (m - 1)) (by omega) (by omega)
        have e2 := u.le (i := 0 + m - 1 - (m - 1)) (j := m - 1) (by omega) (by omega)
        omega
    · rw [if_neg c2]
      obtain rfl : m = 1 := by omega
      obtain ⟨ix, f, o⟩ := u
      exact st_part h0 hB hn (by omega) (Dr.grow ⟨ix, f, fun i j a b => by omega⟩ (by omega) hlt) h
theorem st_bin {st : SortSt} {n b : Nat} {Q : Bool → SortSt → Prop} (h0 : IntKeys a₀) (hB : SBase a₀ st) (hn : n ≤ a₀.size) (hb : 1 ≤ b) (hbn : b ≤ n) (hu : Up a₀ (arrOf st) b)
    (h : ∀ t, SBase a₀ t → Up a₀ (arrOf t) n → Q true t) : wpS (model prog w) A E s (binarySort' 0 n b) Q st := by
  rw [binarySort'_eq]
  simp only [Nat.zero_add]
  have eb : max b 1 = b := by omega
  rw [eb]
  refine wpS_bind (wpS_mono (wpS_forRange (I := fun k c t => c = (none, ()) ∧ SBase a₀ t ∧ Up a₀ (arrOf t) k) (Q := fun c t => c = (none, ()) ∧ SBase a₀ t ∧ Up a₀ (arrOf t) n) (fun k c t hk hkn hI => ?_) (fun c t hI => ?_) ⟨rfl, hB, hu⟩) fun c t hI => ?_)
  · obtain ⟨rfl, B, u⟩ := hI
    have hks : k < (arrOf t).size := by rw [B.size]; omega
    refine wpS_bind (wpS_mono (wpS_forRange (I := fun x c t2 => t2 = t ∧ ∃ l r, c = (none, l, r) ∧ l ≤ r ∧ r ≤ k ∧ r - l ≤ k - x ∧ (∀ i, i < l → K (arrOf t) i ≤ K (arrOf t) k) ∧ ∀ i, r ≤ i → i < k → K (arrOf t) k < K (arrOf t) i)
      (Q := fun c t2 => t2 = t ∧ ∃ l r, c = (none, l, r) ∧ l ≤ k ∧ (∀ i, i < l → K (arrOf t) i ≤ K (arrOf t) k) ∧ ∀ i, l ≤ i → i < k → K (arrOf t) k < K (arrOf t) i)
      (fun x c t2 _ hx hI => ?_) (fun c t2 hI => ?_) ⟨rfl, 0, k, rfl, by omega, by omega, by omega, fun i z => by omega, fun i z1 z2 => by omega⟩) fun c t2 hI => ?_)
    · obtain ⟨rfl, l, r, rfl, a1, a2, a3, a4, a5⟩ := hI
      dsimp only
      by_cases c1 : l ≥ r
      · rw [if_pos c1]
        obtain rfl : l = r := by omega
        exact wpS_pure ⟨rfl, l, l, rfl, a2, a4, a5⟩
      · rw [if_neg c1]
        refine wpS_bind (wpS_ltK B h0 (by omega) (by omega) ?_)
        by_cases c2 : K (arrOf t2) k < K (arrOf t2) ((l + r) / 2)
        · simp only [c2, decide_true, if_true]
          exact wpS_pure ⟨rfl, l, (l + r) / 2, rfl, by omega, by omega, by omega, a4, fun i z1 z2 => by have := u.le z1 z2; omega⟩
        · simp only [c2, decide_false, Bool.false_eq_true, if_false]
          exact wpS_pure ⟨rfl, (l + r) / 2 + 1, r, rfl, by omega, by omega, by omega, fun i z => by have := u.le (i := i) (j := (l + r) / 2) (by omega) (by omega); omega, a5⟩
    · obtain ⟨rfl, l, r, rfl, a1, a2, a3, a4, a5⟩ := hI
      obtain rfl : l = r := by omega
      exact ⟨rfl, l, l, rfl, a2, a4, a5⟩
    · obtain ⟨rfl, l, r, rfl, a2, a4, a5⟩ := hI
      show wpS (model prog w) A E s (moveDown' k l >>= fun _ => pure (ForInStep.yield (none, ()))) _ t2
      rw [moveDown'_eq]
      exact wpS_bind (wpS_modify (wpS_pure ⟨rfl, B.setArr (bubble_perm _ _ _), u.put hks a2 a4 a5⟩))
  · obtain ⟨rfl, B, u⟩ := hI
    have e1 : max b n = n := by omega
    rw [e1] at u
    exact ⟨rfl, B, u⟩
  · obtain ⟨rfl, B, u⟩ := hI
    exact wpS_pure (h t B u)
/-- one run, pending -/
def OneRun (a₀ : Array Keyed) (st : SortSt) : Prop := (arrOf st).Perm a₀ ∧ failedOf st = none ∧ pendingOf st = #[(0, a₀.size, 0)] ∧ Up a₀ (arrOf st) a₀.size
theorem OneRun.mk' {st : SortSt} (B : SBase a₀ st) (u : Up a₀ (arrOf st) a₀.size) : OneRun a₀ (setPending st ((pendingOf st).push (0, a₀.size, 0))) :=
  ⟨B.perm, B.failed, by show (pendingOf st).push _ = _; rw [B.pend]; rfl, u⟩
theorem st_sort {st : SortSt} {Q : Unit → SortSt → Prop} (h0 : IntKeys a₀) (hB : SBase a₀ st) (ha : arrOf st = a₀) (h2 : 2 ≤ a₀.size) (h64 : a₀.size < 64)
    (h : ∀ t, (arrOf t).Perm a₀ → failedOf t = none → Up a₀ (arrOf t) a₀.size → Q () t) : wpS (model prog w) A E s sortRuns' Q st := by
  have hmr : minRun' a₀.size a₀.size 0 = a₀.size := by
    cases hs : a₀.size with
    | zero => omega
    | succ f => rw [minRun'_succ, if_pos (by omega)]
  rw [sortRuns'_eq]
  refine wpS_bind (wpS_get ?_)
  simp only [hB.size, hmr]
  refine wpS_bind (wpS_mono (wpS_forRange (I := fun x c t => (x = 0 ∧ c = (none, 0) ∧ t = st) ∨ (1 ≤ x ∧ c = (none, a₀.size) ∧ OneRun a₀ t)) (Q := fun c t => c = (none, a₀.size) ∧ OneRun a₀ t)
    (fun x c t _ hx hI => ?_) (fun c t hI => ?_) (.inl ⟨rfl, rfl, rfl⟩)) fun c t hI => ?_)
  · rcases hI with ⟨rfl, rfl, rfl⟩ | ⟨h1, rfl, o⟩
    · dsimp only
      rw [if_neg (by omega)]
      simp only [Nat.sub_zero, Nat.min_self, Nat.zero_add]
      refine wpS_bind (st_run h0 hB ha (Nat.le_refl _) (by omega) fun m t2 B2 m1 m2 u2 => ?_)
      dsimp only
      have push : ∀ t3 : SortSt, SBase a₀ t3 → (pendingOf t3).back? = none := fun t3 B3 => by rw [B3.pend]; rfl
      by_cases c : m < a₀.size
      · rw [if_pos c]
        refine wpS_bind (wpS_lift (wpAny_rule ⟨rfl, wpS_bind (st_bin h0 B2 (Nat.le_refl _) m1 m2 u2 fun t3 B3 u3 => ?_)⟩))
        simp only [Bool.not_true, Bool.false_eq_true, if_false]
        refine wpS_bind (wpS_get ?_)
        rw [push t3 B3]
        exact wpS_bind (wpS_modify (wpS_pure (.inr ⟨by omega, rfl, OneRun.mk' B3 u3⟩)))
      · rw [if_neg c]
        obtain rfl : m = a₀.size := by omega
        refine wpS_bind (wpS_get ?_)
        rw [push t2 B2]
        exact wpS_bind (wpS_modify (wpS_pure (.inr ⟨by omega, rfl, OneRun.mk' B2 u2⟩)))
    · dsimp only
      rw [if_pos (Nat.le_refl _)]
      exact wpS_pure ⟨rfl, o⟩
  · rcases hI with ⟨z, _⟩ | ⟨_, rfl, o⟩
    · omega
    · exact ⟨rfl, o⟩
  · obtain ⟨rfl, o⟩ := hI
    dsimp only
    refine wpS_bind (wpS_mono (wpS_forRange (I := fun _ c t2 => t2 = t ∧ c = (none, ())) (Q := fun c t2 => t2 = t ∧ c = (none, ())) (fun x c t2 _ _ hI => ?_) (fun _ _ z => z) ⟨rfl, rfl⟩) fun c t2 hI => ?_)
    · obtain ⟨rfl, rfl⟩ := hI
      refine wpS_bind (wpS_get ?_)
      rw [if_pos (by rw [o.2.2.1]; exact Nat.le_refl 1)]
      exact wpS_pure ⟨rfl, rfl⟩
    · obtain ⟨rfl, rfl⟩ := hI
      exact wpS_pure (h _ o.1 o.2.1 o.2.2.2)
end
end L2

set_option Elab.async false
set_option linter.all false
set_option maxRecDepth 100000
set_option maxHeartbeats 4000000
/-! one order, one arrangement; the order of points by whole keys -/
namespace L2
theorem arranged_one {α : Type} {R : α → α → Prop} (hR : ∀ x y, R x y → R y x → False) : ∀ {xs ys : List α}, xs.Perm ys → xs.Pairwise R → ys.Pairwise R → xs = ys
  | [], ys, p, _, _ => (List.Perm.nil_eq p)
  | x :: xs, [], p, _, _ => absurd p.length_eq (by simp)
  | x :: xs, y :: ys, p, hx, hy => by
    have hx' := List.pairwise_cons.mp hx
    have hy' := List.pairwise_cons.mp hy
    have e : x = y := by
      have m1 : x ∈ y :: ys := p.mem_iff.mp (List.mem_cons_self ..)
      have m2 : y ∈ x :: xs := p.mem_iff.mpr (List.mem_cons_self ..)
      rcases List.mem_cons.mp m1 with e | m1
      · exact e
      · rcases List.mem_cons.mp m2 with e | m2
        · exact e.symm
        · exact (hR _ _ (hx'.1 y m2) (hy'.1 x m1)).elim
    subst e
    rw [arranged_one hR (List.Perm.cons_inv p) hx'.2 hy'.2]

/-- the whole key of a point -/
def keyP (S : Int) (p : Int × Int) : Int := p.1 * S / p.2
theorem keyP_le {S : Int} {p q : Int × Int} (hS : 0 ≤ S) (hp : 1 ≤ p.2) (hq : 1 ≤ q.2) (h : p.1 * q.2 ≤ q.1 * p.2) : keyP S p ≤ keyP S q := by
  unfold keyP
  refine (Int.le_ediv_iff_mul_le (by omega)).mpr ?_
  have a1 : p.1 * S / p.2 * p.2 ≤ p.1 * S := Int.ediv_mul_le _ (by omega)
  generalize p.1 * S / p.2 = k at a1 ⊢
  have a2 : k * p.2 * q.2 ≤ p.1 * S * q.2 := Int.mul_le_mul_of_nonneg_right a1 (by omega)
  have a3 : p.1 * q.2 * S ≤ q.1 * p.2 * S := Int.mul_le_mul_of_nonneg_right h hS
  have a4 : k * q.2 * p.2 ≤ q.1 * S * p.2 := by
    have e1 : k * q.2 * p.2 = k * p.2 * q.2 := by grind
    have e2 : p.1 * S * q.2 = p.1 * q.2 * S := by grind
    have e3 : q.1 * S * p.2 = q.1 * p.2 * S := by grind
    omega
  exact Int.le_of_mul_le_mul_right a4 (by omega)
theorem keyP_lt {G : Int} {p q : Int × Int} (hp : 1 ≤ p.2) (hq : 1 ≤ q.2) (gp : p.2 ≤ G) (gq : q.2 ≤ G) (h : p.1 * q.2 < q.1 * p.2) : keyP (G * G) p < keyP (G * G) q := by
  have hS : 0 ≤ G * G := Int.mul_nonneg (by omega) (by omega)
  have hb : p.2 * q.2 ≤ G * G := Int.mul_le_mul gp gq (by omega) (by omega)
  unfold keyP
  generalize G * G = S at hS hb
  have a1 : p.1 * S / p.2 * p.2 ≤ p.1 * S := Int.ediv_mul_le _ (by omega)
  refine (Int.le_ediv_iff_mul_le (by omega)).mpr ?_
  generalize p.1 * S / p.2 = k at a1 ⊢
  have a2 : k * p.2 * q.2 ≤ p.1 * S * q.2 := Int.mul_le_mul_of_nonneg_right a1 (by omega)
  have a3 : (p.1 * q.2 + 1) * S ≤ q.1 * p.2 * S := Int.mul_le_mul_of_nonneg_right (by omega) hS
  have a4 : (k + 1) * q.2 * p.2 ≤ q.1 * S * p.2 := by
    have e1 : (k + 1) * q.2 * p.2 = k * p.2 * q.2 + p.2 * q.2 := by grind
    have e2 : p.1 * S * q.2 + S = (p.1 * q.2 + 1) * S := by grind
    have e3 : q.1 * S * p.2 = q.1 * p.2 * S := by grind
    omega
  exact Int.le_of_mul_le_mul_right a4 (by omega)
/-- the order of the points' worth, of places with one worth the lesser first -/
def Wor (pt : Nat → Int × Int) (i j : Nat) : Prop := (pt i).1 * (pt j).2 < (pt j).1 * (pt i).2 ∨ ((pt i).1 * (pt j).2 = (pt j).1 * (pt i).2 ∧ i < j)
theorem wor_asym {pt : Nat → Int × Int} (i j : Nat) (h : Wor pt i j) (h' : Wor pt j i) : False := by
  unfold Wor at h h'
  omega
theorem wor_of {pt : Nat → Int × Int} {G : Int} {i j : Nat} (hi : 1 ≤ (pt i).2) (hj : 1 ≤ (pt j).2) (gi : (pt i).2 ≤ G) (gj : (pt j).2 ≤ G)
    (h : keyP (G * G) (pt i) < keyP (G * G) (pt j) ∨ (keyP (G * G) (pt i) = keyP (G * G) (pt j) ∧ i < j)) : Wor pt i j := by
  have hS : 0 ≤ G * G := Int.mul_nonneg (by omega) (by omega)
  unfold Wor
  rcases Int.lt_trichotomy ((pt i).1 * (pt j).2) ((pt j).1 * (pt i).2) with c | c | c
  · exact .inl c
  · have k1 := keyP_le hS hi hj (Int.le_of_eq c)
    have k2 := keyP_le hS hj hi (Int.le_of_eq c.symm)
    exact .inr ⟨c, by omega⟩
  · have := keyP_lt hj hi gj gi c
    omega
/-- worth goes through -/
theorem wor_trans {pt : Nat → Int × Int} {i j k : Nat} (hi : 1 ≤ (pt i).2) (hj : 1 ≤ (pt j).2) (hk : 1 ≤ (pt k).2) (h1 : (pt i).1 * (pt j).2 ≤ (pt j).1 * (pt i).2) (h2 : (pt j).1 * (pt k).2 ≤ (pt k).1 * (pt j).2) : (pt i).1 * (pt k).2 ≤ (pt k).1 * (pt i).2 := by
  have a1 := Int.mul_le_mul_of_nonneg_right h1 (show 0 ≤ (pt k).2 by omega)
  have a2 := Int.mul_le_mul_of_nonneg_right h2 (show 0 ≤ (pt i).2 by omega)
  refine Int.le_of_mul_le_mul_right (a := (pt j).2) ?_ (by omega)
  have e1 : (pt i).1 * (pt k).2 * (pt j).2 = (pt i).1 * (pt j).2 * (pt k).2 := by grind
  have e2 : (pt k).1 * (pt i).2 * (pt j).2 = (pt k).1 * (pt j).2 * (pt i).2 := by grind
  have e3 : (pt j).1 * (pt i).2 * (pt k).2 = (pt j).1 * (pt k).2 * (pt i).2 := by grind
  omega
/-- a new last one put into an arranged list -/
theorem wor_put {pt : Nat → Int × Int} {il : List Nat} {n l : Nat} (hb : ∀ i, 1 ≤ (pt i).2) (hp : il.Perm (List.range n)) (ho : il.Pairwise (Wor pt)) (h1 : ∀ i ∈ il.take l, (pt i).1 * (pt n).2 ≤ (pt n).1 * (pt i).2)
    (h2 : ∀ i ∈ il.drop l, (pt n).1 * (pt i).2 < (pt i).1 * (pt n).2) : (il.take l ++ [n] ++ il.drop l).Perm (List.range (n + 1)) ∧ (il.take l ++ [n] ++ il.drop l).Pairwise (Wor pt) := by
  have hlt : ∀ i ∈ il, i < n := fun i hi => List.mem_range.mp (hp.mem_iff.mp hi)
  constructor
  · rw [List.range_succ]
    have e : (il.take l ++ [n] ++ il.drop l).Perm (il ++ [n]) := by
      have a : (il.take l ++ [n] ++ il.drop l).Perm (il.take l ++ (il.drop l ++ [n])) := by
        rw [List.append_assoc]
        exact List.Perm.append_left _ List.perm_append_comm
      rw [← List.append_assoc, List.take_append_drop] at a
      exact a
    exact e.trans (hp.append_right _)
  · have ho' := ho
    rw [← List.take_append_drop l il, List.pairwise_append] at ho'
    obtain ⟨o1, o2, o3⟩ := ho'
    rw [List.append_assoc, List.pairwise_append]
    refine ⟨o1, ?_, fun i hi j hj => ?_⟩
    · rw [List.singleton_append, List.pairwise_cons]
      exact ⟨fun j hj => .inl (h2 j hj), o2⟩
    · rcases List.mem_append.mp hj with hj | hj
      · obtain rfl := List.mem_singleton.mp hj
        have := h1 i hi
        have := hlt i (List.mem_of_mem_take hi)
        unfold Wor
        omega
      · exact o3 i hi j hj
end L2

set_option Elab.async false
set_option linter.all false
set_option maxRecDepth 100000
set_option maxHeartbeats 4000000
/-! sorted(l, key=f), what it tells and what it leaves -/
namespace L2
open PySem PySem.Spec PyProof.Rows
theorem few_below : ∀ (n : Nat) (l : List Nat), l.Nodup → (∀ x ∈ l, x < n) → l.length ≤ n
  | 0, l, _, h => by
    cases l with
    | nil => exact Nat.le_refl _
    | cons x l => exact absurd (h x (List.mem_cons_self ..)) (Nat.not_lt_zero _)
  | n + 1, l, hn, h => by
    have a1 := few_below n (l.erase n) (hn.erase n) fun x hx => by
      have hm := List.mem_of_mem_erase hx
      have := h x hm
      by_cases e : x = n
      · subst e
        exact absurd hx (hn.not_mem_erase)
      · omega
    have a2 : l.length ≤ (l.erase n).length + 1 := by
      rw [List.length_erase]
      split <;> omega
    omega
theorem all_below : ∀ (n : Nat) (l : List Nat), l.Nodup → (∀ x ∈ l, x < n) → l.length = n → l.Perm (List.range n)
  | 0, l, _, _, e => by rw [List.length_eq_zero_iff.mp e]; exact List.Perm.refl _
  | n + 1, l, hn, h, e => by
    have hm : n ∈ l := by
      apply Classical.byContradiction
      intro c
      have := few_below n l hn fun x hx => by
        have := h x hx
        by_cases e : x = n
        · subst e; exact absurd hx c
        · omega
      omega
    have a1 := all_below n (l.erase n) (hn.erase n) (fun x hx => by
      have := h x (List.mem_of_mem_erase hx)
      by_cases e : x = n
      · subst e; exact absurd hx hn.not_mem_erase
      · omega) (by rw [List.length_erase, if_pos (by simpa using hm)]; omega)
    rw [List.range_succ]
    exact (List.perm_cons_erase hm).trans ((a1.cons n).trans (List.perm_append_comm (l₁ := [n])))
/-- the sorted array as a list of old places -/
theorem Up.places {a xs : Array Keyed} (h : Up a xs a.size) (hz : xs.size = a.size) : ∃ il : List Nat, il.Perm (List.range a.size) ∧ il.Pairwise (Bef a) ∧ xs.toList = il.map fun i => a.getD i (.none, .none) := by
  obtain ⟨ix, f, o⟩ := h
  have pw : ((List.range a.size).map ix).Pairwise (Bef a) := by
    rw [List.pairwise_map]
    refine List.Pairwise.imp_of_mem (R := (· < ·)) (fun {i j} hi hj hij => ?_) List.pairwise_lt_range
    exact o i j hij (List.mem_range.mp hj)
  refine ⟨(List.range a.size).map ix, all_below _ _ ?_ ?_ (by rw [List.length_map, List.length_range]), pw, ?_⟩
  · refine pw.imp fun {i j} h e => ?_
    subst e
    unfold Bef at h
    omega
  · intro x hx
    obtain ⟨i, hi, rfl⟩ := List.mem_map.mp hx
    exact f.low i (List.mem_range.mp hi)
  · refine List.ext_getElem? fun i => ?_
    rw [List.map_map, List.getElem?_map, Array.getElem?_toList, f.at_]
    by_cases c : i < a.size
    · rw [List.getElem?_range c]
      have := f.low i c
      simp [Array.getD, this]
    · rw [f.rest i (by omega), Array.getElem?_eq_none (by omega), List.getElem?_eq_none (by rw [List.length_range]; omega)]
      rfl
def StOut (kz : List Int) (vs out : List Value) : Prop := ∃ il : List Nat, il.Perm (List.range vs.length) ∧ il.Pairwise (fun i j => kz.getD i 0 < kz.getD j 0 ∨ (kz.getD i 0 = kz.getD j 0 ∧ i < j)) ∧ out = il.map fun i => vs.getD i .none
theorem st_out {keys : Array Value} {vs : List Value} {kz : List Int} {xs : Array Keyed} (hk : IntsAre keys.toList kz) (hlen : kz.length = vs.length) (hz : xs.size = (keys.zip vs.toArray).size) (h : Up (keys.zip vs.toArray) xs (keys.zip vs.toArray).size) :
    StOut kz vs (xs.map (·.2)).toList := by
  have hs : keys.size = vs.length := by
    have := hk.length
    rw [Array.length_toList] at this
    omega
  have hzs : (keys.zip vs.toArray).size = vs.length := by rw [Array.size_zip, hs, List.size_toArray, Nat.min_self]
  obtain ⟨il, p, o, e⟩ := h.places hz
  rw [hzs] at p
  have hkz : kz = keys.toList.map numOf := hk.nums.symm
  have key : ∀ i, i < vs.length → K (keys.zip vs.toArray) i = kz.getD i 0 ∧ ((keys.zip vs.toArray).getD i (.none, .none)).2 = vs.getD i .none := fun i hi => by
    have e1 : (keys.zip vs.toArray)[i]? = some (keys[i]'(by omega), vs[i]) := by
      rw [getElem?_pos _ i (by rw [hzs]; exact hi)]
      simp
    constructor
    · unfold K
      rw [e1, hkz]
      simp [List.getD, List.getElem?_map, hs, hi]
    · simp only [Array.getD_eq_getD_getElem?, e1]
      simp [List.getD, hi]
  refine ⟨il, p, ?_, ?_⟩
  · refine o.imp_of_mem fun {i j} hi hj h => ?_
    have h1 := key i (List.mem_range.mp (p.mem_iff.mp hi))
    have h2 := key j (List.mem_range.mp (p.mem_iff.mp hj))
    unfold Bef at h
    rw [h1.1, h2.1] at h
    exact h
  · rw [Array.toList_map, e, List.map_map]
    refine List.map_congr_left fun i hi => ?_
    exact (key i (List.mem_range.mp (p.mem_iff.mp hi))).2
end L2

set_option Elab.async false
set_option linter.all false
set_option maxRecDepth 100000
set_option maxHeartbeats 4000000
/-! the sort as a tree of questions: where each question is answered by ints that stand for the keys, what comes out is arranged by these, those with one key in their old order -/
namespace L2
open PySem PySem.Spec PySem.W PyProof.Rows

section
variable {n : Nat} {im : Nat → Keyed} {kz : Nat → Int} {ask : Nat → Nat → (Bool → Shared → Prop) → Shared → Prop} {s : Shared}
end
end L2

set_option Elab.async false
set_option linter.all false
set_option maxRecDepth 100000
set_option maxHeartbeats 4000000
/-! sorted(a list of ints), fewer than 64 -/
namespace L2
open PySem PySem.Spec PySem.Calls PySem.W PyProof.Rows
section
variable {X : Cx}
end
end L2

set_option Elab.async false
set_option linter.all false
set_option maxRecDepth 100000
set_option maxHeartbeats 4000000
/-! keys that are tuples of ints, all of one length: how two of them are compared, and ints that stand for their order -/
namespace L2
open PySem PySem.Spec PySem.Calls PySem.W PyProof.Rows
section
variable {prog : Program} {w : World} {A : Around} {E : Value → Shared → Prop} {s : Shared} {Q : Bool → Shared → Prop}
end
end L2

set_option Elab.async false
set_option linter.all false
set_option maxRecDepth 100000
set_option maxHeartbeats 4000000
/-! the sort by a key, fewer than 64 things, keys that are tuples of so many ints: free of any frame -/
namespace L2
open PySem PySem.Spec PySem.Calls PySem.W PyProof.Rows
/-- the keys as they lie -/
inductive TK (h : Heap) (d : Nat) : List Value → List (List Int) → Prop
  | nil : TK h d [] []
  | cons {x : Addr} {o : Obj} {us : List Value} {n : Nat} {xs : List Int} {ks : List Value} {kss : List (List Int)} (ho : h.get? x = some o) (hc : o.cls = .type "tuple") (hd : o.data = .seq us.toArray n) (hi : IntsAre us xs) (hl : xs.length = d) (t : TK h d ks kss) : TK h d (.ref x :: ks) (xs :: kss)
theorem intsAre_len {us : List Value} {xs : List Int} (h : IntsAre us xs) : us.length = xs.length := by
  induction h with
  | nil => rfl
  | cons _ _ _ ih => simp [ih]
section
variable {prog : Program} {w : World} {A : Around} {E : Value → Shared → Prop} {s : Shared} {a kS : Addr} {vs ks : List Value} {P : PySem.Fin → Shared → Prop}
theorem sk_tail {st : SortSt} {e e1 : Nat} {out : List Value} (hka : kS ≠ a) (hk : s.heap.get? kS = some (seqObj "list" ks.toArray e)) (ha : s.heap.get? a = some (seqObj "list" #[] e1)) (hout : (arrOf st).map (·.2) = List.toArray out) (hz : out.length < 64) (hkz : ks.length < 64) (hf : failedOf st = none)
    (h : P (.done (.ret .none)) { s with heap := (s.heap.update kS (Obj.mapSeq fun _ => (#[] : Array Value))).update a (Obj.mapSeq fun _ => out.toArray) }) : wpAny (model prog w) A (ksk_tail a false e1 (.ref kS) st) P E s := by
  have ha2 : (s.heap.update kS (Obj.mapSeq fun _ => (#[] : Array Value))).get? a = some (seqObj "list" #[] e1) := by
    rw [Heap.get?_update_ne _ _ _ _ (fun z => hka z.symm)]; exact ha
  unfold ksk_tail
  try dsimp only
  rw [hout]
  refine wpAny_bind (listUpdate_at hk rfl ?_ (by rw [List.size_toArray, sizeLine_eq]; omega) (Nat.zero_le _))
  refine wpAny_bind (wpAny_letGo ?_)
  refine wpAny_bind (seqEpoch_at ha2 rfl ?_)
  refine wpAny_bind (listUpdate_at ha2 rfl ?_ (Nat.zero_le _) (by simp only [Bool.false_eq_true, if_false]; rw [List.size_toArray, sizeLine_eq]; omega))
  rw [hf]
  simp only [bne_self_eq_false, Bool.false_eq_true, if_false]
  exact wpAny_pure h
end
end L2

set_option Elab.async false
set_option linter.all false
set_option maxRecDepth 100000
set_option maxHeartbeats 4000000
namespace L2
open PySem PySem.Spec PySem.Calls PySem.W PyProof.Rows
section
variable {prog : Program} {w : World} {A : Around} {E : Value → Shared → Prop} {s : Shared} {a kS : Addr} {vs ks : List Value} {P : PySem.Fin → Shared → Prop} {f : Value}
/-- J ks kss s: these keys are made, and lie -/
theorem sk_fold {α : Type} {J : List Value → List α → Shared → Prop} {body : Value → PUnit → Sem (ForInStep PUnit)}
    (hb : ∀ x ks kss (s : Shared), vs[ks.length]? = some x → J ks kss s → wpAny (model prog w) A (body x ⟨⟩) (fun r s' => r = .yield ⟨⟩ ∧ ∃ k xs, J (ks ++ [k]) (kss ++ [xs]) s') E s) : ∀ (r ks : List Value) (kss : List α) (s : Shared), vs = vs.take ks.length ++ r → ks.length ≤ vs.length →
      J ks kss s → wpAny (model prog w) A (forIn r PUnit.unit body) (fun _ s' => ∃ ks kss, ks.length = vs.length ∧ J ks kss s') E s
  | [], ks, kss, s, hv, hl, j => by
    rw [List.forIn_nil]
    refine wpAny_pure ⟨ks, kss, ?_, j⟩
    rw [List.append_nil] at hv
    have := congrArg List.length hv
    rw [List.length_take] at this
    omega
  | x :: r, ks, kss, s, hv, hl, j => by
    rw [List.forIn_cons]
    have hlen := congrArg List.length hv
    rw [List.length_append, List.length_take, List.length_cons] at hlen
    have hx : vs[ks.length]? = some x := by
      rw [hv, List.getElem?_append_right (by rw [List.length_take]; omega), List.length_take]
      have : ks.length - min ks.length vs.length = 0 := by omega
      rw [this]
      rfl
    refine wpAny_bind (wpAny_mono (hb x ks kss s hx j) (fun q s' hq => ?_) fun _ _ x => x)
    obtain ⟨rfl, k, xs, j'⟩ := hq
    show wpAny (model prog w) A (forIn r PUnit.unit body) _ E s'
    refine sk_fold hb r (ks ++ [k]) (kss ++ [xs]) s' ?_ (by rw [List.length_append, List.length_singleton]; omega) j'
    rw [List.length_append, List.length_singleton, List.take_add_one, hx]
    simpa using hv
/-- the heap at which the keys begin to be made -/
def skHeap (h : Heap) (a : Addr) (vs : List Value) : Heap := ((h.update a (Obj.mapSeq fun _ => (#[] : Array Value))).push (seqObj "tuple" vs.toArray 0)).push (seqObj "list" #[] 0)
end
end L2

set_option Elab.async false
set_option linter.all false
set_option maxRecDepth 100000
set_option maxHeartbeats 4000000
/-! sorted(l, key=f) in the layer: ints, keys that are new tuples of so many ints -/
namespace L2
open PySem PySem.Spec PySem.Calls PySem.W PyProof.Rows
section
variable {X : Cx} {pins : List (Addr × Obj)} {σ : St} {H : Hp} {s : Shared}
/-- a thing of ours, so far not tracked, is tracked from now on -/
theorem Inv.track {D : Addr} {o : HO} (I : Inv X pins σ H s) (hD : FpOk X pins H D) (new : ObjOk X.prog X.w (upd H D o) s.heap D o) : Inv X pins σ (upd H D o) s := by
  obtain ⟨hn, q2, q3, q4, q5, q6⟩ := hD
  refine I.call' (s' := s) (ch := [D]) rfl ⟨fun b u q _ _ _ => q, fun b u q _ _ _ => ⟨u.slots, q⟩, fun b u q n hx => ?_, fun b u q _ => ⟨u, q⟩, fun b xs q => ?_, fun b u xs q => ?_, fun b ps q => ⟨#[], ?_⟩⟩ (fun b u e => ?_) I.bare fun b hb => ?_
  · rw [upd_ne (fun z => hx (by simp [z]))]; exact n
  · rw [upd_ne (ne_of_none q hn)]; exact q
  · rw [upd_ne (ne_of_none q hn)]; exact q
  · rw [upd_ne (ne_of_none q hn), q]; simp
  · by_cases hb : b = D
    · subst hb; rw [upd_same] at e; cases e; exact new
    · rw [upd_ne hb] at e
      exact (I.hok b u e).stay (fun c v _ q => q) (fun c q => by rw [upd_ne (ne_of_none q hn)]; exact q) fun c xs q => by rw [upd_ne (ne_of_none q hn)]; exact q
  · obtain rfl : b = D := by simpa using hb
    exact ⟨q4, q2, q5, q6⟩
end
end L2

set_option Elab.async false
set_option linter.all false
set_option maxRecDepth 100000
set_option maxHeartbeats 4000000
/-! a built-in function called with keywords: the rule of its term; sorted(l, key=f) -/
namespace L2
open PySem PySem.Spec PySem.Calls PySem.W PyProof.Rows
def CallRK (X : Cx) (f : Value) (ks : List Str) (r : List V → List V → Hp → VK → Prop) : Prop :=
  ∀ (pins : List (Addr × Obj)) (s : Shared) (σ : St) (H : Hp) (xs zs : List V) (us ws : List Value) (Q : VK), Inv X pins σ H s → Vals xs us → Vals zs ws → r xs zs H Q →
    wpAny (model X.prog X.w) X.A (call f us (ks.zip ws)) (EP X pins σ Q) X.xe s
def tCBK (r : List V → List V → Hp → VK → Prop) (t tk : TA) : TE := fun σ H Q => t σ H fun vs H1 => tk σ H1 fun zs H2 => r vs zs H2 Q
section
variable {X : Cx} {x : Str} {p pos : Pos} {e : Expr} {es : List Expr} {kws : List Keyword} {t tk : TA} {id : String} {ks : List Str} {r : List V → List V → Hp → VK → Prop}
theorem pe_callBK (hc : CallRK X (.builtin id) ks r) (hg : Gl X x) (hm : X.mg x = none) (hv : bootBuiltins x = some (.builtin id)) (ha : PA X (e :: es) t) (hkw : PK X kws tk)
    (hall : (backToKw pos (keywordEach kws X.env)).all (·.1.isSome) = true := by rfl) (hks : (backToKw pos (keywordEach kws X.env)).filterMap (·.1) = ks := by rfl) (hn : x ≠ "__name__" := by decide) (hdb : (x == ("__debug__" : Str)) = false := by decide)
    (he : starEach (e :: es) X.env = (false, eval e X.env) :: starEach es X.env := by rfl)
    (hpl : (backTo pos (starEach (e :: es) X.env)).any (·.1) = false := by rfl) (hpk : (backToKw pos (keywordEach kws X.env)).any (·.1.isNone) = false := by rfl) : PE X (.Call (.Name x p) (e :: es) kws pos) (tCBK r t tk) := by
  intro pins s σ H Q I h
  refine wpAny_Call_Name_kw (ld_blt I hg hm hv ?_ hn hdb)
  refine callWith_builtin_kwB hpl hpk (evalArgs_kw2 hall (thn (ha pos pins s σ H _ I h) fun us s1 ⟨vs, H1, I1, r1, q⟩ => ?_) he)
  refine thn (hkw pos pins s1 σ H1 _ I1 q) fun ws s2 ⟨zs, H2, I2, rz, q2⟩ => ?_
  dsimp only [List.nil_append]
  rw [hks]
  exact hc pins s2 σ H2 vs zs us ws Q I2 r1 rz q2
end
end L2

set_option Elab.async false
set_option linter.all false
set_option maxRecDepth 100000
set_option maxHeartbeats 4000000
/-! the head for a law that makes functions: one code table is tracked from the start -/
namespace L2
open PySem PySem.Spec PySem.Calls PySem.W PyProof.Rows
/-- where the module's builtins stand -/
def BMain (mg : Str → Option Value) (h : Heap) : Prop := ∃ bm ob, mg "__builtins__" = some (.ref bm) ∧ bm ≠ builtinsNs ∧ h.get? bm = some ob ∧ ob.cls = .type "module" ∧ ob.dict = some builtinsNs ∧ ob.data = .plain
theorem BMain.kept {mg : Str → Option Value} {h h' : Heap} (b : BMain mg h) (k : ∀ b o, h.get? b = some o → h'.get? b = some o) : BMain mg h' :=
  let ⟨bm, ob, h1, h2, h3, r⟩ := b; ⟨bm, ob, h1, h2, k _ _ h3, r⟩
section
variable {P : Program} {w : World} {K : PySem.W.Frag} {mg mb : Str → Option Value} {CX : CXT} {k : Nat} {fa a c T : Addr} {fd : FuncData} {x : Str} {sp : Sp} {s₁ : Shared} {vs : List Value} {ns : List Int}
theorem law_callT (KX : K.In s₁.heap) (hns : s₁.heap.Ns mainGlobals mg) (hb : s₁.heap.Ns builtinsNs mb) (hbb : ∀ x : Str, x ≠ "__name__" → mb x = bootBuiltins x) (hlim : s₁.heap.NoLimit) (hg : s₁.gens = #[]) (hbm : BMain mg s₁.heap)
    (hT : s₁.heap.get? T = some (tabObj #[])) (hC : CodeHd s₁.heap c T) (hKT : K.lookup T = none)
    (ha : s₁.heap.get? a = some { cls := .type "list", data := .seq vs.toArray }) (hi : IntsAre vs ns) (hl : ns.length ≤ sizeLine) (hr : Room k callerA)
    (F : ∀ base : Heap, K.In base → base.Ns mainGlobals mg → BMain mg base → FnOk P w K mg base CX k fa fd [x] sp) (hbind : ∀ (s : Shared) (u : Value), BindsTo s fd ⟨[u], []⟩ [(x, u)])
    (hsp : ∀ H : Hp, H T = some (.tbl #[]) → SqL K H a (ns.map V.int) → sp [.ref a] H (fun v _ => v = .bl true) fun _ _ _ => False)
    (hCX : ∀ H e s', CX [] H s₁ (fun _ _ _ => False) e s' → False) :
    codeAny (model P w) callerA (.call (.ref fa) ⟨[.ref a], []⟩) (fun r s' => r = .ok (.ret (.bool true)) ∧ OldK s₁.heap s'.heap ∧ s'.os = s₁.os ∧ AllBare s'.gens) s₁ := by
  have rv := vals_ints hi
  have lenV := hi.length
  have hne : a ≠ T := fun z => by rw [z, hT] at ha; cases ha
  have core : ∀ H : Hp, H T = some (.tbl #[]) → (∀ b, b ≠ T → H b = none ∨ ∃ o xs, H b = some (.frz o (.lst xs))) → SqL K H a (ns.map V.int) → HOk P w H s₁.heap → (∀ b, H b ≠ none → b = a ∨ b = T) → (H a ≠ none → K.lookup a = none) →
      codeAny (model P w) callerA (.call (.ref fa) ⟨[.ref a], []⟩) (fun r s' => r = .ok (.ret (.bool true)) ∧ OldK s₁.heap s'.heap ∧ s'.os = s₁.os ∧ AllBare s'.gens) s₁ := by
    intro H hHT hO hS hok hA hK
    have base_of : ∀ {b : Addr} {o : Obj}, s₁.heap.get? b = some o → H b = none → (hidT s₁.heap H).get? b = some o := fun e n => hidT_get e n
    have apart : ∀ {b : Addr} {o : Obj}, s₁.heap.get? b = some o → o.cls ≠ .none → (∀ its n, o.data ≠ .seq its n) → H b = none := fun {b o} e d1 d2 => by
      cases q : H b with
      | none => rfl
      | some u =>
        rcases hA b (by rw [q]; simp) with z | z
        · subst z
          rw [ha] at e; cases e
          exact absurd rfl (d2 _ _)
        · subst z
          rw [hT] at e; cases e
          exact absurd rfl d1
    have noD : ∀ {b : Addr} {o : Obj} {es : Array DictEntry} {ep : Nat}, s₁.heap.get? b = some o → o.data = .dict es ep → H b = none := fun {b o es ep} e d => by
      cases q : H b with
      | none => rfl
      | some u =>
        rcases hA b (by rw [q]; simp) with z | z
        · subst z
          rw [ha] at e; cases e
          have d' : Data.seq vs.toArray _ = Data.dict es ep := d
          cases d'
        · subst z
          rw [hT] at e; cases e
          have d' : Data.fields #[] = Data.dict es ep := d
          cases d'
    have nsK : ∀ {b : Addr} {m : Str → Option Value}, s₁.heap.Ns b m → (hidT s₁.heap H).Ns b m := fun {b m} ⟨o, es, ep, e, d, r⟩ => ⟨o, es, ep, base_of e (noD e d), d, r⟩
    have hKb : K.In (hidT s₁.heap H) := fun b o e => base_of (KX b o e) (by
      cases q : H b with
      | none => rfl
      | some u =>
        rcases hA b (by rw [q]; simp) with z | z
        · subst z
          rw [hK (by rw [q]; simp)] at e; cases e
        · subst z
          rw [hKT] at e; cases e)
    have hBM : BMain mg (hidT s₁.heap H) := by
      obtain ⟨bm, ob, b1, b2, b3, b4, b5, b6⟩ := hbm
      exact ⟨bm, ob, b1, b2, base_of b3 (apart b3 (by rw [b4]; exact fun z => by cases z) (fun its n z => by rw [b6] at z; cases z)), b4, b5, b6⟩
    have hM : Mod K mg (hidT s₁.heap H) := ⟨hKb, nsK hns, ⟨mb, nsK hb, hbb⟩, let ⟨mc, h1, h2⟩ := hlim; ⟨mc, nsK h1, h2⟩⟩
    have e0 : Env0 P w K mg (hidT s₁.heap H) callerA [] s₁ H := ⟨rfl, hM, fun b o e => of_hidT e, Nat.le_of_eq (hidT_size _ _), trivial, fun b hb => absurd (show b ∈ ([] : List Addr) from hb) (by simp), hok, .of_eq hg⟩
    refine codeAny_mono ((F _ hKb (nsK hns) hBM).run callerA [] s₁ H ⟨[.ref a], []⟩ [.ref a] [.ref a] _ _ hr e0 (hbind s₁ (.ref a)) (.cons rfl .nil) (hsp H hHT hS)) fun r s' h => ?_
    cases r with
    | error e => exact (hCX H e s' h).elim
    | ok fl =>
      cases fl with
      | next => exact False.elim h
      | brk => exact False.elim h
      | cont => exact False.elim h
      | ret u =>
        obtain ⟨v, H', os, bare, un, hok', r', q⟩ := h
        have q' : v = .bl true := q
        subst q'
        obtain rfl : u = Value.bool true := r'
        have keep : ∀ b o, b ≠ T → s₁.heap.get? b = some o → s'.heap.get? b = some o := fun b o hb e => by
          cases q : H b with
          | none => exact un.keep b o e q (by intro z; exact absurd (show b ∈ ([] : List Addr) from z) (by simp)) (by simp)
          | some u =>
            rcases hO b hb with z | ⟨ob, xs, z⟩
            · rw [q] at z; cases z
            · have z2 := un.frzs b ob _ z
              obtain ⟨e1, _⟩ := hok b _ z
              obtain ⟨e2, _⟩ := hok' b _ z2
              rw [e] at e1; cases e1
              exact e2
        obtain ⟨more, hm⟩ := un.tbls T _ hHT
        have hT' : s'.heap.get? T = some { cls := .none, data := .fields (#[] ++ more) } := hok' T _ hm
        have isT : isCodeTable s₁.heap T := let ⟨o, cs, _, _, _, _, _, _, _, e1, e2, e3, e4, _⟩ := hC; ⟨c, o, cs, e1, e2, e3, e4⟩
        refine ⟨rfl, ⟨fun b o e => ?_, fun b o e => ?_⟩, os, bare⟩
        · by_cases hbT : b = T
          · subst hbT
            rw [hT] at e; cases e
            exact .inr (.inl ⟨isT, rfl, #[], more, rfl, hT'⟩)
          · exact .inl (keep b o hbT e)
        · by_cases hbT : b = T
          · subst hbT
            exact ⟨_, hT'⟩
          · exact ⟨o, keep b o hbT e⟩
  cases hk : K.lookup a with
  | some o =>
    have e := KX a o hk
    rw [ha] at e
    cases e
    refine core (fun b => if b = T then some (.tbl #[]) else none) (if_pos rfl) (fun b hb => .inl (if_neg hb)) (.inr ⟨_, vs.toArray, _, hk, rfl, rfl, rfl, by rw [List.size_toArray, lenV]; exact hl, by simpa using rv⟩) (fun b u z => ?_) (fun b z => ?_) fun z => absurd (if_neg hne) z
    · by_cases hb : b = T
      · have z' := (if_pos hb).symm.trans z
        cases z'
        subst hb
        exact hT
      · have z' := (if_neg hb).symm.trans z
        cases z'
    · by_cases hb : b = T
      · exact .inr hb
      · exact absurd (if_neg hb) z
  | none =>
    refine core (fun b => if b = T then some (.tbl #[]) else if b = a then some (.frz { cls := .type "list", data := .seq vs.toArray } (.lst (ns.map V.int))) else none) (if_pos rfl) (fun b hb => ?_) (.inl (.inr ⟨{ cls := .type "list", data := .seq vs.toArray }, (if_neg hne).trans (if_pos rfl)⟩)) (fun b u z => ?_) (fun b z => ?_) fun _ => hk
    · by_cases hba : b = a
      · exact .inr ⟨_, _, (if_neg hb).trans (if_pos hba)⟩
      · exact .inl ((if_neg hb).trans (if_neg hba))
    · by_cases hb : b = T
      · have z' := (if_pos hb).symm.trans z
        cases z'
        subst hb
        exact hT
      · have z' := (if_neg hb).symm.trans z
        by_cases hba : b = a
        · have z2 := (if_pos hba).symm.trans z'
          cases z2
          subst hba
          exact ⟨ha, by rw [List.length_map]; exact hl, vs, _, rv, ha⟩
        · have z2 := (if_neg hba).symm.trans z'
          cases z2
    · by_cases hb : b = T
      · exact .inr hb
      · by_cases hba : b = a
        · exact .inl hba
        · exact absurd ((if_neg hb).trans (if_neg hba)) z
end
theorem walk_ofT {l : PySem.W.OpenLaw} {n k : Nat} {q : Program} {loose : List Str} {XP : (Str → Option Value) → Heap → Prop} {YP : World → Heap → Prop} {d : DefRec} {K : Params → PySem.W.Frag} {CX : World → CXT} {sp : World → Sp} {x : Str} {c T : Addr}
    (hn : l.most = some n) (hn2 : n ≤ sizeLine) (hdf : d.params.defaults = []) (hr : Room k callerA)
    (hY : ∀ (w : World) (h : Heap), YP w h → (K w.params).In h ∧ h.get? T = some (tabObj #[])) (hcT : ∀ p, codeHdIn (K p) c T = true) (hKT : ∀ p, (K p).lookup T = none)
    (F : ∀ (w : World) (mg : Str → Option Value) (fa : Addr) (h : Heap), (K w.params).In h → h.Ns mainGlobals mg → mg d.name = some (.ref fa) →
      ∃ fd : FuncData, (∀ (s : Shared) (u : Value), BindsTo s fd ⟨[u], []⟩ [(x, u)]) ∧
        ∀ base : Heap, (K w.params).In base → base.Ns mainGlobals mg → BMain mg base → FnOk l.prog w (K w.params) mg base (CX w) k fa fd [x] (sp w))
    (hsp : ∀ (w : World) (H : Hp) (a : Addr) (ns : List Int), ns.length ≤ n → H T = some (.tbl #[]) → SqL (K w.params) H a (ns.map V.int) → sp w [.ref a] H (fun v _ => v = .bl true) fun _ _ _ => False)
    (hCX : ∀ (w : World) (H : Hp) (s : Shared) (e : Value) (s' : Shared), CX w [] H s (fun _ _ _ => False) e s' → False) :
    PySem.W.WalkO q loose XP YP l.row.toRowW d [] (fun f vs => PySem.call f vs) := by
  refine Att.attach_call hn hdf fun w s₀ s₁ mg mb fa o pm cd doc a vs ns G Y ho hd hcd hmg hobj hints hlen hg => ?_
  obtain ⟨KX, hT⟩ := hY w _ Y
  obtain ⟨fd, hb, hF⟩ := F w mg fa _ KX G.T.g hmg
  exact law_callT KX G.T.g G.T.b G.T.builtins G.T.nolimit hg G.T.bmain hT (codeHd_of_K KX (hcT _)) (hKT _) hobj hints (Nat.le_trans hlen hn2) hr hF hb (fun H hO hS => hsp w H a ns hlen hO hS) fun H e s' => hCX w H s₁ e s'
end L2

set_option Elab.async false
set_option linter.all false
set_option maxRecDepth 100000
set_option maxHeartbeats 4000000
/-! the sort by a key that is an int, fewer than 64 things, those with one key in their old order: free of any frame -/
namespace L2
open PySem PySem.Spec PySem.Calls PySem.W PyProof.Rows
/-- the places, arranged by their ints, stable -/
def Stb (kz : List Int) (n : Nat) (il : List Nat) : Prop := il.Perm (List.range n) ∧ il.Pairwise fun i j => kz.getD i 0 < kz.getD j 0 ∨ (kz.getD i 0 = kz.getD j 0 ∧ i < j)
section
variable {prog : Program} {w : World} {A : Around} {E : Value → Shared → Prop} {s : Shared} {a kS : Addr} {vs ks : List Value} {P : PySem.Fin → Shared → Prop} {f : Value}
theorem si_end {kz : List Int} {e e1 : Nat} (hka : kS ≠ a) (hk : s.heap.get? kS = some (seqObj "list" ks.toArray e)) (ha : s.heap.get? a = some (seqObj "list" #[] e1)) (hl : ks.length = vs.length) (h64 : vs.length < 64) (t : IntsAre ks kz)
    (h : ∀ il, Stb kz vs.length il → P (.done (.ret .none)) { s with heap := (s.heap.update kS (Obj.mapSeq fun _ => (#[] : Array Value))).update a (Obj.mapSeq fun _ => (il.map fun i => vs.getD i Value.none).toArray) }) :
    wpAny (model prog w) A (ksk_end a false vs.toArray e1 (.ref kS) ks.toArray) P E s := by
  have hkl : ks.length = kz.length := intsAre_len t
  have tt : IntsAre ks.toArray.toList kz := t
  unfold ksk_end
  try dsimp only
  simp only [Bool.false_eq_true, if_false]
  by_cases h2 : vs.toArray.size < 2
  · rw [if_pos h2, if_pos h2]
    refine wpAny_bind (wpAny_pure ?_)
    have hv2 : vs.length < 2 := by simpa using h2
    refine wpAny_bind (wpAny_pure ?_)
    refine sk_tail (out := vs) hka hk ha ?_ h64 (by omega) rfl ?_
    · show (ks.toArray.zip vs.toArray).map (·.2) = vs.toArray
      apply Array.toList_inj.mp
      simp
      rw [List.map_snd_zip (by omega)]
    · have := h (List.range vs.length) ⟨.refl _, by
        match vs, hv2 with
        | [], _ => exact .nil
        | [v], _ => exact List.pairwise_singleton _ _⟩
      have e : ((List.range vs.length).map fun i => vs.getD i Value.none) = vs := by
        match vs, hv2 with
        | [], _ => rfl
        | [v], _ => rfl
      rw [e] at this
      exact this
  · rw [if_neg h2, if_neg h2]
    have hv2 : 2 ≤ vs.length := by simpa using h2
    have hz : (ks.toArray.zip vs.toArray).size = vs.length := by rw [Array.size_zip, List.size_toArray, List.size_toArray, hl, Nat.min_self]
    rw [ksk_kind tt (by rw [List.size_toArray]; omega)]
    refine wpAny_bind (wpAny_pure ?_)
    refine wpAny_bind (wpAny_mono (st_sort (a₀ := ks.toArray.zip vs.toArray) (st := SortSt.mk' oneType' (ks.toArray.zip vs.toArray) #[] 7 none) (Q := fun _ st' => (arrOf st').size = (ks.toArray.zip vs.toArray).size ∧ failedOf st' = none ∧ Up (ks.toArray.zip vs.toArray) (arrOf st') (ks.toArray.zip vs.toArray).size)
      (ksk_intKeys tt) ⟨Array.Perm.refl _, rfl, rfl, rfl⟩ rfl (by rw [hz]; exact hv2) (by rw [hz]; exact h64) fun st' p1 p2 p3 => ⟨p1.size_eq, p2, p3⟩) ?_ fun _ _ x => x)
    rintro ⟨⟨⟩, st'⟩ s' hq
    obtain ⟨rfl, q1, q2, q3⟩ := hq
    obtain ⟨il, p1, p2, p3⟩ := st_out tt (by omega) q1 q3
    have e3 : (arrOf st').map (·.2) = List.toArray (il.map fun i => vs.getD i .none) := by
      rw [← p3]
    refine sk_tail hka hk ha e3 ?_ (by omega) q2 (h il ⟨p1, p2⟩)
    rw [List.length_map]
    have := p1.length_eq
    rw [List.length_range] at this
    omega
theorem si_rest {J : List Value → List Int → Shared → Prop} {e1 : Nat} (hka : kS ≠ a) (h64 : vs.length < 64)
    (hJ : ∀ ks kz s, J ks kz s → (∃ e, s.heap.get? kS = some (seqObj "list" ks.toArray e)) ∧ s.heap.get? a = some (seqObj "list" #[] e1) ∧ IntsAre ks kz)
    (step : ∀ x ks kz (s : Shared), vs[ks.length]? = some x → J ks kz s → wpAny (model prog w) A (call f [x]) (fun k s' => (∃ e, s'.heap.get? kS = some (seqObj "list" ks.toArray e)) ∧ ∃ z, J (ks ++ [k]) (kz ++ [z]) { s' with heap := s'.heap.update kS (Obj.mapSeq (·.push k)) }) (fun _ _ => False) s)
    (fin : ∀ ks kz (s : Shared), ks.length = vs.length → J ks kz s → ∀ il, Stb kz vs.length il →
      P (.done (.ret .none)) { s with heap := (s.heap.update kS (Obj.mapSeq fun _ => (#[] : Array Value))).update a (Obj.mapSeq fun _ => (il.map fun i => vs.getD i Value.none).toArray) })
    (j : J [] [] s) : wpAny (model prog w) A (ksk_rest a f false vs.toArray e1 (.ref kS)) P E s := by
  unfold ksk_rest
  refine wpAny_bind (wpAny_rule ?_)
  first
    | rw [List.forIn_toArray]
    | (rw [← Array.forIn_toList]; simp only [List.toList_toArray])
    | rw [← Array.forIn_toList]
  refine wpAny_bind (wpAny_mono (sk_fold (vs := vs) (J := J) (fun x ks kz s' hx j' => ?_) vs [] [] s (by simp) (Nat.zero_le _) j) (fun _ s' hd' => ?_) fun _ _ x => x)
  · refine wpAny_bind (wpAny_attempt (wpAny_mono (step x ks kz s' hx j') (fun k s'' hk => ?_) fun _ _ hF => hF.elim))
    obtain ⟨⟨e, he⟩, xs, j2⟩ := hk
    have hz : ks.length < vs.length := (List.getElem?_eq_some_iff.mp hx).1
    try dsimp only
    refine wpAny_bind (listUpdate_at he rfl ?_ (by rw [List.size_toArray, sizeLine_eq]; omega) (Nat.le_trans (Nat.le_of_eq (Array.size_push ..)) (by rw [List.size_toArray, sizeLine_eq]; omega)))
    exact wpAny_pure ⟨rfl, k, xs, j2⟩
  · obtain ⟨ks, kz, hl, j'⟩ := hd'
    obtain ⟨⟨e, he⟩, h1, h2⟩ := hJ _ _ _ j'
    try dsimp only
    refine wpAny_bind (listItems_at he rfl ?_)
    exact si_end hka he h1 hl h64 h2 (fin ks kz s' hl j')
theorem si_tree {J : Nat → List Value → List Int → Shared → Prop} {n : Nat} (ho : s.heap.get? a = some (seqObj "list" vs.toArray n)) (h64 : vs.length < 64)
    (hJ : ∀ e1 ks kz s', J e1 ks kz s' → (∃ e, s'.heap.get? (s.heap.objs.size + 1) = some (seqObj "list" ks.toArray e)) ∧ s'.heap.get? a = some (seqObj "list" #[] e1) ∧ IntsAre ks kz)
    (step : ∀ e1 x ks kz (s' : Shared), vs[ks.length]? = some x → J e1 ks kz s' → wpAny (model prog w) A (call f [x]) (fun k s2 => (∃ e, s2.heap.get? (s.heap.objs.size + 1) = some (seqObj "list" ks.toArray e)) ∧ ∃ z, J e1 (ks ++ [k]) (kz ++ [z]) { s2 with heap := s2.heap.update (s.heap.objs.size + 1) (Obj.mapSeq (·.push k)) }) (fun _ _ => False) s')
    (fin : ∀ e1 ks kz (s' : Shared), ks.length = vs.length → J e1 ks kz s' → ∀ il, Stb kz vs.length il →
      P (.done (.ret .none)) { s' with heap := (s'.heap.update (s.heap.objs.size + 1) (Obj.mapSeq fun _ => (#[] : Array Value))).update a (Obj.mapSeq fun _ => (il.map fun i => vs.getD i Value.none).toArray) })
    (j : ∀ e1, (skHeap s.heap a vs).get? a = some (seqObj "list" #[] e1) → J e1 [] [] { s with heap := skHeap s.heap a vs }) : wpAny (model prog w) A (ksk_tree a f false) P E s := by
  have ha : a < s.heap.objs.size := Heap.lt_size ho
  obtain ⟨e1, ho1⟩ : ∃ e1, (s.heap.update a (Obj.mapSeq fun _ => (#[] : Array Value))).get? a = some (seqObj "list" #[] e1) := ⟨_, get?_update_seq ho fun _ => #[]⟩
  have hkS : ((s.heap.update a (Obj.mapSeq fun _ => (#[] : Array Value))).push (seqObj "tuple" vs.toArray 0)).objs.size = s.heap.objs.size + 1 := by rw [size_push', Heap.size_update]
  unfold ksk_tree
  refine wpAny_bind (listItems_at ho rfl ?_)
  refine wpAny_bind (listUpdate_at ho rfl ?_ (by rw [List.size_toArray, sizeLine_eq]; omega) (Nat.zero_le _))
  refine wpAny_bind (seqEpoch_at ho1 rfl ?_)
  refine wpAny_bind (wpAny_newTuple ?_ (by show vs.length ≤ _; rw [sizeLine_eq]; omega))
  refine wpAny_bind (wpAny_newList ?_ (Nat.zero_le _))
  refine wpAny_holding ?_
  show wpAny (model prog w) A (ksk_rest a f false vs.toArray e1 (.ref ((s.heap.update a (Obj.mapSeq fun _ => (#[] : Array Value))).push (seqObj "tuple" vs.toArray 0)).objs.size)) P E { s with heap := skHeap s.heap a vs }
  rw [hkS]
  exact si_rest (J := J e1) (Nat.ne_of_gt (Nat.lt_succ_of_lt ha)) h64 (hJ e1) (step e1) (fin e1) (j e1 (Heap.get?_push_of_some _ (Heap.get?_push_of_some _ ho1)))
end
end L2

set_option Elab.async false
set_option linter.all false
set_option maxRecDepth 100000
set_option maxHeartbeats 4000000
/-! a lambda of one parameter that reads one name of the def around it: how it is made, how it runs -/
namespace L2
open PySem PySem.Spec PySem.Calls PySem.W PyProof.Rows
def cxLam (CX : CXT) (P : Program) (w : World) (K : PySem.W.Frag) (mg : Str → Option Value) (base : Heap) (N : List Str) (qual : Str) (scope : Scope) (g : Addr) (cd : Value) (cl : List (Str × Addr)) (A : Around) (outer : List Env) (s : Shared) (H : Hp) (E : XK) : Cx where
  prog := P
  w := w
  K := K
  mg := mg
  base := base
  A := A.deeper (envX qual scope s.heap.objs.size g cd cl)
  N := N
  s₀ := s
  H₀ := H
  env := envX qual scope s.heap.objs.size g cd cl
  outer := outer
  stack := envX qual scope s.heap.objs.size g cd cl :: outer
  ex := []
  calm := true
  fn := fun _ => false
  pn := []
  xe := fun e s' => wpAny (model P w) (A.deeper (envX qual scope s.heap.objs.size g cd cl)) (leaving (envX qual scope s.heap.objs.size g cd cl) e) (fun _ s'' => CX outer H s E e s'') (fun e' s'' => CX outer H s E e' s'') s'
/-- the lambda's scope: its parameter x, the name y of the def around it -/
structure LamSc (x y : Str) (sc : Scope) : Prop where
  kind : sc.kind = .function
  co : sc.isCoroutine = false
  gen : sc.isGenerator = false
  px : sc.names.lookup x = some .local
  fy : sc.names.lookup y = some .free
  nocell : ∀ z ∈ sc.names, z.2 ≠ .cell
  free : ∀ z, sc.names.lookup z = some .free → z = y
  ne : y ≠ x
section
variable {CX : CXT} {P : Program} {w : World} {K : PySem.W.Frag} {mg : Str → Option Value} {base : Heap} {A : Around} {outer : List Env} {s : Shared} {H : Hp} {E : XK} {name qual : Str} {params : Arguments} {body : Expr} {scope : Scope} {pm ctv : Value} {c' g cF : Addr} {x y : Str} {k : Nat} {u uS : Value} {v vS : V} {Q : VK} {t : TE}
theorem lam_run (S : LamSc x y scope) (hr : Room (k + 1) A) (e0 : Env0 P w K mg base A outer s H) (ho : s.heap.get? g = some (kla_obj name qual params body scope [(y, cF)] pm c' ctv)) (hcd : s.heap.CodeRec (.ref c') qual)
    (hb : bindArgs (kla_fn name qual params body scope [(y, cF)] pm (.ref c') ctv) ⟨[u], []⟩ = pure [(x, u)]) (hcell : s.heap.IsCell cF (some uS)) (hcF : H cF = none) (rv : RelV v u) (rS : RelV vS uS)
    (hpe : PE (cxLam CX P w K mg base [x, y] qual scope g (.ref c') [(y, cF)] A outer s H E) body t) (ht : t [some v, some vS] H Q) :
    codeAny (model P w) A (.call (.ref g) ⟨[u], []⟩) (CR CX outer P w H s Q E) s := by
  have lim : s.heap.NoLimit := e0.mod.nolimit.keeps fun b o e => (e0.bs b o e).1
  refine kla_callFunE hr.depth ho rfl S.co S.gen rfl hcd ?_
  rw [hb]
  refine wpAny_pure (wpAny_newFunctionEnv S.nocell (fun z hz => ?_) (fun h₁ hns hsb => ⟨lim.fresh _ hsb, ?_⟩) S.kind)
  · obtain rfl := List.mem_singleton.mp hz
    exact S.px
  show codeAny _ _ (.expr body (envX qual scope s.heap.objs.size g (.ref c') [(y, cF)])) _ _
  have hk : ∀ b o, s.heap.get? b = some o → h₁.get? b = some o := fun b o e => hsb.extBut b o (Nat.ne_of_lt (Heap.lt_size e)) (Heap.get?_push_of_some _ e)
  have one : ∀ z c, ([(y, cF)] : List (Str × Addr)).lookup z = some c → z = y ∧ c = cF := fun z c e => by
    rw [List.lookup_cons] at e
    by_cases q : (z == y) = true
    · rw [q] at e
      exact ⟨by simpa using q, (Option.some.inj e).symm⟩
    · rw [Bool.not_eq_true] at q
      rw [q] at e
      cases e
  have oneY : ([(y, cF)] : List (Str × Addr)).lookup y = some cF := by rw [List.lookup_cons, beq_self_eq_true]
  have noA : ∀ b : Addr, b ∉ (cxLam CX P w K mg base [x, y] qual scope g (.ref c') [(y, cF)] A outer s H E).ex := fun b z => absurd (show b ∈ ([] : List Addr) from z) (by simp)
  have I : Inv (cxLam CX P w K mg base [x, y] qual scope g (.ref c') [(y, cF)] A outer s H E) [] [some v, some vS] H { s with heap := h₁, toks := s.toks + 1 } := by
    refine ⟨⟨e0.mod, S.kind, rfl, rfl, Nat.le_refl _, fun a b c h1 h2 => (one a c h1).1.trans (one b c h2).1.symm, fun z hz => ?_, fun z c hz => (by cases hz), fun _ => hr.hd, Around.frames_deeper e0.frames, .inr ⟨rfl, rfl⟩, fun b z => absurd z (noA b), e0.bs, e0.bsz, fun b _ _ => noA b, fun b z => absurd z (noA b), e0.funs, e0.frf⟩,
      rfl, e0.bare, Un.kept hk, ⟨_, hns, fun i z a h1 h2 h3 => ?_⟩, fun z c h => ?_, e0.hok.fresh (Nat.le_refl _), fun z c h => ?_, fun p hp => absurd (show p ∈ ([] : List (Addr × Obj)) from hp) (by simp), e0.hok.kept hk, rfl⟩
    · rcases hz with hz | hz
      · exact absurd rfl (S.nocell _ (PySem.mem_of_lookup hz))
      · rw [S.free z hz]
        exact ⟨cF, oneY⟩
    · match i, h1, h2 with
      | 0, h1, h2 =>
        obtain rfl : x = z := Option.some.inj h1
        obtain rfl : v = a := Option.some.inj (Option.some.inj h2)
        refine ⟨u, rv, .inl ⟨S.px, ?_⟩⟩
        show List.lookup x [(x, u)] = some u
        rw [List.lookup_cons, beq_self_eq_true]
      | 1, h1, h2 =>
        obtain rfl : y = z := Option.some.inj h1
        obtain rfl : vS = a := Option.some.inj (Option.some.inj h2)
        exact ⟨uS, rS, .inr ⟨.inr S.fy, cF, oneY, let ⟨o, h1, h2⟩ := hcell; ⟨o, hk _ _ h1, h2⟩⟩⟩
      | n + 2, h1, _ => cases h1
    · obtain ⟨rfl, rfl⟩ := one z c h
      exact ⟨_, let ⟨o, h1, h2⟩ := hcell; ⟨o, hk _ _ h1, h2⟩⟩
    · obtain ⟨rfl, rfl⟩ := one z c h
      exact hcF
  refine kla_codeExpr (wpAny_mono (hpe [] _ [some v, some vS] H _ I ht) (fun r s' hs => ?_) fun _ _ h => h)
  obtain ⟨v', H', J, rv', q⟩ := hs
  exact ⟨v', H', J.os, J.bare, J.base, J.hok, rv', q⟩
end
/-- what is known of the lambda's code and of the lambda: two things of one object each -/
def CodeO (q : Str) (c' : Addr) : HO := .ext fun h => h.CodeRec (.ref c') q
def LamO (g : Addr) (ob : Obj) : HO := .ext fun h => h.get? g = some ob
def tabL (pos : Pos) (c' : Addr) : Array Value := #[rawInt pos.line, rawInt pos.col, .ref c']
def TabAt (T : Addr) (pos : Pos) (q : Str) (c' : Addr) (H : Hp) : Prop := H T = some (.tbl (tabL pos c')) ∧ H c' = some (CodeO q c')
/-- the table is as at the beginning, or bears the one code -/
def TabOk (T : Addr) (pos : Pos) (q : Str) (H : Hp) : Prop := H T = some (.tbl #[]) ∨ ∃ c', TabAt T pos q c' H
/-- all is kept but the table -/
def KeepT (T : Addr) (H H' : Hp) : Prop := ∀ b o, b ≠ T → H b = some o → H' b = some o
theorem codeO_ok {P : Program} {w : World} {H : Hp} {h : Heap} {c' : Addr} {q : Str} (r : h.CodeRec (.ref c') q) : ObjOk P w H h c' (CodeO q c') := by
  obtain ⟨c, oc, vs, t, e, ho, hd, hv⟩ := id r
  cases e
  refine ⟨r, ⟨oc, ho⟩, fun h1 h2 ⟨c, o1, v1, t1, e1, f1, f2, f3⟩ k => ?_⟩
  cases e1
  exact ⟨c', o1, v1, t1, rfl, k _ f1, f2, f3⟩
theorem lamO_ok {P : Program} {w : World} {H : Hp} {h : Heap} {g : Addr} {ob : Obj} (e : h.get? g = some ob) : ObjOk P w H h g (LamO g ob) :=
  ⟨e, ⟨ob, e⟩, fun h1 h2 q k => k _ q⟩
def tLam (T : Addr) (pos : Pos) (q : Str) (ob : Addr → Value → Obj) : TE := fun _ H Q => TabOk T pos q H ∧ ∀ (g c' : Addr) (ctv : Value) (H' : Hp), KeepT T H H' → TabAt T pos q c' H' → H g = none → H' g = some (LamO g (ob c' ctv)) → Q (.ref g) H'
section
variable {X : Cx} {params : Arguments} {body : Expr} {scope : Scope} {pos : Pos} {c T : Addr} {clos : List (Str × Addr)}
theorem pe_lam (hB : BMain X.mg X.base) (hcd : X.env.code = .ref c) (hC : codeHdIn X.K c T = true) (hdef : defaultsOf params X.env = ([], [])) (hcl : closureFor scope X.env = pure clos) :
    PE X (.Lambda params body scope pos) (tLam T pos (X.env.qual ++ "<lambda>") fun c' ctv => kla_obj "<lambda>" (X.env.qual ++ "<lambda>") params body scope clos ((X.mg "__name__").getD .none) c' ctv) := by
  intro pins s σ H Q I ⟨tab, h⟩
  refine kla_eval hdef ?_
  have hg : s.heap.Ns mainGlobals X.mg := I.mod.glob.keeps I.bk
  have CH : CodeHd s.heap c T := codeHd_of_K I.kIn hC
  obtain ⟨bm, ob, b1, b2, b3, b4, b5, b6⟩ := hB.kept I.bk
  have bat : ∀ ps, s.heap.get? T = some (tabObj ps) → mainGlobals ≠ T ∧ s.heap.BuiltinsAt X.mg T := fun ps hP => by
    refine ⟨fun q => ?_, bm, ob, b1, b2, fun q => ?_, fun q => ?_, b3, b4, b5, b6⟩
    · obtain ⟨o, es, ep, e, hd, _⟩ := hg
      rw [q, hP] at e; cases e; cases hd
    · obtain ⟨o, es, ep, e, hd, _⟩ := hg
      rw [q, e] at b3; cases b3; rw [hd] at b6; cases b6
    · rw [q, hP] at b3; cases b3; cases b4
  rcases tab with hT | ⟨c', hT, hc'⟩
  · have gT : s.heap.get? T = some (tabObj #[]) := I.hok T _ hT
    obtain ⟨hgT, hbT⟩ := bat _ gT
    refine kla_makeFunction (mg := X.mg) hcl I.ok.glob hg hcd CH gT trivial rfl hgT hbT fun c' ctv h' tk hx hge hlt hrec htb => ?_
    have htb' : h'.get? T = some (tabObj (tabL pos c')) := by
      rw [htb]
      rfl
    have hTs : T < s.heap.objs.size := Heap.lt_size gT
    have hcs : H c' = none := I.hok.fresh hge
    have hgs : H h'.objs.size = none := I.hok.fresh (Nat.le_of_lt (Nat.lt_of_le_of_lt hge hlt))
    have d1 : c' ≠ T := fun z => absurd hge (by rw [z]; exact Nat.not_le_of_lt hTs)
    have d2 : h'.objs.size ≠ T := fun z => by rw [z] at hlt; exact absurd hge (Nat.not_le_of_lt (Nat.lt_trans hlt hTs))
    have d3 : h'.objs.size ≠ c' := Nat.ne_of_gt hlt
    have low : ∀ b o, s.heap.get? b = some o → b ≠ c' ∧ b ≠ h'.objs.size := fun b o e =>
      ⟨Nat.ne_of_lt (Nat.lt_of_lt_of_le (Heap.lt_size e) hge), Nat.ne_of_lt (Nat.lt_trans (Nat.lt_of_lt_of_le (Heap.lt_size e) hge) hlt)⟩
    have at_ : ∀ b, b ≠ T → b ≠ c' → b ≠ h'.objs.size → upd (upd (upd H T (.tbl (tabL pos c'))) c' (CodeO (X.env.qual ++ "<lambda>") c')) h'.objs.size (LamO h'.objs.size (kla_obj "<lambda>" (X.env.qual ++ "<lambda>") params body scope clos ((X.mg "__name__").getD .none) c' ctv)) b = H b := fun b e1 e2 e3 => by
      rw [upd_ne e3, upd_ne e2, upd_ne e1]
    have kp : ∀ b o, b ≠ T → s.heap.get? b = some o → (h'.push (kla_obj "<lambda>" (X.env.qual ++ "<lambda>") params body scope clos ((X.mg "__name__").getD .none) c' ctv)).get? b = some o := fun b o e1 e => Heap.get?_push_of_some _ (hx b o e1 e)
    have old : ∀ b o, b ≠ T → H b = some o → upd (upd (upd H T (.tbl (tabL pos c'))) c' (CodeO (X.env.qual ++ "<lambda>") c')) h'.objs.size (LamO h'.objs.size (kla_obj "<lambda>" (X.env.qual ++ "<lambda>") params body scope clos ((X.mg "__name__").getD .none) c' ctv)) b = some o := fun b o e1 e => by
      rw [at_ b e1 (ne_of_none e hcs) (ne_of_none e hgs)]; exact e
    have tT : upd (upd (upd H T (.tbl (tabL pos c'))) c' (CodeO (X.env.qual ++ "<lambda>") c')) h'.objs.size (LamO h'.objs.size (kla_obj "<lambda>" (X.env.qual ++ "<lambda>") params body scope clos ((X.mg "__name__").getD .none) c' ctv)) T = some (.tbl (tabL pos c')) := by
      rw [upd_ne d2.symm, upd_ne d1.symm, upd_same]
    have notT : ∀ b o, H b = some o → (∀ ps, o ≠ .tbl ps) → b ≠ T := fun b o e n z => by
      rw [z, hT] at e; cases e; exact n _ rfl
    refine ⟨.ref h'.objs.size, _, I.call' (s' := { s with heap := h'.push (kla_obj "<lambda>" (X.env.qual ++ "<lambda>") params body scope clos ((X.mg "__name__").getD .none) c' ctv), toks := tk }) (ch := []) rfl ⟨fun b o e n _ _ => kp b o (fun z => by rw [z, hT] at n; cases n) e, fun b o e n _ _ => ⟨o.slots, kp b o (fun z => by rw [z, hT] at n; cases n) e⟩, fun b o e n _ => ?_, fun b o e _ => ?_, fun b xs e => old b _ (notT b _ e fun ps z => by cases z) e, fun b o u e => old b _ (notT b _ e fun ps z => by cases z) e, fun b ps e => ?_⟩ (fun b u e => ?_) I.bare (fun b z => absurd z (by simp)), rfl, h _ c' ctv _ old ⟨tT, ?_⟩ hgs upd_same⟩
    · obtain ⟨l1, l2⟩ := low b o e
      rw [at_ b (fun z => by rw [z, hT] at n; cases n) l1 l2]; exact n
    · by_cases hb : b = T
      · rw [hb]; exact ⟨_, Heap.get?_push_of_some _ htb'⟩
      · exact ⟨o, kp b o hb e⟩
    · by_cases hb : b = T
      · subst hb
        rw [hT] at e; cases e
        exact ⟨tabL pos c', by rw [tT]; simp⟩
      · exact ⟨#[], by rw [old b _ hb e]; simp⟩
    · by_cases hbg : b = h'.objs.size
      · subst hbg
        rw [upd_same] at e; cases e
        exact lamO_ok (Heap.get?_push_size _ rfl)
      · rw [upd_ne hbg] at e
        by_cases hbc : b = c'
        · subst hbc
          rw [upd_same] at e; cases e
          obtain ⟨c2, oc, vs, t, f1, f2, f3, f4⟩ := hrec
          exact codeO_ok ⟨c2, oc, vs, t, f1, Heap.get?_push_of_some _ f2, f3, f4⟩
        · rw [upd_ne hbc] at e
          by_cases hbT : b = T
          · subst hbT
            rw [upd_same] at e; cases e
            exact Heap.get?_push_of_some _ htb'
          · rw [upd_ne hbT] at e
            refine (I.hok b u e).stay (fun c2 v hc q => kp c2 v ?_ q) (fun c2 q => old c2 _ (notT c2 _ q fun ps z => by cases z) q) fun c2 xs q => old c2 _ (notT c2 _ q fun ps z => by cases z) q
            rcases hc with rfl | hc
            · exact hbT
            · exact notT c2 _ hc fun ps z => by cases z
    · rw [upd_ne d3.symm, upd_same]
  · have gT : s.heap.get? T = some (tabObj (tabL pos c')) := I.hok T _ hT
    obtain ⟨hgT, hbT⟩ := bat _ gT
    refine kla_makeFunctionHit (mg := X.mg) (cv := .ref c') hcl I.ok.glob hg hcd CH gT trivial ?_ hbT fun ctv h' tk hk hsz => ?_
    · show codeAmong pos [rawInt pos.line, rawInt pos.col, .ref c'] = some (.ref c')
      simp [codeAmong, rawInt]
    have hgs : H h'.objs.size = none := I.hok.fresh hsz
    have old : ∀ b o, H b = some o → upd H h'.objs.size (LamO h'.objs.size (kla_obj "<lambda>" (X.env.qual ++ "<lambda>") params body scope clos ((X.mg "__name__").getD .none) c' ctv)) b = some o := fun b o e => by
      rw [upd_ne (ne_of_none e hgs)]; exact e
    exact ⟨.ref h'.objs.size, _, I.laid (a := h'.objs.size) (o := LamO h'.objs.size (kla_obj "<lambda>" (X.env.qual ++ "<lambda>") params body scope clos ((X.mg "__name__").getD .none) c' ctv)) (t' := tk) (fun b u q => Heap.get?_push_of_some _ (hk b u q)) hsz (lamO_ok (Heap.get?_push_size _ rfl)), rfl, h _ c' ctv _ (fun b o _ e => old b o e) ⟨old _ _ hT, old _ _ hc'⟩ hgs upd_same⟩
end
end L2

set_option Elab.async false
set_option linter.all false
set_option maxRecDepth 100000
set_option maxHeartbeats 4000000
/-! sorted(l, key=a lambda) in the layer: any things, keys that are ints -/
namespace L2
open PySem PySem.Spec PySem.Calls PySem.W PyProof.Rows
theorem vals_pickV {xs : List V} {its : List Value} (rv : Vals xs its) : ∀ (il : List Nat), (∀ i ∈ il, i < xs.length) → Vals (il.map fun i => xs.getD i .non) (il.map fun i => its.getD i Value.none)
  | [], _ => .nil
  | i :: r, hin => by
    refine .cons ?_ (vals_pickV rv r fun j hj => hin j (.tail _ hj))
    have hi := hin i (.head _)
    obtain ⟨u, eu, ru⟩ := rv.get (i := i) (List.getElem?_eq_getElem hi)
    have e1 : its.getD i Value.none = u := by rw [List.getD_eq_getElem?_getD, eu]; rfl
    have e2 : xs.getD i .non = xs[i] := by rw [List.getD_eq_getElem?_getD, List.getElem?_eq_getElem hi]; rfl
    show RelV (xs.getD i .non) (its.getD i Value.none)
    rw [e1, e2]
    exact ru
section
variable {X : Cx} {pins : List (Addr × Obj)} {σ : St} {H : Hp} {s : Shared}
theorem run_sortedL {g p : Addr} {xs : List V} {kz : List Int} {Q : VK} (I : Inv X pins σ H s) (hS : SqL X.K H p xs) (h64 : xs.length < 64) (hkz : kz.length = xs.length)
    (step : ∀ (pins' : List (Addr × Obj)) (s' : Shared) (i : Nat) (v : V) (u : Value), Inv X pins' σ H s' → xs[i]? = some v → RelV v u →
      wpAny (model X.prog X.w) X.A.in1.in1 (call (.ref g) [u]) (fun r s2 => (∃ t, r = .int (kz.getD i 0) t) ∧ Inv X pins' σ H s2) (fun _ _ => False) s')
    (q : ∀ l il, H l = none → Stb kz xs.length il → Q (.ref l) (upd H l (.lst (il.map fun i => xs.getD i .non)))) :
    wpAny (model X.prog X.w) X.A (call (.builtin "sorted") [.ref p] [(Str.ofString "key", .ref g)]) (EP X pins σ Q) X.xe s := by
  obtain ⟨its, rv, pl, hz⟩ := I.list hS
  have hl : s.heap.IsList p its.toArray := pl.isList
  have hlen : its.length = xs.length := rv.length.symm
  refine call_function_entry_kw kind_sorted plain_sorted entry_sorted (ksk_s1 _ _) ?_
  unfold Builtin.«sorted»
  refine wpAny_bind (m := checkCount "sorted" 1 1 _) (wpAny_pure ?_)
  refine wpAny_bind (collect_list hl ?_ (by rw [sizeLine_eq]; omega))
  refine wpAny_bind (wpAny_newList ?_ (by rw [sizeLine_eq]; omega))
  have hsz : ((s.heap.push (seqObj "list" #[] 0)).update s.heap.objs.size (Obj.mapSeq (· ++ its.toArray))).objs.size = s.heap.objs.size + 1 := by
    rw [Heap.size_update, size_push']
  have hoL : (((s.heap.push (seqObj "list" #[] 0)).update s.heap.objs.size (Obj.mapSeq (· ++ its.toArray))).push (seqObj "list" its.toArray 0)).get? (s.heap.objs.size + 1) = some (seqObj "list" its.toArray 0) := by
    rw [← hsz]; exact Heap.get?_push_size _ rfl
  have keep : ∀ b o, s.heap.get? b = some o → (((s.heap.push (seqObj "list" #[] 0)).update s.heap.objs.size (Obj.mapSeq (· ++ its.toArray))).push (seqObj "list" its.toArray 0)).get? b = some o := fun b o q => by
    have hlt : b < s.heap.objs.size := Heap.lt_size q
    rw [Heap.get?_push_ne _ _ _ (by rw [hsz]; exact Nat.ne_of_lt (Nat.lt_succ_of_lt hlt)), Heap.get?_update_ne _ _ _ _ (Nat.ne_of_lt hlt), Heap.get?_push_ne _ _ _ (Nat.ne_of_lt hlt)]
    exact q
  show wpAny _ _ _ _ _ { s with heap := ((s.heap.push (seqObj "list" #[] 0)).update s.heap.objs.size (Obj.mapSeq (· ++ its.toArray))).push (seqObj "list" its.toArray 0) }
  rw [hsz]
  generalize hh1 : ((s.heap.push (seqObj "list" #[] 0)).update s.heap.objs.size (Obj.mapSeq (· ++ its.toArray))).push (seqObj "list" its.toArray 0) = h1 at hoL keep ⊢
  have hs1 : h1.objs.size = s.heap.objs.size + 2 := by rw [← hh1, size_push', hsz]
  have fD : FpOk X pins H (s.heap.objs.size + 1) := I.fpOk (Nat.le_succ _) (I.hok.fresh (Nat.le_succ _))
  have nK : H (h1.objs.size + 1) = none := I.hok.fresh (by rw [hs1]; exact Nat.le_add_right _ 3)
  have fK : FpOk X pins H (h1.objs.size + 1) := I.fpOk (by rw [hs1]; exact Nat.le_add_right _ 3) nK
  have nD : H (s.heap.objs.size + 1) = none := I.hok.fresh (Nat.le_succ _)
  have hne : (h1.objs.size + 1 : Nat) ≠ s.heap.objs.size + 1 := by omega
  refine wpAny_bind (wpAny_holding (wpAny_call_entry_kw slot_list_sort ⟨_, hoL, rfl⟩ entry_list_sort ?body (ksk_l1 _ _)))
  case body =>
    show wpAny (model X.prog X.w) X.A.in1.in1 (Builtin.«list.sort» ⟨[.ref (s.heap.objs.size + 1)], [(Str.ofString "key", .ref g)]⟩) _ _ { s with heap := h1 }
    rw [ksk_t1]
    refine si_tree (s := { s with heap := h1 }) (J := fun e1 ks zs s' => Inv X pins σ H s' ∧ s'.heap.get? (s.heap.objs.size + 1) = some (seqObj "list" #[] e1) ∧
      (∃ e, s'.heap.get? (h1.objs.size + 1) = some (seqObj "list" ks.toArray e)) ∧ IntsAre ks zs ∧ zs = kz.take ks.length ∧ ks.length ≤ xs.length) hoL (by omega) ?_ ?_ ?_ ?_
    · rintro e1 ks zs s' ⟨I', g1, g2, ia, _, _⟩
      exact ⟨g2, g1, ia⟩
    · rintro e1 x ks zs s' hx ⟨I', g1, ⟨e, g2⟩, ia, ek, lk⟩
      have hi : ks.length < xs.length := by have := (List.getElem?_eq_some_iff.mp hx).1; omega
      obtain ⟨u, eu, ru⟩ := rv.get (i := ks.length) (List.getElem?_eq_getElem hi)
      rw [hx] at eu
      cases eu
      have I2 : Inv X ((s.heap.objs.size + 1, seqObj "list" #[] e1) :: (h1.objs.size + 1, seqObj "list" ks.toArray e) :: pins) σ H s' := I'.pins_of fun p hp => by
        rcases List.mem_cons.mp hp with rfl | hp
        · exact ⟨g1, nD, fD.2.1, fD.2.2.1, fun v z => by cases z⟩
        · rcases List.mem_cons.mp hp with rfl | hp
          · exact ⟨g2, nK, fK.2.1, fK.2.2.1, fun v z => by cases z⟩
          · exact I'.pin p (List.mem_append_right _ hp)
      refine wpAny_mono (step _ s' ks.length _ x I2 (List.getElem?_eq_getElem hi) ru) (fun r s2 hq => ?_) fun _ _ h => h
      obtain ⟨⟨t, rfl⟩, I3⟩ := hq
      obtain ⟨d1, d2, _⟩ := I3.pin (s.heap.objs.size + 1, seqObj "list" #[] e1) (List.mem_append_right _ (.head _))
      obtain ⟨k1, k2, _⟩ := I3.pin (h1.objs.size + 1, seqObj "list" ks.toArray e) (List.mem_append_right _ (.tail _ (.head _)))
      have I4 : Inv X pins σ H s2 := I3.pins_of fun p hp => I3.pin p (List.mem_append_right _ (.tail _ (.tail _ hp)))
      refine ⟨⟨e, k1⟩, kz.getD ks.length 0, I4.turnedL (tk := s2.toks) (ch := [h1.objs.size + 1]) (fun b u hb e => ?_) (fun b hb => ?_), ?_, ?_, ksk_snoc ia, ?_, ?_⟩
      · rw [Heap.get?_update_ne _ _ _ _ (fun z => hb (by simp [z]))]; exact e
      · obtain rfl : b = h1.objs.size + 1 := by simpa using hb
        exact fK
      · show (s2.heap.update (h1.objs.size + 1) _).get? (s.heap.objs.size + 1) = _
        rw [Heap.get?_update_ne _ _ _ _ (fun z => hne z.symm)]; exact d1
      · have ea : (List.toArray ks).push (Value.int (kz.getD ks.length 0) t) = List.toArray (ks ++ [Value.int (kz.getD ks.length 0) t]) := by simp
        exact ⟨_, by rw [← ea]; exact get?_update_seq k1 (·.push (Value.int (kz.getD ks.length 0) t))⟩
      · rw [ek, List.length_append, List.length_singleton, List.take_add_one, List.getD_eq_getElem?_getD, List.getElem?_eq_getElem (by omega)]
        rfl
      · rw [List.length_append, List.length_singleton]; omega
    · rintro e1 ks zs s' hks ⟨I', g1, ⟨e, g2⟩, ia, ek, lk⟩ il hst
      have ekk : zs = kz := by rw [ek, hks, hlen, ← hkz, List.take_length]
      rw [ekk, hlen] at hst
      have hin : ∀ i ∈ il, i < xs.length := fun i hi => List.mem_range.mp (hst.1.mem_iff.mp hi)
      have hk4 : ∀ b u, b ∉ [h1.objs.size + 1, s.heap.objs.size + 1] → s'.heap.get? b = some u → ((s'.heap.update (h1.objs.size + 1) (Obj.mapSeq fun _ => (#[] : Array Value))).update (s.heap.objs.size + 1) (Obj.mapSeq fun _ => (il.map fun i => its.getD i Value.none).toArray)).get? b = some u := fun b u hb e => by
        rw [Heap.get?_update_ne _ _ _ _ (fun z => hb (by simp [z])), Heap.get?_update_ne _ _ _ _ (fun z => hb (by simp [z]))]; exact e
      have I5 := I'.turnedL (tk := s'.toks) (ch := [h1.objs.size + 1, s.heap.objs.size + 1]) hk4 fun b hb => by
        have hb' : b = h1.objs.size + 1 ∨ b = s.heap.objs.size + 1 := by simpa using hb
        rcases hb' with rfl | rfl
        · exact fK
        · exact fD
      have hg : (s'.heap.update (h1.objs.size + 1) (Obj.mapSeq fun _ => (#[] : Array Value))).get? (s.heap.objs.size + 1) = some (seqObj "list" #[] e1) := by
        rw [Heap.get?_update_ne _ _ _ _ (fun z => hne z.symm)]; exact g1
      have outI := vals_pickV rv il hin
      have hlo : il.length = xs.length := by have := hst.1.length_eq; rw [List.length_range] at this; omega
      refine ⟨_, rfl, wpAny_pure ⟨_, rfl, .ref (s.heap.objs.size + 1), _, Inv.track (o := .lst (il.map fun i => xs.getD i .non)) I5 fD ⟨?_, _, _, outI, get?_update_seq hg fun _ => _⟩, rfl, q _ il nD hst⟩⟩
      rw [List.length_map, hlo, sizeLine_eq]; omega
    · intro e1 g1
      have kp : ∀ b o, b ≠ s.heap.objs.size + 1 → h1.get? b = some o → (skHeap h1 (s.heap.objs.size + 1) its).get? b = some o := fun b o hb e => by
        unfold skHeap
        refine Heap.get?_push_of_some _ (Heap.get?_push_of_some _ ?_)
        rw [Heap.get?_update_ne _ _ _ _ hb]
        exact e
      refine ⟨I.kept (t' := s.toks) (fun b u e => kp b u (Nat.ne_of_lt (Nat.lt_succ_of_lt (Heap.lt_size e))) (keep b u e)), g1, ⟨0, ?_⟩, .nil, by simp, Nat.zero_le _⟩
      have hkS : ((h1.update (s.heap.objs.size + 1) (Obj.mapSeq fun _ => (#[] : Array Value))).push (seqObj "tuple" its.toArray 0)).objs.size = h1.objs.size + 1 := by rw [size_push', Heap.size_update]
      show (skHeap h1 (s.heap.objs.size + 1) its).get? (h1.objs.size + 1) = _
      unfold skHeap
      rw [← hkS]
      exact Heap.get?_push_size _ rfl
end
/-- a built-in function called with keywords, the names' values at hand -/
def CallRKS (X : Cx) (f : Value) (ks : List Str) (r : St → List V → List V → Hp → VK → Prop) : Prop :=
  ∀ (pins : List (Addr × Obj)) (s : Shared) (σ : St) (H : Hp) (xs zs : List V) (us ws : List Value) (Q : VK), Inv X pins σ H s → Vals xs us → Vals zs ws → r σ xs zs H Q →
    wpAny (model X.prog X.w) X.A (call f us (ks.zip ws)) (EP X pins σ Q) X.xe s
def tCBKS (r : St → List V → List V → Hp → VK → Prop) (t tk : TA) : TE := fun σ H Q => t σ H fun vs H1 => tk σ H1 fun zs H2 => r σ vs zs H2 Q
section
variable {X : Cx} {x : Str} {p pos : Pos} {e : Expr} {es : List Expr} {kws : List Keyword} {t tk : TA} {id : String} {ks : List Str} {r : St → List V → List V → Hp → VK → Prop}
theorem pe_callBKS (hc : CallRKS X (.builtin id) ks r) (hg : Gl X x) (hm : X.mg x = none) (hv : bootBuiltins x = some (.builtin id)) (ha : PA X (e :: es) t) (hkw : PK X kws tk)
    (hall : (backToKw pos (keywordEach kws X.env)).all (·.1.isSome) = true := by rfl) (hks : (backToKw pos (keywordEach kws X.env)).filterMap (·.1) = ks := by rfl) (hn : x ≠ "__name__" := by decide) (hdb : (x == ("__debug__" : Str)) = false := by decide)
    (he : starEach (e :: es) X.env = (false, eval e X.env) :: starEach es X.env := by rfl)
    (hpl : (backTo pos (starEach (e :: es) X.env)).any (·.1) = false := by rfl) (hpk : (backToKw pos (keywordEach kws X.env)).any (·.1.isNone) = false := by rfl) : PE X (.Call (.Name x p) (e :: es) kws pos) (tCBKS r t tk) := by
  intro pins s σ H Q I h
  refine wpAny_Call_Name_kw (ld_blt I hg hm hv ?_ hn hdb)
  refine callWith_builtin_kwB hpl hpk (evalArgs_kw2 hall (thn (ha pos pins s σ H _ I h) fun us s1 ⟨vs, H1, I1, r1, q⟩ => ?_) he)
  refine thn (hkw pos pins s1 σ H1 _ I1 q) fun ws s2 ⟨zs, H2, I2, rz, q2⟩ => ?_
  dsimp only [List.nil_append]
  rw [hks]
  exact hc pins s2 σ H2 vs zs us ws Q I2 r1 rz q2
end
section
variable {X : Cx} {x y : Str} {params : Arguments} {body : Expr} {scope : Scope} {cF : Addr} {qual : Str} {pm : Value} {iy k : Nat} {t : TE}
/-- sorted(l, key=lambda x: ..) where the lambda reads y, a name of the def around it -/
theorem call_sortedL (S : LamSc x y scope) (hr : Room (k + 3) X.A) (hiy : X.N[iy]? = some y) (hky : X.env.kindOf y = some .cell) (hsy : X.env.scope.names.lookup y = some .cell) (hcF : X.env.cells.lookup y = some cF)
    (hb : ∀ (u ct : Value) (c' : Addr), bindArgs (kla_fn "<lambda>" qual params body scope [(y, cF)] pm (.ref c') ct) ⟨[u], []⟩ = pure [(x, u)])
    (hpe : ∀ (g c' : Addr) (A : Around) (outer : List Env) (s : Shared) (H : Hp) (E : XK), PE (cxLam (CXE X.prog X.w) X.prog X.w X.K X.mg X.base [x, y] qual scope g (.ref c') [(y, cF)] A outer s H E) body t) :
    CallRKS X (.builtin "sorted") [Str.ofString "key"] (fun σ xs zs H Q => ∃ (p : Addr) (vs : List V) (kz : List Int) (g c' : Addr) (ct : Value) (vS : V), xs = [.ref p] ∧ zs = [.ref g] ∧ SqL X.K H p vs ∧ vs.length < 64 ∧ kz.length = vs.length ∧
      H g = some (LamO g (kla_obj "<lambda>" qual params body scope [(y, cF)] pm c' ct)) ∧ H c' = some (CodeO qual c') ∧ σ[iy]? = some (some vS) ∧
      (∀ i v, vs[i]? = some v → t [some v, some vS] H fun r H' => r = .int (kz.getD i 0) ∧ H' = H) ∧
      ∀ l il, H l = none → Stb kz vs.length il → Q (.ref l) (upd H l (.lst (il.map fun i => vs.getD i .non)))) := by
  intro pins s σ H xs zs us ws Q I r rz h
  obtain ⟨p, vs, kz, g, c', ct, vS, rfl, rfl, hS, h64, hkz, hg, hc', hσ, ht, q⟩ := h
  obtain ⟨u, rfl, ru⟩ := vals1 r
  cases (show u = Value.ref p from ru)
  obtain ⟨v, rfl, rv⟩ := vals1 rz
  cases (show v = Value.ref g from rv)
  refine run_sortedL I hS h64 hkz (fun pins' s' i v u I' hv rv => ?_) q
  obtain ⟨m, hns, hlook⟩ := I'.loc
  obtain ⟨uS, rS, lk⟩ := hlook iy y vS hiy hσ (.inr (.inl hsy))
  have hcell : s'.heap.IsCell cF (some uS) := by
    rcases lk with ⟨z, _⟩ | ⟨_, c, e1, e2⟩
    · rw [hky] at z; cases z
    · rw [hcF] at e1; cases e1
      exact e2
  refine wpAny_call (codeAny_mono (lam_run (k := k) S hr.in1.in1 I'.env0.in1.in1 (I'.hok g _ hg).1 (I'.hok c' _ hc').1 (hb u ct c') hcell (I'.freeC y cF hcF) rv rS (hpe g c' _ _ _ _ E0) (ht i v hv)) fun r s2 hq => ?_)
  cases r with
  | error e => exact CXE.no hq
  | ok fl =>
    cases fl with
    | next => exact False.elim hq
    | brk => exact False.elim hq
    | cont => exact False.elim hq
    | ret w =>
      obtain ⟨v, H2, I3, rv3, rfl, rfl⟩ := I'.after hq
      obtain ⟨t, rfl⟩ := rv3
      exact ⟨⟨t, rfl⟩, I3⟩
end
end L2

set_option Elab.async false
set_option linter.all false
set_option maxRecDepth 100000
set_option maxHeartbeats 4000000
/-! max(a list of ints, default=d) -/
namespace L2
open PySem PySem.Spec PySem.Calls PySem.W PyProof.Rows
section
variable {prog : Program} {w : World} {A : Around} {R : Result → Shared → Prop} {I : Addr} {fp wr : List Addr} {n : Nat} {P : Nat → Value → Prop} {St : Nat → Heap → Prop}
/-- what the loop holds ahead of item j -/
def MxAt (P : Nat → Value → Prop) (bt : Nat → Nat → Bool) (j : Nat) (old : Array Value) : Prop := (j = 0 ∧ old = #[]) ∨ ∃ i v, j = i + 1 ∧ old = #[v, v] ∧ P (argBest bt i) v
theorem mxd_loop (W : Walks prog w A.in1 I fp wr n P St) (bt : Nat → Nat → Bool) (hcmp : CmpOf prog w A.in1 .Gt P bt) (S : Addr) (hSf : S ∉ fp) (d : Value) :
    ∀ (m j : Nat) (s : Shared) (old : Array Value) (c : Nat), j + m = n → St j s.heap → s.heap.get? S = some ⟨.type "list", none, .seq old c, #[]⟩ → MxAt P bt j old →
      (∀ v h' tk, (n = 0 ∧ v = d ∨ ∃ i, n = i + 1 ∧ P (argBest bt i) v) → (∀ b o, b ∉ wr → b ≠ S → s.heap.get? b = some o → h'.get? b = some o) → R (.ok (.ret v)) { s with heap := h', toks := tk }) →
      codeAny (model prog w) A (.builtin "max.loop" ⟨[.ref I, .none, .ref S], [("default", d)]⟩) R s := by
  have hSw : S ∉ wr := fun h => hSf (W.sub _ h)
  have hnm : (toString "max" ++ toString ".loop" : String) = "max.loop" := by decide
  intro m
  induction m with
  | zero =>
    intro j s old c hj st hS hat hR
    obtain rfl : j = n := hj
    (refine codeAny_builtin F.entry_max_loop ?_ ; rw [Around.under_plainId F.plain_max_loop _] ; show wpAny _ A.in1 (seqItems? (.ref S) >>= _) _ _ s ; refine wpAny_bind (wpAny_seqItems hS rfl ?_))
    (show wpAny _ A.in1 (tryCatch (pyNext (.ref I)) _ >>= _) _ _ s ; refine wpAny_bind (wpAny_tryCatch (W.done s _ _ st fun h' tk hk => ?_)))
    rcases hat with ⟨rfl, rfl⟩ | ⟨i, v, rfl, rfl, hP⟩
    · exact wpAny_bind (wpAny_rule (wpAny_pure (hR d h' tk (.inl ⟨rfl, rfl⟩) fun b o hbw _ e => hk b o hbw e)))
    · have hS' := hk S _ hSw hS
      (show wpAny _ A.in1 (updateSeq S (fun _ => #[]) >>= _) _ _ _ ; refine wpAny_bind ?_ ; refine wpAny_updateSeq hS' rfl (wpAny_bind (wpAny_letGo (wpAny_pure ?_))))
      exact hR v _ tk (.inr ⟨i, rfl, hP⟩) fun b o hbw hbS e => (Heap.get?_update_other _ _ (Ne.symm hbS)).trans (hk b o hbw e)
  | succ m ih =>
    intro j s old c hj st hS hat hR
    have hlt : j < n := by omega
    (refine codeAny_builtin F.entry_max_loop ?_ ; rw [Around.under_plainId F.plain_max_loop _] ; show wpAny _ A.in1 (seqItems? (.ref S) >>= _) _ _ s ; refine wpAny_bind (wpAny_seqItems hS rfl ?_))
    (show wpAny _ A.in1 (tryCatch (pyNext (.ref I)) _ >>= _) _ _ s ; refine wpAny_bind (wpAny_tryCatch (W.item j s _ _ hlt st fun v h' tk hP st' hk => ?_)))
    have hS' := hk S _ hSw hS
    have fr : ∀ (h2 : Heap), (∀ b o, b ≠ S → h'.get? b = some o → h2.get? b = some o) → St (j + 1) h2 := fun h2 k => W.frame _ _ _ st' fun b hbf o e => k b o (fun z => hSf (by rw [← z]; exact hbf)) e
    rcases hat with ⟨rfl, rfl⟩ | ⟨i, vb, rfl, rfl, hPb⟩
    · (show wpAny _ A.in1 (updateSeq S (fun _ => #[v, v]) >>= _) _ _ _ ; refine wpAny_bind ?_ ; refine wpAny_updateSeq hS' rfl ?_ ; rw [hnm])
      refine wpAny_pure ⟨plainId_quiet F.plain_max_loop _, ih (0 + 1) _ _ _ (by omega) (fr _ fun b o hb e => (Heap.get?_update_other _ _ (Ne.symm hb)).trans e) (Heap.get?_update_self _ hS' rfl) (.inr ⟨0, v, rfl, rfl, hP⟩) fun v' h'' tk' hv hk' => ?_⟩
      exact hR v' h'' tk' hv fun b o hbw hbS e => hk' b o hbw hbS ((Heap.get?_update_other _ _ (Ne.symm hbS)).trans (hk b o hbw e))
    · (show wpAny _ A.in1 (tryCatch (holding [v, v] (richCompare .Gt v vb >>= _)) _ >>= _) _ _ _ ; refine wpAny_bind (wpAny_tryCatch (wpAny_holding (wpAny_bind (hcmp (i + 1) (argBest bt i) v vb _ _ _ hP hPb ?_)))))
      (refine wpAny_bind (wpAny_holding (wpAny_truthy_bool ?_)) ; refine wpAny_bind (wpAny_letGo (wpAny_pure ?_)))
      cases hb : bt (i + 1) (argBest bt i) with
      | true =>
        (simp only [if_true] ; refine wpAny_bind ?_ ; refine wpAny_updateSeq hS' rfl (wpAny_bind (wpAny_letGo ?_)) ; rw [hnm])
        refine wpAny_pure ⟨plainId_quiet F.plain_max_loop _, ih (i + 1 + 1) _ _ _ (by omega) (fr _ fun b o hb e => (Heap.get?_update_other _ _ (Ne.symm hb)).trans e) (Heap.get?_update_self _ hS' rfl) (.inr ⟨i + 1, v, rfl, rfl, by simp only [argBest, hb, if_true]; exact hP⟩) fun v' h'' tk' hv hk' => ?_⟩
        exact hR v' h'' tk' hv fun b o hbw hbS e => hk' b o hbw hbS ((Heap.get?_update_other _ _ (Ne.symm hbS)).trans (hk b o hbw e))
      | false =>
        (simp only [Bool.false_eq_true, if_false] ; refine wpAny_bind (wpAny_letGo ?_) ; rw [hnm])
        refine wpAny_pure ⟨plainId_quiet F.plain_max_loop _, ih (i + 1 + 1) _ _ _ (by omega) st' hS' (.inr ⟨i + 1, vb, rfl, rfl, by simp only [argBest, hb, Bool.false_eq_true, if_false]; exact hPb⟩) fun v' h'' tk' hv hk' => ?_⟩
        exact hR v' h'' tk' hv fun b o hbw hbS e => hk' b o hbw hbS (hk b o hbw e)
end
theorem args_maxD (a d : Value) : argsOk "max" ⟨[a], [(Str.ofString "default", d)]⟩ := by unfold argsOk; kernel_rfl
section
variable {prog : Program} {w : World} {A : Around} {E : Value → Shared → Prop} {s : Shared}
/-- a built-in function with keywords, whose tree may go on by another round -/
theorem call_tree_kw {id : String} {b : Builtin} {args : List Value} {kw : List (Str × Value)} {Q : Value → Shared → Prop} (hk : builtinKind id = none) (hp : plainId id = true) (hb : entryFor table id = some b) (ha : argsOk id ⟨args, kw⟩)
    (hc : wpAny (model prog w) A.in1 (b ⟨args, kw⟩) (fun fin s' => match fin with
      | .done f => (match (Except.ok f : Result) with | .ok (.ret v) => Q v s' | .ok _ => False | .error e => E e s')
      | .again c' => c'.quiet = true ∧ codeAny (model prog w) A c' (fun r s' => match r with | .ok (.ret v) => Q v s' | .ok _ => False | .error e => E e s') s') E s) :
    wpAny (model prog w) A (call (.builtin id) args kw) Q E s := by
  refine wpAny_call (codeAny_call_builtin hp hb ?_)
  simp only [checkBuiltinCall, hk]
  cases g : Manifest.signature? id with
  | none => exact wpAny_pure hc
  | some sig =>
    have a2 : Bind.checkArgs id sig ⟨args, kw⟩ = pure () := by simpa only [argsOk, g] using ha
    (simp only [a2] ; exact wpAny_pure hc)
end
section
variable {X : Cx}
theorem call_maxD (hc : X.calm = true) : CallRK X (.builtin "max") [Str.ofString "default"] (fun xs zs H Q => ∃ (p : Addr) (ns : List Int) (d : Int), xs = [.ref p] ∧ zs = [.int d] ∧ SqL X.K H p (ns.map V.int) ∧
    ∀ m, (∀ a ∈ ns, a ≤ m) → (m ∈ ns ∨ (ns = [] ∧ m = d)) → Q (.int m) H) := by
  intro pins s σ H xs zs us ws Q I r rz h
  obtain ⟨p, ns, d, rfl, rfl, hS, q⟩ := h
  obtain ⟨u, rfl, ru⟩ := vals1 r
  cases (show u = Value.ref p from ru)
  obtain ⟨v, rfl, tv, rfl⟩ := vals1 rz
  obtain ⟨ts, hl, he⟩ := list_ints I hS
  have hsz : ts.size = ns.length := by rw [he, List.length_map, Array.length_toList]
  have hnm : (toString "max" ++ toString ".loop" : String) = "max.loop" := by decide
  show wpAny _ _ (call (.builtin "max") [.ref p] [(Str.ofString "default", .int d tv)]) _ _ _
  refine call_tree_kw F.kind_max F.plain_max F.entry_max (args_maxD _ _) ?_
  (show wpAny _ X.A.in1 (Builtin.Builtins.bindParams "max" ["key", "default"] 0 ⟨[], [(Str.ofString "default", .int d tv)]⟩ >>= _) _ _ s ; refine wpAny_bind (wpAny_of_eq (show Builtin.Builtins.bindParams "max" ["key", "default"] 0 ⟨[], [(Str.ofString "default", .int d tv)]⟩ = pure [none, some (.int d tv)] from rfl) ?_))
  (refine wpAny_bind (wpAny_pure ?_) ; refine wpAny_bind (iter_intList hl fun s₂ e st hfp hlI => ?_) ; subst e ; refine wpAny_bind (wpAny_newObj_type ?_))
  have W := Walks.list (A := X.A.in1) (prog := X.prog) (w := X.w) (I.ok.hd hc) _ p hlI (intItems ts)
  have hSf : (s.heap.push { cls := .type "list_iterator", data := .fields #[.ref p, .int 0 0] }).objs.size ∉ [s.heap.objs.size, p] := fun hm => Nat.lt_irrefl _ (hfp _ hm)
  rw [hnm]
  refine wpAny_pure ⟨plainId_quiet F.plain_max_loop _, mxd_loop W _ (CmpOf.ints_gt (numAt ts) fun _ _ => intItems_at) _ hSf (.int d tv) _ 0 _ #[] _ (Nat.zero_add _) (W.frame _ _ _ st fun b _ o e => Heap.get?_push_of_some _ e) (Heap.get?_push_size _ rfl) (.inl ⟨rfl, rfl⟩) fun v h' tk hv hk => ?_⟩
  have keep : ∀ b o, s.heap.get? b = some o → h'.get? b = some o := fun b o e => by
    have hb : b < s.heap.objs.size := Heap.lt_size e
    refine hk b o (fun z => ?_) (Nat.ne_of_lt ?_) (Heap.get?_push_of_some _ (Heap.get?_push_of_some _ e))
    · obtain rfl := List.mem_singleton.mp z
      exact Nat.lt_irrefl _ hb
    · rw [Heap.size_push]; exact Nat.lt_succ_of_lt hb
  have zi : (intItems ts).size = ts.size := by simp [intItems]
  rcases hv with ⟨h0, rfl⟩ | ⟨i, hi, hP⟩
  · have e0 : ns = [] := List.length_eq_zero_iff.mp (by omega)
    exact ⟨.int d, H, I.kept keep, ⟨tv, rfl⟩, q d (fun a ha => by rw [e0] at ha; cases ha) (.inr ⟨e0, rfl⟩)⟩
  · obtain ⟨t, rfl⟩ := intItems_at hP
    obtain ⟨b1, b2⟩ := argBest_gt (numAt ts) i
    refine ⟨.int _, H, I.kept keep, ⟨t, rfl⟩, q _ (fun a ha => ?_) (.inl ?_)⟩
    · rw [he] at ha
      obtain ⟨j, hj, rfl⟩ := mem_getD ha
      rw [← he, ← hsz] at hj
      rw [← numAt_eq]
      exact b2 j (by omega)
    · rw [he, numAt_eq]
      refine getD_mem ?_
      rw [← he, ← hsz]
      omega
end
end L2

set_option Elab.async false
set_option linter.all false
set_option maxRecDepth 100000
set_option maxHeartbeats 4000000
/-! a def whose code object is known -/
namespace L2
open PySem PySem.Spec PySem.Calls PySem.W PyProof.Rows
structure FunT (K : PySem.W.Frag) (x : Str) (st : Stmt) (c f : Addr) (fd : FuncData) : Prop where
  F : Fun K x x st f fd
  code : fd.code = .ref c
section
variable {P : Program} {w : World} {K : PySem.W.Frag} {mg : Str → Option Value} {base : Heap} {x : Str} {st : Stmt} {c : Addr}
theorem FunT.okX {f : Addr} {fd : FuncData} {N ps : List Str} {k : Nat} {sp : Sp} (F : FunT K x st c f fd) (S : FnScope N ps (defScope st)) (len : ∀ vs H Q E, sp vs H Q E → vs.length = ps.length)
    (body : ∀ (A : Around) (outer : List Env) (s : Shared) (H : Hp) (vs : List V) (Q : VK) (E : XK), Room k (A.deeper (envOfC x (defScope st) s.heap.objs.size f (.ref c))) → sp vs H Q E →
      ∃ t, PSs (cxOf (CXE P w) P w K mg base N x (defScope st) f (.ref c) A outer s H E) (defBody st) t ∧ t { nx := fun _ H' => Q .non H', rt := Q } (start N vs) H) : FnOk P w K mg base (CXE P w) (k + 1) f fd ps sp := by
  obtain ⟨oc, od, kV, doc, pm, an, cdv, ct, osl, rfl, lk, hcd⟩ := F.F.ex
  obtain rfl : cdv = .ref c := F.code
  exact fn_of lk hcd S len fun A outer s H vs Q E hr hsp => body A outer s H vs Q E hr hsp
structure DefInT (K : PySem.W.Frag) (x : Str) (st : Stmt) (c : Addr) : Prop where
  ex : ∃ f fd, PySem.W.nsIn K mainGlobals x = some (some (.ref f)) ∧ FunT K x st c f fd
theorem deft_mk {f : Addr} {oc : Value} {od an : Option Addr} {osl : Array (Option Value)} {kV doc pm ct : Value} (a : PySem.W.nsIn K mainGlobals x = some (some (.ref f)))
    (l : K.lookup f = some ⟨oc, od, .func (PySem.W.fnOf x x (defArgs st) (defBody st) (defScope st) .none kV doc pm an (.ref c) ct), osl⟩) (cc : PySem.W.codeIn K (.ref c) x = true) (k : PySem.W.keepIn K (.ref f) = true) : DefInT K x st c := ⟨_, _, a, fun_mk l cc k, rfl⟩
theorem DefInT.cal {ps : List Str} {k : Nat} {sp : Sp} {h : Heap} (d : DefInT K x st c) (KX : K.In h) (G : h.Ns mainGlobals mg) (b : BindOk x st ps) (ok : ∀ f fd, FunT K x st c f fd → FnOk P w K mg base (CXE P w) k f fd ps sp) : Cal P w K mg base x k sp := by
  obtain ⟨f, fd, a, F⟩ := d.ex
  exact ⟨f, fd, ps, PySem.W.mg_of KX G a, ok f fd F, F.F.kp, F.F.binds b⟩
end
end L2

set_option Elab.async false
set_option linter.all false
set_option maxRecDepth 100000
set_option maxHeartbeats 4000000
namespace My
open PySem L2
def top (i : Nat) : Stmt := PySem.Challenge.pw_crookroad_k03_ordered.main.body.getD i (.Pass ⟨0, 0, 0, 0⟩)
abbrev s_check_bottom : Stmt := top 4
theorem sc_check_bottom : FnScope ["bottom"] ["bottom"] (defScope s_check_bottom) := ⟨rfl, rfl, rfl, by decide +kernel, rfl, by decide +kernel, by decide +kernel⟩
theorem bd_check_bottom : BindOk "check_bottom" s_check_bottom ["bottom"] := fun _ _ _ _ _ _ us hl => match us, hl with | [_], _ => rfl
abbrev s_ordered : Stmt := top 5
theorem sc_ordered : FnScope ["points", "point", "greatest", "scale"] ["points"] (defScope s_ordered) := ⟨rfl, rfl, rfl, by decide +kernel, rfl, by decide +kernel, by decide +kernel⟩
theorem bd_ordered : BindOk "ordered" s_ordered ["points"] := fun _ _ _ _ _ _ us hl => match us, hl with | [_], _ => rfl
abbrev s__law_cell : Stmt := top 7
theorem sc__law_cell : FnScope ["_law_script", "_law_at"] ["_law_script", "_law_at"] (defScope s__law_cell) := ⟨rfl, rfl, rfl, by decide +kernel, rfl, by decide +kernel, by decide +kernel⟩
theorem bd__law_cell : BindOk "_law_cell" s__law_cell ["_law_script", "_law_at"] := fun _ _ _ _ _ _ us hl => match us, hl with | [_, _], _ => rfl
abbrev s__law_pick : Stmt := top 8
theorem sc__law_pick : FnScope ["_law_script", "_law_at", "_law_turn", "_law_many", "_law_cell_here", "_law_left", "_law_k", "_law_low", "_law_one", "_law_two"] ["_law_script", "_law_at", "_law_turn", "_law_many"] (defScope s__law_pick) := ⟨rfl, rfl, rfl, by decide +kernel, rfl, by decide +kernel, by decide +kernel⟩
theorem bd__law_pick : BindOk "_law_pick" s__law_pick ["_law_script", "_law_at", "_law_turn", "_law_many"] := fun _ _ _ _ _ _ us hl => match us, hl with | [_, _, _, _], _ => rfl
abbrev s__law_whole : Stmt := top 9
theorem sc__law_whole : FnScope ["_law_found"] ["_law_found"] (defScope s__law_whole) := ⟨rfl, rfl, rfl, by decide +kernel, rfl, by decide +kernel, by decide +kernel⟩
theorem bd__law_whole : BindOk "_law_whole" s__law_whole ["_law_found"] := fun _ _ _ _ _ _ us hl => match us, hl with | [_], _ => rfl
abbrev s__law_pairs : Stmt := top 10
theorem sc__law_pairs : FnScope ["_law_found", "_law_pair"] ["_law_found"] (defScope s__law_pairs) := ⟨rfl, rfl, rfl, by decide +kernel, rfl, by decide +kernel, by decide +kernel⟩
theorem bd__law_pairs : BindOk "_law_pairs" s__law_pairs ["_law_found"] := fun _ _ _ _ _ _ us hl => match us, hl with | [_], _ => rfl
abbrev s__law_put : Stmt := top 11
theorem sc__law_put : FnScope ["_law_row", "_law_pair", "_law_at"] ["_law_row", "_law_pair"] (defScope s__law_put) := ⟨rfl, rfl, rfl, by decide +kernel, rfl, by decide +kernel, by decide +kernel⟩
theorem bd__law_put : BindOk "_law_put" s__law_put ["_law_row", "_law_pair"] := fun _ _ _ _ _ _ us hl => match us, hl with | [_, _], _ => rfl
abbrev s_law : Stmt := top 12
theorem sc_law : FnScope ["_law_script", "_law_size", "_law_pairs_here", "_law_k", "_law_bottom", "_law_due", "_law_pair", "_law_handed", "_law_found", "_law_at", "_law_told"] ["_law_script"] (defScope s_law) := ⟨rfl, rfl, rfl, by decide +kernel, rfl, by decide +kernel, by decide +kernel⟩
local macro_rules | `(tactic| walk_at "sq") => `(tactic| first | assumption | exact SqT.new | exact SqL.new | ((with_reducible refine Same.sqt (Same.upd (by assumption)) ?_); walk_at "sq") | ((with_reducible refine Same.sql (Same.upd (by assumption)) ?_); walk_at "sq"))
local macro_rules | `(tactic| walk_at "at") => `(tactic| first | rfl | exact at_ints (by omega) (by omega))
local macro_rules | `(tactic| walk_at "mul") => `(tactic| first | assumption | exact IntMulOk.of_left (intBits_le_64 (by omega) (by omega)) | exact IntMulOk.of_right (intBits_le_64 (by omega) (by omega)) | exact Sm.ok (by assumption) (by assumption) (by decide))
local macro_rules | `(tactic| walk_at "pos") => `(tactic| first | omega | decide +kernel)
local macro_rules | `(tactic| walk_at "div") => `(tactic| exact ⟨by first | omega | decide +kernel, by unfold Sm; decide +kernel⟩)
local macro_rules | `(tactic| walk_at "loc") => `(tactic| first | exact Or.inl rfl | exact Or.inr rfl)
local macro_rules | `(tactic| walk_at "cap") => `(tactic| repeat (first | exact trivial | refine ⟨rfl, ?_⟩))
local macro_rules | `(tactic| walk_at "has") => `(tactic| repeat (first | exact trivial | (refine ⟨fun z => ?_, by decide, ?_⟩; (first | exact ⟨_, rfl⟩ | cases z))))
local macro_rules | `(tactic| walk_at "cix") => `(tactic| repeat (first | exact trivial | refine ⟨⟨_, _, rfl, rfl, rfl, rfl⟩, ?_⟩))
local macro_rules | `(tactic| walk_at "hasK") => `(tactic| repeat (first | exact trivial | (refine ⟨fun z => ?_, fun z => ?_, ?_⟩; (first | exact ⟨_, rfl⟩ | cases z); (first | rfl | cases z))))
structure Txt (K : PySem.W.Frag) (mg : Str → Option Value) (C_BadBottom : Addr) : Prop where
  len_ : mg "len" = none
  abs_ : mg "abs" = none
  range_ : mg "range" = none
  isinstance_ : mg "isinstance" = none
  int_ : mg "int" = none
  bool_ : mg "bool" = none
  list_ : mg "list" = none
  tuple_ : mg "tuple" = none
  sorted_ : mg "sorted" = none
  max_ : mg "max" = none
  g_BadBottom : mg "BadBottom" = some (.ref C_BadBottom)
  x_BadBottom : ExcC K C_BadBottom
section
variable {P : Program} {w : World} {K : PySem.W.Frag} {mg : Str → Option Value} {base : Heap} {C_BadBottom : Addr}
theorem ok_cell {f : Addr} {fd : FuncData} (F : Fun K "_law_cell" "_law_cell" s__law_cell f fd) (T : Txt K mg C_BadBottom) : FnOk P w K mg base (CXE P w) 1 f fd ["_law_script", "_law_at"] (spCell K) := by
  have sc := sc__law_cell
  refine F.okX sc (fun vs H Q E h => by obtain ⟨a, ns, i, rfl, _⟩ := h; rfl) (fun cdv A outer s H vs Q E hr h => ?_)
  obtain ⟨a, ns, i, rfl, hS, h0, k⟩ := h
  have hlen : (ns.map V.int).length = ns.length := List.length_map _
  refine ⟨_, (pss_cons (ps_if (pt_cmpR op_lt (pv 1) (pe_callB call_len_seq rfl T.len_ PySem.boot_len (pa_cons (pv 0) pa_nil)) (nomark _)) (pss_one (ps_ret (pe_ix ix_list (pv 0) (pv 1) (fun _ _ => rfl)))) pss_nil)
      (pss_cons (ps_if (pt_cmpR op_eq (pe_callB call_len_seq rfl T.len_ PySem.boot_len (pa_cons (pv 0) pa_nil)) pe_int (nomark _)) (pss_one (ps_ret (pe_op op_add (pe_op op_mulX pe_int (pv 1)) pe_int))) pss_nil)
      (pss_one (ps_ret (pe_op op_add (pe_ix ix_list (pv 0) (pe_op op_mod (pv 1) (pe_callB call_len_seq rfl T.len_ PySem.boot_len (pa_cons (pv 0) pa_nil))) (fun _ _ => rfl)) (pe_op op_mulX pe_int (pv 1))))))), ?_⟩
  refine ⟨_, rfl, _, rfl, _, _, rfl, .inl hS, _, _, rfl, rfl, _, rfl, ?_⟩
  refine iteD (fun q1 => ?_) (fun q1 => ?_)
  · rw [hlen] at q1
    refine ⟨_, rfl, _, rfl, _, _, _, _, rfl, rfl, hS, at_ints h0 q1, ?_⟩
    exact k _ (by rw [cellF, if_pos q1])
  · rw [hlen] at q1
    refine ⟨_, rfl, _, _, rfl, .inl hS, rfl, _, rfl, ?_⟩
    rw [hlen]
    refine iteDV (fun q2 => ?_) (fun q2 => ?_)
    · refine ⟨_, rfl, _, _, rfl, rfl, (by walk_at "mul"), _, _, rfl, rfl, ?_⟩
      exact k _ (by rw [cellF, if_neg q1, if_pos q2])
    · refine ⟨_, rfl, _, rfl, _, rfl, _, _, rfl, .inl hS, _, _, rfl, rfl, (by rw [hlen]; omega), ?_⟩
      rw [hlen]
      refine ⟨_, _, _, _, rfl, rfl, hS, at_ints (Int.emod_nonneg _ q2) (Int.emod_lt_of_pos _ (by omega)), _, rfl, _, _, rfl, rfl, (by walk_at "mul"), _, _, rfl, rfl, ?_⟩
      exact k _ (by rw [cellF, if_neg q1, if_neg q2])
theorem ok_pick {f : Addr} {fd : FuncData} (F : Fun K "_law_pick" "_law_pick" s__law_pick f fd) (T : Txt K mg C_BadBottom) (c__law_cell : Cal P w K mg base "_law_cell" 1 (spCell K)) : FnOk P w K mg base (CXE P w) 2 f fd ["_law_script", "_law_at", "_law_turn", "_law_many"] (spPick K) := by
  have sc := sc__law_pick
  refine F.okX sc (fun vs H Q E h => by obtain ⟨a, ns, i, t, m, rfl, _⟩ := h; rfl) (fun cdv A outer s H vs Q E hr h => ?_)
  obtain ⟨a, ns, i, t, m, rfl, hS, h0, t0, t1, m0, k⟩ := h
  refine ⟨_, (pss_cons (ps_set (i := 4) sc.nd rfl (by walk_at "loc") (pe_callC c__law_cell (hr.mono (by decide)) rfl passE_def (pa_cons (pv 0) (pa_cons (pv 1) pa_nil))))
      (pss_cons (ps_if (pt_cmpR op_ge (pe_callB call_abs rfl T.abs_ boot_abs (pa_cons (pv 4) pa_nil)) (pe_op op_pow pe_int pe_int) (nomark _)) (pss_cons (ps_set (i := 5) sc.nd rfl (by walk_at "loc") (pe_callB call_abs rfl T.abs_ boot_abs (pa_cons (pv 4) pa_nil)))
      (pss_cons (ps_for PassesOwn.leaving rfl (pi_range1 rfl T.range_ (pa_cons (pv 2) pa_nil)) (pg_name (i := 6) sc.nd rfl (by walk_at "loc")) (pss_one (ps_set (i := 5) sc.nd rfl (by walk_at "loc") (pe_op op_fdivX (pv 5) pe_int))))
      (pss_cons (ps_if (pt_cmpR op_lt (pv 4) pe_int (nomark _)) (pss_one (ps_set (i := 5) sc.nd rfl (by walk_at "loc") (pe_op op_mod (pv 5) pe_int))) pss_nil)
      (pss_one (ps_ret (pe_op op_mod (pv 5) (pv 3))))))) pss_nil)
      (pss_cons (ps_set (i := 7) sc.nd rfl (by walk_at "loc") (pe_op op_mod (pv 4) pe_int))
      (pss_cons (ps_set (i := 8) sc.nd rfl (by walk_at "loc") (pe_op op_mod (pe_op op_add (pe_op op_add (pe_op op_mulX (pv 7) pe_int) (pe_op op_mulX (pv 2) pe_int)) pe_int) pe_int))
      (pss_cons (ps_set (i := 9) sc.nd rfl (by walk_at "loc") (pe_op op_mod (pe_op op_add (pe_op op_add (pe_op op_mulX (pv 8) (pv 8)) (pe_op op_mulX (pv 7) pe_int)) (pe_op op_mulX (pv 2) pe_int)) pe_int))
      (pss_one (ps_ret (pe_op op_mod (pe_op op_mod (pe_op op_add (pe_op op_add (pe_op op_mulX (pv 9) (pv 9)) (pe_op op_mulX (pv 8) pe_int)) (pe_op op_mulX (pv 2) pe_int)) pe_int) (pv 3))))))))), ?_⟩
  refine ⟨_, rfl, _, rfl, ?_⟩
  refine ⟨a, ns, i, rfl, hS, h0, fun c hc => ?_⟩
  have fin : ∀ v, v = rawF c t % m → Q (.int v) H := fun v hv => by
    refine k v (by rw [hv, pickF, hc]) ?_ ?_
    · rw [hv]; exact Int.emod_nonneg _ (by omega)
    · rw [hv]; exact Int.emod_lt_of_pos _ m0
  refine ⟨_, rfl, _, rfl, _, _, rfl, rfl, ⟨by decide, by decide, by decide⟩, _, _, rfl, rfl, _, rfl, ?_⟩
  refine iteD (fun q1 => ?_) (fun q1 => ?_)
  · have q1' : 10 ^ 18 ≤ absI c := q1
    refine ⟨_, rfl, _, rfl, ?_⟩
    refine ⟨_, rfl, t, rfl, (by omega), (by omega), for_range (fun j σ H1 => H1 = H ∧ ∃ z, σ = [some (.ref a), some (.int i), some (.int t), some (.int m), some (.int c), some (.int (divs (absI c) j)), z, none, none, none]) ⟨rfl, _, rfl⟩ ?_ ?_⟩
    · rintro j σ H1 hj ⟨rfl, z, rfl⟩
      exact ⟨_, rfl, _, _, rfl, rfl, (by walk_at "div"), rfl, _, rfl⟩
    · rintro σ H1 ⟨rfl, z, rfl⟩
      refine ⟨_, rfl, _, _, rfl, rfl, _, rfl, ?_⟩
      refine iteD (fun q2 => ?_) (fun q2 => ?_)
      · refine ⟨_, rfl, _, _, rfl, rfl, (by walk_at "pos"), _, rfl, _, rfl, _, _, rfl, rfl, (by walk_at "pos"), ?_⟩
        exact fin _ (by rw [rawF_big q1' q2])
      · refine ⟨_, rfl, _, rfl, _, _, rfl, rfl, (by walk_at "pos"), ?_⟩
        exact fin _ (by rw [rawF_bigp q1' q2])
  · have q1' : ¬ 10 ^ 18 ≤ absI c := q1
    have l0 := Int.emod_nonneg c (show (1000003 : Int) ≠ 0 by decide)
    have l1 := Int.emod_lt_of_pos c (show (0 : Int) < 1000003 by decide)
    refine ⟨_, rfl, _, _, rfl, rfl, (by walk_at "pos"), _, rfl, _, _, rfl, rfl, (by walk_at "mul"), _, rfl, _, _, rfl, rfl, (by walk_at "mul"), _, _, rfl, rfl, _, _, rfl, rfl, _, _, rfl, rfl, (by walk_at "pos"), ?_⟩
    have o0 : 0 ≤ oneF c t := Int.emod_nonneg _ (by decide)
    have o1 : oneF c t < 999983 := Int.emod_lt_of_pos _ (by decide)
    refine ⟨V.int (oneF c t), rfl, V.int (oneF c t), rfl, _, _, rfl, rfl, (by walk_at "mul"), _, rfl, _, _, rfl, rfl, (by walk_at "mul"), _, _, rfl, rfl, _, rfl, _, _, rfl, rfl, (by walk_at "mul"), _, _, rfl, rfl, _, _, rfl, rfl, (by walk_at "pos"), ?_⟩
    have w0 : 0 ≤ twoF c t := Int.emod_nonneg _ (by decide)
    have w1 : twoF c t < 1000033 := Int.emod_lt_of_pos _ (by decide)
    refine ⟨V.int (twoF c t), rfl, V.int (twoF c t), rfl, _, _, rfl, rfl, (by walk_at "mul"), V.int (oneF c t), rfl, _, _, rfl, rfl, (by walk_at "mul"), _, _, rfl, rfl, _, rfl, _, _, rfl, rfl, (by walk_at "mul"), _, _, rfl, rfl, _, _, rfl, rfl, (by walk_at "pos"), _, rfl, _, _, rfl, rfl, (by walk_at "pos"), ?_⟩
    exact fin _ (by rw [rawF_low q1'])
def spWhole : Sp := fun vs H Q _ => ∃ i : Int, vs = [.int i] ∧ Q (.bl true) H
theorem ok_whole {f : Addr} {fd : FuncData} (F : Fun K "_law_whole" "_law_whole" s__law_whole f fd) (T : Txt K mg C_BadBottom) : FnOk P w K mg base (CXE P w) 1 f fd ["_law_found"] spWhole := by
  have sc := sc__law_whole
  refine F.okX sc (fun vs H Q E h => by obtain ⟨i, rfl, _⟩ := h; rfl) (fun cdv A outer s H vs Q E hr h => ?_)
  obtain ⟨i, rfl, k⟩ := h
  refine ⟨_, (pss_one (ps_ret (pe_and (pe_callB call_isinst rfl T.isinstance_ PyProof.Rows.boot_isinstance (pa_cons (pv 0) (pa_cons (pe_bltn (v := V.ty "int") rfl T.int_ PyProof.Rows.boot_int rfl) pa_nil))) (pe_one (pe_not (pe_callB call_isinst rfl T.isinstance_ PyProof.Rows.boot_isinstance (pa_cons (pv 0) (pa_cons (pe_bltn (v := V.ty "bool") rfl T.bool_ PyProof.Rows.boot_bool rfl) pa_nil)))))))), ?_⟩
  refine ⟨_, rfl, _, _, _, _, rfl, TyOf.int i, rfl, _, rfl, ?_⟩
  refine iteT ?_
  refine ⟨_, rfl, _, _, _, _, rfl, TyOf.int i, rfl, _, rfl, ?_⟩
  exact k
def spCheck (C : Addr) : Sp := fun vs H Q E => ∃ b : Int, vs = [.int b] ∧ (1 ≤ b → Q .non H) ∧ (b < 1 → E (.ref C) none H)
theorem ok_check {f : Addr} {fd : FuncData} (F : Fun K "check_bottom" "check_bottom" s_check_bottom f fd) (T : Txt K mg C_BadBottom) : FnOk P w K mg base (CXE P w) 1 f fd ["bottom"] (spCheck C_BadBottom) := by
  have sc := sc_check_bottom
  refine F.okX sc (fun vs H Q E h => by obtain ⟨b, rfl, _⟩ := h; rfl) (fun cdv A outer s H vs Q E hr h => ?_)
  obtain ⟨b, rfl, h1, h2⟩ := h
  refine ⟨_, (pss_one (ps_if (pt_cmpR op_lt (pv 0) pe_int (nomark _)) (pss_one (ps_raise rfl T.x_BadBottom raiseE_def rfl T.g_BadBottom (pa_cons pe_str pa_nil))) pss_nil)), ?_⟩
  refine ⟨_, rfl, _, _, rfl, rfl, _, rfl, ?_⟩
  refine iteD (fun q1 => ?_) (fun q1 => ?_)
  · exact ⟨by decide, h2 q1⟩
  · exact h1 (by omega)
theorem rd_pt {K : PySem.W.Frag} {H : Hp} {p : Addr} {q : Int × Int} (h : SqT K H p [.int q.1, .int q.2]) : RD K H (ptD q) (.ref p) := by
  unfold ptD
  rw [RD]
  exact ⟨p, _, rfl, h, by rw [RDs]; exact ⟨_, _, rfl, by rw [RD], by rw [RDs]; exact ⟨_, _, rfl, by rw [RD], by rw [RDs]⟩⟩⟩
theorem Same.upd2 {H H' : Hp} {p : Addr} {o : HO} (s : Same H H') (n : H p = none) : Same H (L2.upd H' p o) := fun b u e => by
  rw [upd_ne (ne_of_none e n)]
  exact s b u e
/-- what is no table stays -/
def Kp (H H' : Hp) : Prop := ∀ b o, (∀ ps, o ≠ HO.tbl ps) → H b = some o → H' b = some o
theorem Kp.of {H H' : Hp} (s : Same H H') : Kp H H' := fun b o _ e => s b o e
theorem Kp.ofT {T : Addr} {H H' : Hp} {ps : Array Value} (hT : H T = some (.tbl ps)) (s : KeepT T H H') : Kp H H' := fun b o n e => s b o (fun z => by rw [z, hT] at e; cases e; exact n _ rfl) e
theorem Kp.trans {H H' H'' : Hp} (a : Kp H H') (b : Kp H' H'') : Kp H H'' := fun c o n e => b c o n (a c o n e)
theorem Kp.lst {H H' : Hp} (k : Kp H H') {b : Addr} {xs : List V} (e : H b = some (.lst xs)) : H' b = some (.lst xs) := k b _ (fun ps z => by cases z) e
theorem Kp.tup {H H' : Hp} (k : Kp H H') {b : Addr} {xs : List V} (e : H b = some (.tup xs)) : H' b = some (.tup xs) := k b _ (fun ps z => by cases z) e
theorem Kp.none {H H' : Hp} (k : Kp H H') {b : Addr} (hT : ∀ ps, H b = some (.tbl ps) → False) (e : H' b = .none) : H b = .none := by
  cases q : H b with
  | none => rfl
  | some o => rw [k b o (fun ps z => hT ps (by rw [q, z])) q] at e; cases e
theorem Kp.upd {H H' : Hp} {p : Addr} {o : HO} (k : Kp H H') (n : H p = .none) : Kp H (L2.upd H' p o) := fun b u h e => by
  rw [upd_ne (ne_of_none e n)]
  exact k b u h e
theorem Kp.sql {K : PySem.W.Frag} {H H' : Hp} {a : Addr} {xs : List V} (k : Kp H H') (h : SqL K H a xs) : SqL K H' a xs := by
  rcases h with (h | ⟨o, h⟩) | h
  · exact .inl (.inl (k.lst h))
  · exact .inl (.inr ⟨o, k _ _ (fun ps z => by cases z) h⟩)
  · exact .inr h
/-- points as they lie -/
def PL (H : Hp) (vs : List V) (pt : Nat → Int × Int) : Prop := ∀ i v, vs[i]? = some v → ∃ a, v = .ref a ∧ H a = some (.tup [.int (pt i).1, .int (pt i).2])
theorem PL.kp {H H' : Hp} {vs : List V} {pt : Nat → Int × Int} (h : PL H vs pt) (k : Kp H H') : PL H' vs pt := fun i v e => by
  obtain ⟨a, e1, e2⟩ := h i v e
  exact ⟨a, e1, k.tup e2⟩
def OkP (q : Int × Int) : Prop := 1 ≤ q.2 ∧ Sm 150 q.1 ∧ Sm 150 q.2
theorem tab_kp {T : Addr} {pos : Pos} {q : Str} {H H' : Hp} (h : TabOk T pos q H) (s : Same H H') : TabOk T pos q H' := by
  rcases h with h | ⟨c, h1, h2⟩
  · exact .inl (s _ _ h)
  · exact .inr ⟨c, s _ _ h1, s _ _ h2⟩
theorem tab_wr {T p : Addr} {pos : Pos} {q : Str} {H : Hp} {xs : List V} {o : HO} (h : TabOk T pos q H) (hp : H p = some (.lst xs)) : TabOk T pos q (L2.upd H p o) := by
  rcases h with h | ⟨c, h1, h2⟩
  · exact .inl (by rw [upd_ne (fun z => by rw [z, hp] at h; cases h)]; exact h)
  · exact .inr ⟨c, by rw [upd_ne (fun z => by rw [z, hp] at h1; cases h1)]; exact h1, by rw [upd_ne (fun z => by rw [z, hp] at h2; cases h2)]; exact h2⟩
theorem tab_at {T : Addr} {pos : Pos} {q : Str} {H : Hp} (h : TabOk T pos q H) : ∃ ps, H T = some (.tbl ps) := by
  rcases h with h | ⟨c, h, _⟩
  · exact ⟨_, h⟩
  · exact ⟨_, h⟩
abbrev lamPos : Pos := ⟨15, 30, 15, 72⟩
abbrev lamQ : Str := ("ordered" : Str) ++ ".<locals>." ++ "<lambda>"
def lamOf : Stmt → Expr
  | .Return (some (.Call _ _ [⟨_, l, _⟩] _)) _ => l
  | _ => .Constant .none 0 ⟨0, 0, 0, 0⟩
def lamA : Expr → Arguments
  | .Lambda a _ _ _ => a
  | _ => ⟨[], [], none, [], [], none, []⟩
def lamB : Expr → Expr
  | .Lambda _ b _ _ => b
  | e => e
abbrev theLam : Expr := lamOf ((defBody s_ordered).getD 3 (.Pass ⟨0, 0, 0, 0⟩))
theorem lam_free {x y z : Str} (h : ([(x, NameKind.local), (y, NameKind.free)] : List (Str × NameKind)).lookup z = some .free) : z = y := by
  rw [List.lookup_cons] at h
  split at h
  · cases h
  · rw [List.lookup_cons] at h
    split at h
    · rename_i e
      simpa using e
    · cases h
def spOrd (K : PySem.W.Frag) (T C : Addr) : Sp := fun vs H Q E => ∃ (p : Addr) (xs : List V) (pt : Nat → Int × Int), vs = [.ref p] ∧ SqL K H p xs ∧ PL H xs pt ∧ TabOk T lamPos lamQ H ∧
  (((∀ i, i < xs.length → OkP (pt i)) ∧ xs.length < 64 ∧ ∀ (l : Addr) (il : List Nat) (H' : Hp), Kp H H' → TabOk T lamPos lamQ H' → H l = none → il.Perm (List.range xs.length) → il.Pairwise (Wor pt) → H' l = some (.lst (il.map fun i => xs.getD i .non)) → Q (.ref l) H') ∨
   ((∃ i, i < xs.length ∧ (pt i).2 < 1) ∧ E (.ref C) none H))
theorem ok_ord {f : Addr} {fd : FuncData} {cO TT : Addr} (F : FunT K "ordered" s_ordered cO f fd) (T : Txt K mg C_BadBottom) (hB : BMain mg base) (hC : PySem.W.codeHdIn K cO TT = true) (c_check_bottom : Cal P w K mg base "check_bottom" 1 (spCheck C_BadBottom)) :
    FnOk P w K mg base (CXE P w) 6 f fd ["points"] (spOrd K TT C_BadBottom) := by
  have sc := sc_ordered
  have lsc : LamSc "point" "scale" ⟨.function, [("point", .local), ("scale", .free)], false, false, []⟩ := ⟨rfl, rfl, rfl, rfl, rfl, by decide, fun z h => lam_free h, by decide⟩
  refine F.okX sc (fun vs H Q E h => by obtain ⟨p, xs, pt, rfl, _⟩ := h; rfl) (fun A outer s H vs Q E hr h => ?_)
  obtain ⟨p, xs, pt, rfl, hS, hP, hT, hor⟩ := h
  refine ⟨_, (pss_cons (ps_for PassesOwn.leaving rfl (pi_list (pv 0)) (pg_name (i := 1) sc.nd rfl (by walk_at "loc")) (pss_one (ps_expr (pe_callC c_check_bottom (hr.mono (by decide)) rfl passE_def (pa_cons (pe_ix ix_tup (pv 1) pe_int (fun _ _ => rfl)) pa_nil)))))
      (pss_cons (ps_set (i := 2) sc.nd rfl (by walk_at "loc") (pe_callBK (call_maxD rfl) rfl T.max_ PyProof.Rows.boot_max (pa_cons (pe_comp (M := []) rfl rfl (by walk_at "cap") (by walk_at "has") (by walk_at "cix") rfl (by decide +kernel) rfl (show List.Nodup (["point"] : List Str) by decide +kernel) (pi_list (pv 0)) (fun _ _ _ _ _ => (pe_ix (ix_tupK (K := K) rfl) (pv 0) pe_int (fun _ _ => rfl)))) pa_nil) (pk_cons pe_int pk_nil)))
      (pss_cons (ps_set (i := 3) sc.nd rfl (by walk_at "loc") (pe_op op_mulX (pv 2) (pv 2)))
      (pss_one (ps_ret (pe_callBKS (call_sortedL (k := 0) (params := lamA theLam) (body := lamB theLam) (qual := lamQ) (pm := (mg "__name__").getD .none) (x := "point") (y := "scale") (iy := 3) lsc (hr.mono (by decide)) rfl rfl rfl rfl (by intro _ _ _; rfl) (fun _ _ _ _ _ _ _ => (pe_op op_fdivX (pe_op op_mulX (pe_ix (ix_tupK (K := K) rfl) (pv 0) pe_int (fun _ _ => rfl)) (pv 1)) (pe_ix (ix_tupK (K := K) rfl) (pv 0) pe_int (fun _ _ => rfl))))) rfl T.sorted_ PyProof.Rows.boot_sorted (pa_cons (pv 0) pa_nil) (pk_cons (pe_lam hB rfl hC rfl rfl) pk_nil))))))), ?_⟩
  refine ⟨_, rfl, p, rfl, ⟨_, hS⟩, for_list (K := K) (a := p) (xs := xs) (fun i σ H1 => H1 = H ∧ (∀ j, j < i → 1 ≤ (pt j).2) ∧ ∃ z, σ = [some (.ref p), z, none, none]) ⟨rfl, fun j h => absurd h (by omega), _, rfl⟩ ?_ ?_ ?_⟩
  · rintro i σ H1 _ ⟨rfl, _, _, _⟩
    exact hS
  · rintro i y σ H1 hy ⟨rfl, hn, z, rfl⟩
    obtain ⟨a, rfl, fa⟩ := hP i y hy
    have hi : i < xs.length := (List.getElem?_eq_some_iff.mp hy).1
    refine ⟨_, rfl, _, _, _, _, rfl, rfl, SqT.of fa, rfl, _, rfl, fun h1 => ⟨rfl, fun j hj => ?_, _, rfl⟩, fun h2 => ?_⟩
    · by_cases e : j = i
      · rw [e]; exact h1
      · exact hn j (by omega)
    · rcases hor with ⟨hok, _⟩ | ⟨_, hx⟩
      · exact absurd (hok i hi).1 (by omega)
      · exact hx
  · rintro σ H1 ⟨rfl, hn, z, rfl⟩
    rcases hor.symm with ⟨⟨i, hi, h1⟩, _⟩ | ⟨hok, h64, k⟩
    · exact absurd (hn i hi) (by omega)
    refine ⟨_, rfl, p, rfl, ⟨_, hS⟩, comp_listR (K := K) (a := p) (xs := xs) (fun j v _ => v = .int (pt j).2) (fun i v H H' p g _ _ => g) hS (by omega) (fun i x H2 R hx hs hR => ?_) fun p2 ys H2 np2 s2 f2 hl2 hG2 => ?_⟩
    · obtain ⟨a, rfl, fa⟩ := hP i x hx
      exact ⟨_, rfl, _, _, _, _, rfl, rfl, SqT.of (hs _ _ fa), rfl, hR _ _ (Same.refl _) rfl fun b e => nomatch e⟩
    have ey : ys = ((List.range xs.length).map fun j => (pt j).2).map V.int := by
      refine List.ext_getElem? fun j => ?_
      rw [List.map_map, List.getElem?_map]
      by_cases hj : j < xs.length
      · rw [List.getElem?_range hj]
        have e : ys[j]? = some ys[j] := List.getElem?_eq_getElem (by omega)
        rw [e, (hG2 j _ e).1]
        rfl
      · rw [List.getElem?_eq_none (by omega), List.getElem?_eq_none (by rw [List.length_range]; omega)]
        rfl
    rw [ey] at f2
    refine ⟨p2, _, 1, rfl, rfl, SqL.of f2, fun G hG1 hG2 => ?_⟩
    have gb : ∀ i, i < xs.length → (pt i).2 ≤ G := fun i hi => hG1 _ (List.mem_map.mpr ⟨i, List.mem_range.mpr hi, rfl⟩)
    have gs : Sm 150 G := by
      rcases hG2 with h | ⟨_, h⟩
      · obtain ⟨i, hi, rfl⟩ := List.mem_map.mp h
        exact (hok i (List.mem_range.mp hi)).2.2
      · rw [h]; unfold Sm; decide +kernel
    refine ⟨_, rfl, _, rfl, _, _, rfl, rfl, gs.ok gs (by decide), ?_⟩
    refine ⟨_, rfl, tab_kp hT s2, fun g c' ctv H3 kT tA ng fg => ?_⟩
    obtain ⟨ps, hps⟩ := tab_at (tab_kp hT s2)
    have k3 : Kp H2 H3 := Kp.ofT hps kT
    have k13 : Kp H1 H3 := (Kp.of s2).trans k3
    have P3 := hP.kp k13
    refine ⟨p, xs, (List.range xs.length).map (fun i => keyP (G * G) (pt i)), g, c', ctv, .int (G * G), rfl, rfl, k13.sql hS, h64, by rw [List.length_map, List.length_range], fg, tA.2, rfl, fun i v hv => ?_, fun l il nl st => ?_⟩
    · obtain ⟨a, rfl, fa⟩ := P3 i v hv
      have hi : i < xs.length := (List.getElem?_eq_some_iff.mp hv).1
      obtain ⟨o1, o2, o3⟩ := hok i hi
      refine ⟨_, rfl, _, _, _, _, rfl, rfl, SqT.of fa, rfl, _, rfl, _, _, rfl, rfl, o2.ok (gs.mul gs) (by decide), _, rfl, _, _, _, _, rfl, rfl, SqT.of fa, rfl, _, _, rfl, rfl, ⟨by omega, o3.mono (by decide)⟩, ?_, rfl⟩
      rw [List.getD_eq_getElem?_getD, List.getElem?_map, List.getElem?_range hi]
      rfl
    · have hlT : ∀ ps, H1 l = some (.tbl ps) → False := fun ps e => by
        obtain ⟨ps2, e2⟩ := tab_at hT
        have : H3 l = none := nl
        by_cases h : l = TT
        · rw [h, tA.1] at this; cases this
        · rw [kT l _ h (s2 _ _ e)] at this; cases this
      have n1 : H1 l = none := k13.none hlT nl
      refine k l il _ (k13.upd n1) (tab_kp (.inr ⟨c', tA⟩) (Same.upd nl)) n1 st.1 ?_ upd_same
      refine st.2.imp_of_mem fun {i j} hi hj h => ?_
      have hi' : i < xs.length := List.mem_range.mp (st.1.mem_iff.mp hi)
      have hj' : j < xs.length := List.mem_range.mp (st.1.mem_iff.mp hj)
      have e : ∀ i, i < xs.length → ((List.range xs.length).map fun i => keyP (G * G) (pt i)).getD i 0 = keyP (G * G) (pt i) := fun i h => by
        rw [List.getD_eq_getElem?_getD, List.getElem?_map, List.getElem?_range h]; rfl
      rw [e i hi', e j hj'] at h
      exact wor_of (hok i hi').1 (hok j hj').1 (gb i hi') (gb j hj') h
end

section
variable {P : Program} {w : World} {K : PySem.W.Frag} {mg : Str → Option Value} {base : Heap} {C_BadBottom : Addr}
def spPairs : Sp := fun vs H Q _ => ∃ (p : Addr) (xs : List V) (pt : Nat → Int × Int), vs = [.ref p] ∧ H p = some (.lst xs) ∧ PL H xs pt ∧ Q (.bl true) H
theorem ok_pairs {f : Addr} {fd : FuncData} (F : Fun K "_law_pairs" "_law_pairs" s__law_pairs f fd) (T : Txt K mg C_BadBottom) (c__law_whole : Cal P w K mg base "_law_whole" 1 spWhole) : FnOk P w K mg base (CXE P w) 2 f fd ["_law_found"] spPairs := by
  have sc := sc__law_pairs
  refine F.okX sc (fun vs H Q E h => by obtain ⟨p, xs, pt, rfl, _⟩ := h; rfl) (fun cdv A outer s H vs Q E hr h => ?_)
  obtain ⟨p, xs, pt, rfl, hp, hP, k⟩ := h
  refine ⟨_, (pss_cons (ps_if (pt_not (pt_val (pe_callB call_isinst rfl T.isinstance_ PyProof.Rows.boot_isinstance (pa_cons (pv 0) (pa_cons (pe_bltn (v := V.ty "list") rfl T.list_ PyProof.Rows.boot_list rfl) pa_nil))))) (pss_one (ps_ret pe_bl)) pss_nil)
      (pss_cons (ps_for PassesOwn.leaving rfl (pi_list (pv 0)) (pg_name (i := 1) sc.nd rfl (by walk_at "loc")) (pss_one (ps_if (PW.pt (pw_or (pt_not (pt_val (pe_callB call_isinst rfl T.isinstance_ PyProof.Rows.boot_isinstance (pa_cons (pv 1) (pa_cons (pe_bltn (v := V.ty "tuple") rfl T.tuple_ PyProof.Rows.boot_tuple rfl) pa_nil))))) (pw_or (pt_cmpR op_ne (pe_callB call_len_seq rfl T.len_ PySem.boot_len (pa_cons (pv 1) pa_nil)) pe_int (nomark _)) (pw_or (pt_not (pt_val (pe_callC c__law_whole (hr.mono (by decide)) rfl passE_def (pa_cons (pe_ix ix_tup (pv 1) pe_int (fun _ _ => rfl)) pa_nil)))) (pw_or1 (pt_not (pt_val (pe_callC c__law_whole (hr.mono (by decide)) rfl passE_def (pa_cons (pe_ix ix_tup (pv 1) pe_int (fun _ _ => rfl)) pa_nil))))))))) (pss_one (ps_ret pe_bl)) pss_nil)))
      (pss_one (ps_ret pe_bl)))), ?_⟩
  refine ⟨_, rfl, _, _, _, _, rfl, TyOf.lst hp, rfl, _, rfl, ?_⟩
  refine iteF ?_
  refine ⟨_, rfl, p, rfl, ⟨_, SqL.of hp⟩, for_list (K := K) (a := p) (xs := xs) (fun i σ H1 => H1 = H ∧ ∃ z, σ = [some (.ref p), z]) ⟨rfl, _, rfl⟩ ?_ ?_ ?_⟩
  · rintro i σ H1 _ ⟨rfl, _, _⟩
    exact SqL.of hp
  · rintro i y σ H1 hy ⟨rfl, z, rfl⟩
    obtain ⟨a, rfl, fa⟩ := hP i y hy
    refine ⟨_, rfl, _, _, _, _, rfl, TyOf.tup fa, rfl, _, rfl, ?_⟩
    refine iteF ?_
    refine ⟨_, rfl, _, _, rfl, .inr (SqT.of fa), rfl, _, rfl, iteNDV (fun z => absurd rfl z) (fun _ => ?_)⟩
    refine ⟨_, rfl, _, _, _, _, rfl, rfl, SqT.of fa, rfl, _, rfl, _, rfl, ?_⟩
    refine iteF ?_
    refine ⟨_, rfl, _, _, _, _, rfl, rfl, SqT.of fa, rfl, _, rfl, _, rfl, ?_⟩
    refine iteF ?_
    exact ⟨rfl, _, rfl⟩
  · rintro σ H1 ⟨rfl, z, rfl⟩
    exact k
theorem cut_take (xs : List V) {m : Nat} (h : m ≤ xs.length) : cutV xs none (some (m : Int)) = xs.take m := by
  unfold cutV
  rw [HT.sIx_none, HT.sIx_nat, List.drop_zero, Nat.sub_zero, Nat.min_eq_left h]
theorem cut_drop (xs : List V) {m : Nat} (h : m ≤ xs.length) : cutV xs (some (m : Int)) none = xs.drop m := by
  unfold cutV
  rw [HT.sIx_none, HT.sIx_nat, Nat.min_eq_left h, List.take_of_length_le (by rw [List.length_drop]; omega)]
theorem at_pre {xs : List V} {m : Nat} {v : V} (h1 : 1 ≤ m) (e : xs[m - 1]? = some v) : atI xs ((m : Int) - 1) = some v := by
  have := atI_nat e
  rwa [show ((m - 1 : Nat) : Int) = (m : Int) - 1 by omega] at this
def Lt (q r : Int × Int) : Prop := q.1 * r.2 < r.1 * q.2
def spPut : Sp := fun vs H Q _ => ∃ (p a : Addr) (xs : List V) (pt : Nat → Int × Int) (q : Int × Int), vs = [.ref p, .ref a] ∧ H p = some (.lst xs) ∧ PL H xs pt ∧ H a = some (.tup [.int q.1, .int q.2]) ∧ (∀ i, i < xs.length → OkP (pt i)) ∧ OkP q ∧ xs.length ≤ 100 ∧
  ∀ (l : Addr) (m : Nat) (H' : Hp), m ≤ xs.length → (∀ i, m ≤ i → i < xs.length → Lt q (pt i)) → (1 ≤ m → ¬ Lt q (pt (m - 1))) → Same H H' → H l = none → H' l = some (.lst (xs.take m ++ [.ref a] ++ xs.drop m)) → Q (.ref l) H'
theorem ok_put {f : Addr} {fd : FuncData} (F : Fun K "_law_put" "_law_put" s__law_put f fd) (T : Txt K mg C_BadBottom) : FnOk P w K mg base (CXE P w) 1 f fd ["_law_row", "_law_pair"] spPut := by
  have sc := sc__law_put
  refine F.okX sc (fun vs H Q E h => by obtain ⟨p, a, xs, pt, q, rfl, _⟩ := h; rfl) (fun cdv A outer s H vs Q E hr h => ?_)
  obtain ⟨p, a, xs, pt, q, rfl, hp, hP, ha, hok, hq, hl, k⟩ := h
  refine ⟨_, (pss_cons (ps_set (i := 2) sc.nd rfl (by walk_at "loc") (pe_callB call_len_seq rfl T.len_ PySem.boot_len (pa_cons (pv 0) pa_nil)))
      (pss_cons (ps_while PassesOwn.leaving (PW.pt (pw_and (pt_cmpR op_gt (pv 2) pe_int (nomark _)) (pw_and1 (pt_cmpR op_lt (pe_op op_mulX (pe_ix ix_tup (pv 1) pe_int (fun _ _ => rfl)) (pe_ix ix_tup (pe_ix ix_list (pv 0) (pe_op op_sub (pv 2) pe_int) (fun _ _ => rfl)) pe_int (fun _ _ => rfl))) (pe_op op_mulX (pe_ix ix_tup (pe_ix ix_list (pv 0) (pe_op op_sub (pv 2) pe_int) (fun _ _ => rfl)) pe_int (fun _ _ => rfl)) (pe_ix ix_tup (pv 1) pe_int (fun _ _ => rfl))) (nomark _))))) (pss_one (ps_aug (i := 2) sc.nd rfl (Or.inl rfl) pe_int ip_sub)))
      (pss_one (ps_ret (pe_op op_cat (pe_op op_cat (pe_slice sl_list (pv 0) po_none (po_some (pv 2))) (pe_lst (pa_cons (pv 1) pa_nil))) (pe_slice sl_list (pv 0) (po_some (pv 2)) po_none)))))), ?_⟩
  refine ⟨_, rfl, _, _, rfl, .inl (SqL.of hp), ?_⟩
  refine ⟨fun m σ H1 => H1 = H ∧ m ≤ xs.length ∧ (∀ i, m ≤ i → i < xs.length → Lt q (pt i)) ∧ σ = [some (.ref p), some (.ref a), some (.int m)], ⟨xs.length, rfl, Nat.le_refl _, fun i h1 h2 => absurd h1 (by omega), rfl⟩, ?_⟩
  rintro m σ H1 ⟨rfl, hm, hlt, rfl⟩
  have done : (1 ≤ m → ¬ Lt q (pt (m - 1))) → ∀ (Q' : VK), (∀ l H', Same H1 H' → H1 l = none → H' l = some (.lst (xs.take m ++ [.ref a] ++ xs.drop m)) → Q' (.ref l) H') →
      (tOp rCat (tOp rCat (tSl (rSlL K) (tVar 0) tNoPart (tPart (tVar 2))) (tLst (tCons (tVar 1) tNil))) (tSl (rSlL K) (tVar 0) (tPart (tVar 2)) tNoPart)) [some (.ref p), some (.ref a), some (.int m)] H1 Q' := fun hfin Q' hQ => by
    refine ⟨_, rfl, _, rfl, _, rfl, p, _, rfl, SqL.of hp, fun p1 n1 => ?_⟩
    rw [cut_take xs hm]
    have s1 := Same.upd (o := .lst (xs.take m)) n1
    refine ⟨_, rfl, sz1, fun p2 n2 => ?_⟩
    have s2 := Same.upd (o := .lst [.ref a]) n2
    refine ⟨p1, p2, xs.take m, [.ref a], rfl, rfl, s2 _ _ upd_same, upd_same, Nat.le_of_lt (small1000 (n := (xs.take m).length + 1) (by rw [List.length_take]; omega)), fun p3 n3 => ?_⟩
    have s3 := Same.upd (o := .lst (xs.take m ++ [.ref a])) n3
    have t3 := s1.trans (s2.trans s3)
    refine ⟨_, rfl, _, rfl, _, rfl, p, _, rfl, SqL.of (t3 _ _ hp), fun p4 n4 => ?_⟩
    rw [cut_drop xs hm]
    have s4 := Same.upd (o := .lst (xs.drop m)) n4
    refine ⟨p3, p4, _, xs.drop m, rfl, rfl, s4 _ _ upd_same, upd_same, Nat.le_of_lt (small1000 (n := (xs.take m ++ [V.ref a]).length + (xs.drop m).length) (by rw [List.length_append, List.length_take, List.length_drop, List.length_singleton]; omega)), fun p5 n5 => ?_⟩
    refine hQ p5 _ (t3.trans (s4.trans (Same.upd n5))) ?_ upd_same
    cases e : H1 p5 with
    | none => rfl
    | some o => rw [(t3.trans s4) _ _ e] at n5; cases n5
  refine ⟨_, rfl, _, _, rfl, rfl, _, rfl, iteD (fun q1 => ?_) (fun q1 => iteF ?_)⟩
  · have m1 : 1 ≤ m := by omega
    have hm1 : m - 1 < xs.length := by omega
    obtain ⟨r, er, fr⟩ := hP (m - 1) _ (List.getElem?_eq_getElem hm1)
    have hat := at_pre (v := .ref r) m1 (by rw [List.getElem?_eq_getElem hm1, er])
    obtain ⟨o1, o2, o3⟩ := hok (m - 1) hm1
    refine ⟨_, rfl, _, _, _, _, rfl, rfl, SqT.of ha, rfl, _, rfl, _, rfl, _, _, rfl, rfl, _, _, _, _, rfl, rfl, SqL.of hp, hat, _, _, _, _, rfl, rfl, SqT.of fr, rfl, _, _, rfl, rfl, hq.2.1.ok o3 (by decide), ?_⟩
    refine ⟨_, rfl, _, rfl, _, _, rfl, rfl, _, _, _, _, rfl, rfl, SqL.of hp, hat, _, _, _, _, rfl, rfl, SqT.of fr, rfl, _, rfl, _, _, _, _, rfl, rfl, SqT.of ha, rfl, _, _, rfl, rfl, o2.ok hq.2.2 (by decide), ?_⟩
    refine ⟨_, _, rfl, rfl, _, rfl, ?_⟩
    refine iteD (fun q2 => ?_) (fun q2 => ?_)
    · refine ⟨fun σ' H' => H' = H1 ∧ σ' = [some (.ref p), some (.ref a), some (.int ((m : Int) - 1))], fun σ' H' ⟨e1, e2⟩ => ⟨m - 1, by omega, e1, by omega, fun i h1 h2 => ?_, ?_⟩, _, rfl, _, _, rfl, rfl, rfl, rfl⟩
      · by_cases e : i = m - 1
        · rw [e]; exact q2
        · exact hlt i (by omega) h2
      · rw [e2, show ((m - 1 : Nat) : Int) = (m : Int) - 1 by omega]
    · exact done (fun _ => q2) _ fun l H' s n e => k l m H' hm hlt (fun _ => q2) s n e
  · exact done (fun z => absurd z (by omega)) _ fun l H' s n e => k l m H' hm hlt (fun z => absurd z (by omega)) s n e
end

section
variable {P : Program} {w : World} {K : PySem.W.Frag} {mg : Str → Option Value} {base : Heap} {C_BadBottom : Addr}
theorem lay_ptl (ps : List (Int × Int)) : (PyData.list (ps.map ptD)).canLay0 = true := by
  rw [PyData.canLay0]
  exact lay_pts ps
theorem dep_ptl (ps qs : List (Int × Int)) : min (PyData.list (ps.map ptD)).depth (PyData.list (qs.map ptD)).depth ≤ 60 := by
  have h1 := dep_pts ps
  simp only [PyData.depth]
  omega
theorem dec_ptl (ps : List (Int × Int)) : PyData.eqv (.list (ps.map ptD)) (.list (ps.map ptD)) = true := by
  rw [PyData.eqv, eqv_pts, decide_eq_true rfl]
theorem rds_pl {K : PySem.W.Frag} {H : Hp} : ∀ (vs : List V) (pt : Nat → Int × Int), PL H vs pt → RDs K H (((List.range vs.length).map pt).map ptD) vs
  | [], pt, _ => by rw [List.length_nil, List.range_zero, List.map_nil, List.map_nil, RDs]
  | v :: r, pt, h => by
    obtain ⟨a, rfl, fa⟩ := h 0 v rfl
    have e := rds_pl (K := K) r (pt ∘ Nat.succ) fun i w e => h (i + 1) w e
    rw [List.length_cons, List.range_succ_eq_map, List.map_cons, List.map_cons, List.map_map (g := pt), RDs]
    exact ⟨_, _, rfl, rd_pt (SqT.of fa), e⟩
theorem rd_pl {K : PySem.W.Frag} {H : Hp} {l : Addr} {vs : List V} {pt : Nat → Int × Int} (h : PL H vs pt) (f : H l = some (.lst vs)) : RD K H (.list (((List.range vs.length).map pt).map ptD)) (.ref l) := by
  rw [RD]
  exact ⟨l, _, rfl, SqL.of f, rds_pl vs pt h⟩
theorem PL.wr {H : Hp} {p : Addr} {xs vs : List V} {pt : Nat → Int × Int} {o : HO} (h : PL H vs pt) (hp : H p = some (.lst xs)) : PL (L2.upd H p o) vs pt := fun i v e => by
  obtain ⟨a, e1, e2⟩ := h i v e
  refine ⟨a, e1, ?_⟩
  rw [upd_ne (fun z => by rw [z, hp] at e2; cases e2)]
  exact e2
theorem PL.set {H : Hp} {vs : List V} {pt : Nat → Int × Int} {j : Nat} {a : Addr} {q : Int × Int} (h : PL H vs pt) (fa : H a = some (.tup [.int q.1, .int q.2])) : PL H (vs.set j (.ref a)) (fun i => if i = j then q else pt i) := fun i v e => by
  rw [List.getElem?_set] at e
  by_cases c : j = i
  · subst c
    rw [if_pos rfl] at e
    split at e
    · cases e
      exact ⟨a, rfl, by simp only [if_true]; exact fa⟩
    · cases e
  · rw [if_neg c] at e
    simp only [if_neg (fun z : i = j => c z.symm)]
    exact h i v e
theorem PL.snoc {H : Hp} {vs : List V} {pt : Nat → Int × Int} {a : Addr} {q : Int × Int} (h : PL H vs pt) (fa : H a = some (.tup [.int q.1, .int q.2])) : PL H (vs ++ [.ref a]) (fun i => if i = vs.length then q else pt i) := fun i v e => by
  by_cases c : i < vs.length
  · rw [List.getElem?_append_left c] at e
    simp only [if_neg (show ¬ i = vs.length by omega)]
    exact h i v e
  · rw [List.getElem?_append_right (by omega)] at e
    by_cases c2 : i = vs.length
    · subst c2
      rw [Nat.sub_self] at e
      cases e
      exact ⟨a, rfl, by simp only [if_true]; exact fa⟩
    · rw [List.getElem?_eq_none (by rw [List.length_singleton]; omega)] at e
      cases e
/-- the points so far -/
def LI (a p : Addr) (sz : Int) (H0 : Hp) (k n : Nat) (kv : Option V) : St → Hp → Prop := fun σ H' => ∃ (vs : List V) (pt : Nat → Int × Int) (z4 : Option V), σ = [some (.ref a), some (.int sz), some (.ref p), kv, z4, none, none, none, none, none, none] ∧
  Same H0 H' ∧ H' p = some (.lst vs) ∧ vs.length = k ∧ PL H' vs pt ∧ (∀ i, i < k → OkP (pt i)) ∧ (1 ≤ k → Sm n (pt 0).1 ∧ Sm n (pt 0).2)
theorem li_set {a p a' : Addr} {sz : Int} {H0 H' : Hp} {j n : Nat} {kv z4 : Option V} {vs : List V} {pt : Nat → Int × Int} {q : Int × Int} (np : H0 p = none) (s : Same H0 H') (f : H' p = some (.lst vs)) (l : vs.length = j + 1) (hP : PL H' vs pt) (ok : ∀ i, i < j + 1 → OkP (pt i))
    (fa : H' a' = some (.tup [.int q.1, .int q.2])) (hq : OkP q) (h0 : j = 0 → Sm n q.1 ∧ Sm n q.2) (h1 : j ≠ 0 → Sm n (pt 0).1 ∧ Sm n (pt 0).2) :
    LI a p sz H0 (j + 1) n kv [some (.ref a), some (.int sz), some (.ref p), kv, z4, none, none, none, none, none, none] (L2.upd H' p (.lst (vs.set j (.ref a')))) := by
  refine ⟨_, fun i => if i = j then q else pt i, _, rfl, Same.upd2 s np, upd_same, by rw [List.length_set]; exact l, (hP.set fa).wr f, fun i hi => ?_, fun _ => ?_⟩
  · by_cases c : i = j
    · simp only [if_pos c]; exact hq
    · simp only [if_neg c]; exact ok i hi
  · by_cases c : 0 = j
    · simp only [if_pos c]; exact h0 c.symm
    · simp only [if_neg c]; exact h1 fun z => c z.symm
theorem last_ix {n : Nat} (h : 1 ≤ n) : ixN n (-1) = some (n - 1) := by
  unfold ixN
  rw [if_neg (by decide), if_pos (by omega)]
  congr 1
  omega
/-- the bound on the first point, within a turn -/
def fb (j n : Nat) : Nat := if j = 0 then n else 140
theorem pow40 : (0 : Int) < (10 : Int) ^ (40 : Int).toNat := by decide +kernel
theorem sm40 {i : Int} (h1 : 0 ≤ i) (h2 : i ≤ (10 : Int) ^ (40 : Int).toNat) : Sm 140 i := by
  have : ((10 : Int) ^ (40 : Int).toNat).natAbs < 2 ^ 140 := by decide +kernel
  unfold Sm
  omega
theorem sm10 {i : Int} (h1 : -1000 ≤ i) (h2 : i ≤ 1000) : Sm 10 i := by
  unfold Sm
  omega
theorem sm_two {n : Nat} {i : Int} (h : Sm n i) : Sm (n + 2) (i * 2) := h.mul (by unfold Sm; decide)
def spLawT (K : PySem.W.Frag) (TT : Addr) : Sp := fun vs H Q _ => ∃ (a : Addr) (ns : List Int), vs = [.ref a] ∧ SqL K H a (ns.map V.int) ∧ ns.length ≤ 63 ∧ H TT = some (.tbl #[]) ∧ ∀ H', Q (.bl true) H'
/-- arranged places of arranged points: the next point put in -/
theorem due_put {pt : Nat → Int × Int} {il : List Nat} {n m : Nat} (hb : ∀ i, 1 ≤ (pt i).2) (hp : il.Perm (List.range n)) (ho : il.Pairwise (Wor pt)) (hm : m ≤ il.length) (h1 : ∀ i, m ≤ i → i < il.length → Lt (pt n) (pt (il.getD i 0))) (h2 : 1 ≤ m → ¬ Lt (pt n) (pt (il.getD (m - 1) 0))) :
    (il.take m ++ [n] ++ il.drop m).Perm (List.range (n + 1)) ∧ (il.take m ++ [n] ++ il.drop m).Pairwise (Wor pt) := by
  have gd : ∀ i (h : i < il.length), il.getD i 0 = il[i] := fun i h => by rw [List.getD_eq_getElem?_getD, List.getElem?_eq_getElem h]; rfl
  refine wor_put hb hp ho (fun i hi => ?_) fun i hi => ?_
  · obtain ⟨r, hr, rfl⟩ := List.getElem_of_mem hi
    have hr' : r < m := by rw [List.length_take] at hr; omega
    have hm1 : m - 1 < il.length := by omega
    rw [List.getElem_take]
    have h2' := h2 (by omega)
    rw [gd _ hm1] at h2'
    unfold Lt at h2'
    by_cases c : r = m - 1
    · subst c; omega
    · have hw := List.pairwise_iff_getElem.mp ho r (m - 1) (by omega) hm1 (by omega)
      refine wor_trans (j := il[m - 1]) (hb _) (hb _) (hb _) ?_ (by omega)
      unfold Wor at hw
      omega
  · obtain ⟨r, hr, rfl⟩ := List.getElem_of_mem hi
    rw [List.length_drop] at hr
    rw [List.getElem_drop]
    have := h1 (m + r) (by omega) (by omega)
    rw [gd _ (by omega)] at this
    exact this
theorem PL.pick {H : Hp} {vs : List V} {pt : Nat → Int × Int} (h : PL H vs pt) {il : List Nat} (hin : ∀ i ∈ il, i < vs.length) : PL H (il.map fun i => vs.getD i .non) (fun j => pt (il.getD j 0)) := fun j v e => by
  rw [List.getElem?_map] at e
  cases q : il[j]? with
  | none => rw [q] at e; cases e
  | some i =>
    rw [q] at e
    have hi : i < vs.length := hin i (List.mem_of_getElem? q)
    have ev : vs[i]? = some v := by
      rw [← Option.some.inj e]
      show vs[i]? = some (vs.getD i .non)
      rw [List.getD_eq_getElem?_getD, List.getElem?_eq_getElem hi]; rfl
    have ej : il.getD j 0 = i := by rw [List.getD_eq_getElem?_getD, q]; rfl
    show ∃ a, v = .ref a ∧ H a = some (.tup [.int (pt (il.getD j 0)).1, .int (pt (il.getD j 0)).2])
    rw [ej]
    exact h i v ev
theorem pick_put {vs : List V} {il : List Nat} {n m : Nat} {a : Addr} (h : vs[n]? = some (.ref a)) : (il.map fun i => vs.getD i .non).take m ++ [.ref a] ++ (il.map fun i => vs.getD i .non).drop m = (il.take m ++ [n] ++ il.drop m).map fun i => vs.getD i .non := by
  rw [List.map_append, List.map_append, List.map_take, List.map_drop, List.map_cons, List.map_nil]
  have : vs.getD n .non = .ref a := by rw [List.getD_eq_getElem?_getD, h]; rfl
  rw [this]
end

section
variable {P : Program} {w : World} {K : PySem.W.Frag} {mg : Str → Option Value} {base : Heap} {C_BadBottom : Addr}
theorem last_ix1 {j : Nat} : ixN (j + 1) (-1) = some j := last_ix (n := j + 1) (by omega)
theorem first_at {H : Hp} {vs : List V} {pt : Nat → Int × Int} (h : PL H vs pt) (l : 1 ≤ vs.length) : ∃ b, atI vs (0 : Int) = some (.ref b) ∧ H b = some (.tup [.int (pt 0).1, .int (pt 0).2]) := by
  have e : vs[0]? = some vs[0] := List.getElem?_eq_getElem (by omega)
  obtain ⟨b, eb, f⟩ := h 0 _ e
  refine ⟨b, ?_, f⟩
  have := atI_nat e
  rw [eb] at this
  exact this
theorem ite_ne {A B : Prop} {d e : PyData} (h : PyData.eqv d e = true) (k : B) : if (if true = true then !PyData.eqv d e else PyData.eqv d e) = true then A else B := by
  rw [h]
  exact k
theorem PL.put {H : Hp} {vs : List V} {pt : Nat → Int × Int} {t : Addr} {q : Int × Int} {m : Nat} (h : PL H vs pt) (ft : H t = some (.tup [.int q.1, .int q.2])) (hm : m ≤ vs.length) : PL H (vs.take m ++ [.ref t] ++ vs.drop m) (fun i => if i < m then pt i else if i = m then q else pt (i - 1)) := fun i v e => by
  have lt : (vs.take m).length = m := by rw [List.length_take]; omega
  by_cases c : i < m
  · simp only [if_pos c]
    rw [List.append_assoc, List.getElem?_append_left (by omega), List.getElem?_take_of_lt c] at e
    exact h i v e
  · simp only [if_neg c]
    rw [List.append_assoc, List.getElem?_append_right (by omega), lt] at e
    by_cases c2 : i = m
    · simp only [if_pos c2]
      rw [c2, Nat.sub_self] at e
      cases e
      exact ⟨t, rfl, ft⟩
    · simp only [if_neg c2]
      rw [List.getElem?_append_right (by rw [List.length_singleton]; omega), List.length_singleton, List.getElem?_drop, show m + (i - m - 1) = i - 1 by omega] at e
      exact h (i - 1) v e
theorem ok_law {f : Addr} {fd : FuncData} {TT : Addr} (F : Fun K "law" "law" s_law f fd) (T : Txt K mg C_BadBottom) (c__law_cell : Cal P w K mg base "_law_cell" 1 (spCell K)) (c__law_pick : Cal P w K mg base "_law_pick" 2 (spPick K)) (c__law_pairs : Cal P w K mg base "_law_pairs" 2 spPairs)
    (c__law_put : Cal P w K mg base "_law_put" 1 spPut) (c_ordered : Cal P w K mg base "ordered" 6 (spOrd K TT C_BadBottom)) : FnOk P w K mg base (CXE P w) 8 f fd ["_law_script"] (spLawT K TT) := by
  have sc := sc_law
  refine F.okX sc (fun vs H Q E h => by obtain ⟨a, ns, rfl, _⟩ := h; rfl) (fun cdv A outer s H vs Q E hr h => ?_)
  obtain ⟨a, ns, rfl, hS, hl, hT, k⟩ := h
  refine ⟨_, (pss_cons (ps_set (i := 1) sc.nd rfl (by walk_at "loc") (pe_callC c__law_pick (hr.mono (by decide)) rfl passE_def (pa_cons (pv 0) (pa_cons pe_int (pa_cons pe_int (pa_cons pe_int pa_nil))))))
      (pss_cons (ps_set (i := 2) sc.nd rfl (by walk_at "loc") (pe_lst pa_nil))
      (pss_cons (ps_for PassesOwn.leaving rfl (pi_range1 rfl T.range_ (pa_cons (pv 1) pa_nil)) (pg_name (i := 3) sc.nd rfl (by walk_at "loc")) (pss_cons (ps_expr (pe_bm PySem.F.plainAttrs_list PySem.F.slot_list_append PySem.F.type_list_append mt_append (pv 2) (pa_cons (pe_tup (pa_cons (pe_op op_sub (pe_callC c__law_pick (hr.mono (by decide)) rfl passE_def (pa_cons (pv 0) (pa_cons (pe_op op_add pe_int (pv 3)) (pa_cons pe_int (pa_cons pe_int pa_nil))))) pe_int) (pa_cons (pe_op op_add pe_int (pe_callC c__law_pick (hr.mono (by decide)) rfl passE_def (pa_cons (pv 0) (pa_cons (pe_op op_add pe_int (pv 3)) (pa_cons pe_int (pa_cons pe_int pa_nil)))))) pa_nil))) pa_nil)))
      (pss_cut (ps_if (pt_cmpR op_eq (pe_callC c__law_pick (hr.mono (by decide)) rfl passE_def (pa_cons (pv 0) (pa_cons (pe_op op_add pe_int (pv 3)) (pa_cons pe_int (pa_cons pe_int pa_nil))))) pe_int (nomark _)) (pss_one (ps_asg (pe_ix ix_list (pv 2) pe_int (fun _ _ => rfl)) (pg_sub (pv 2) (pe_un un_neg pe_int) set_list))) pss_nil)
      (pss_cut (ps_if (pt_cmpR op_eq (pe_callC c__law_pick (hr.mono (by decide)) rfl passE_def (pa_cons (pv 0) (pa_cons (pe_op op_add pe_int (pv 3)) (pa_cons pe_int (pa_cons pe_int pa_nil))))) pe_int (nomark _)) (pss_one (ps_asg (pe_tup (pa_cons (pe_op op_mulX (pe_ix ix_tup (pe_ix ix_list (pv 2) pe_int (fun _ _ => rfl)) pe_int (fun _ _ => rfl)) pe_int) (pa_cons (pe_op op_mulX (pe_ix ix_tup (pe_ix ix_list (pv 2) pe_int (fun _ _ => rfl)) pe_int (fun _ _ => rfl)) pe_int) pa_nil))) (pg_sub (pv 2) (pe_un un_neg pe_int) set_list))) pss_nil)
      (pss_one (ps_if (pt_cmpR op_eq (pe_callC c__law_pick (hr.mono (by decide)) rfl passE_def (pa_cons (pv 0) (pa_cons (pe_op op_add pe_int (pv 3)) (pa_cons pe_int (pa_cons pe_int pa_nil))))) pe_int (nomark _)) (pss_cons (ps_set (i := 4) sc.nd rfl (by walk_at "loc") (pe_op op_add pe_int (pe_op op_mod (pe_callC c__law_cell (hr.mono (by decide)) rfl passE_def (pa_cons (pv 0) (pa_cons pe_int pa_nil))) (pe_op op_pow pe_int pe_int))))
      (pss_one (ps_asg (pe_tup (pa_cons (pe_op op_add (pe_op op_fdivX (pv 4) pe_int) (pe_callC c__law_pick (hr.mono (by decide)) rfl passE_def (pa_cons (pv 0) (pa_cons (pe_op op_add pe_int (pv 3)) (pa_cons pe_int (pa_cons pe_int pa_nil)))))) (pa_cons (pv 4) pa_nil))) (pg_sub (pv 2) (pe_un un_neg pe_int) set_list)))) pss_nil))))))
      (pss_cons (ps_set (i := 5) sc.nd rfl (by walk_at "loc") (pe_lst pa_nil))
      (pss_cons (ps_for PassesOwn.leaving rfl (pi_list (pv 2)) (pg_name (i := 6) sc.nd rfl (by walk_at "loc")) (pss_one (ps_set (i := 5) sc.nd rfl (by walk_at "loc") (pe_callC c__law_put (hr.mono (by decide)) rfl passE_def (pa_cons (pv 5) (pa_cons (pv 6) pa_nil))))))
      (pss_cons (ps_set (i := 7) sc.nd rfl (by walk_at "loc") (pe_callTy call_list_of rfl T.list_ PyProof.Rows.boot_list (pa_cons (pv 2) pa_nil)))
      (pss_cons (ps_set (i := 8) sc.nd rfl (by walk_at "loc") (pe_callC c_ordered (hr.mono (by decide)) rfl passE_def (pa_cons (pv 7) pa_nil)))
      (pss_cons (ps_if (PW.pt (pw_or (pt_not (pt_val (pe_callC c__law_pairs (hr.mono (by decide)) rfl passE_def (pa_cons (pv 8) pa_nil)))) (pw_or (pt_cmpR (op_neD hr.units) (pv 8) (pv 5) (nomark _)) (pw_or1 (pt_cmpR (op_neD hr.units) (pv 7) (pv 2) (nomark _)))))) (pss_one (ps_ret pe_bl)) pss_nil)
      (pss_cons (ps_expr (pe_bm PySem.F.plainAttrs_list PySem.F.slot_list_append PySem.F.type_list_append mt_append (pv 8) (pa_cons (pe_tup (pa_cons pe_int (pa_cons pe_int pa_nil))) pa_nil)))
      (pss_cons (ps_expr (pe_bm PySem.F.plainAttrs_list PySem.F.slot_list_append PySem.F.type_list_append mt_append (pv 7) (pa_cons (pe_tup (pa_cons pe_int (pa_cons pe_int pa_nil))) pa_nil)))
      (pss_cons (ps_if (pt_cmpR (op_neD hr.units) (pe_callC c_ordered (hr.mono (by decide)) rfl passE_def (pa_cons (pe_callTy call_list_of rfl T.list_ PyProof.Rows.boot_list (pa_cons (pv 2) pa_nil)) pa_nil)) (pv 5) (nomark _)) (pss_one (ps_ret pe_bl)) pss_nil)
      (pss_cons (ps_set (i := 9) sc.nd rfl (by walk_at "loc") (pe_callC c__law_pick (hr.mono (by decide)) rfl passE_def (pa_cons (pv 0) (pa_cons pe_int (pa_cons pe_int (pa_cons (pe_op op_add (pe_callB call_len_seq rfl T.len_ PySem.boot_len (pa_cons (pv 2) pa_nil)) pe_int) pa_nil))))))
      (pss_cons (ps_set (i := 10) sc.nd rfl (by walk_at "loc") pe_bl)
      (pss_cons (ps_try rfl rfl rfl T.g_BadBottom (fun pn xe E hE hO => (pss_one (ps_expr (pe_callC c_ordered (hr.mono (by decide)) rfl hE (pa_cons (pe_op op_cat (pe_op op_cat (pe_slice (show SlR _ (rSlL K) from sl_list) (pv 2) po_none (po_some (pv 9))) (pe_lst (pa_cons (pe_tup (pa_cons pe_int (pa_cons (pe_un un_neg (pe_callC c__law_pick (hr.mono (by decide)) rfl hE (pa_cons (pv 0) (pa_cons pe_int (pa_cons pe_int (pa_cons pe_int pa_nil)))))) pa_nil))) pa_nil))) (pe_slice (show SlR _ (rSlL K) from sl_list) (pv 2) (po_some (pv 9)) po_none)) pa_nil))))) (fun e => (pss_one (ps_set (i := 10) sc.nd rfl (by walk_at "loc") pe_bl))))
      (pss_one (ps_ret (pv 10))))))))))))))))), ?_⟩
  refine ⟨_, rfl, a, ns, _, _, _, rfl, hS, (by omega), (by omega), (by omega), (by omega), fun r0 _ l0 u0 => ?_⟩
  refine ⟨sz0, fun p np => ?_⟩
  refine ⟨_, rfl, r0, rfl, (by omega), (by omega), for_range (fun j σ H' => ∃ kv, LI a p r0 H j 140 kv σ H') ⟨none, [], fun _ => (0, 1), none, rfl, Same.upd np, upd_same, rfl, fun i v e => (by cases e), fun i h => absurd h (by omega), fun h => absurd h (by omega)⟩ ?_ ?_⟩
  · rintro j σ H1 hj ⟨kv, vs, pt, z4, rfl, s1, f1, l1, P1, ok1, fst1⟩
    have hS1 := s1.sql hS
    refine ⟨_, rfl, .inl ⟨rfl, _, SqL.of f1⟩, _, rfl, _, rfl, _, _, rfl, rfl, a, ns, _, _, _, rfl, hS1, (by omega), (by omega), (by omega), (by omega), fun r1 _ a1 b1 => ?_⟩
    refine ⟨_, _, rfl, rfl, _, rfl, _, rfl, _, _, rfl, rfl, a, ns, _, _, _, rfl, hS1, (by omega), (by omega), (by omega), (by omega), fun r2 _ a2 b2 => ?_⟩
    refine ⟨_, _, rfl, rfl, sz2, fun q1 n1 => ?_⟩
    have s2 := Same.upd (o := .tup [.int (r1 - 60), .int (1 + r2)]) n1
    have fq : upd H1 q1 (.tup [.int (r1 - 60), .int (1 + r2)]) q1 = some (.tup [.int (r1 - 60), .int (1 + r2)]) := upd_same
    generalize upd H1 q1 (.tup [.int (r1 - 60), .int (1 + r2)]) = H2 at s2 fq
    refine ⟨p, vs, .ref q1, rfl, rfl, s2 _ _ f1, small1000 (by omega), ?_⟩
    have P2 := (PL.snoc (q := (r1 - 60, 1 + r2)) (P1.kp (Kp.of s2)) fq).wr (o := .lst (vs ++ [.ref q1])) (s2 _ _ f1)
    have s3 : Same H (upd H2 p (.lst (vs ++ [.ref q1]))) := Same.upd2 (s1.trans s2) np
    have f3 : upd H2 p (.lst (vs ++ [.ref q1])) p = some (.lst (vs ++ [.ref q1])) := upd_same
    generalize upd H2 p (.lst (vs ++ [.ref q1])) = H3 at P2 s3 f3
    obtain ⟨ws, pu, P3, f3, l3, ok3, fst3⟩ : ∃ (ws : List V) (pu : Nat → Int × Int), PL H3 ws pu ∧ H3 p = some (.lst ws) ∧ ws.length = j + 1 ∧ (∀ i, i < j + 1 → OkP (pu i)) ∧ (Sm (fb j 10) (pu 0).1 ∧ Sm (fb j 10) (pu 0).2) := by
      refine ⟨_, _, P2, f3, by rw [List.length_append, l1]; rfl, fun i hi => ?_, ?_⟩
      · by_cases c : i = vs.length
        · simp only [if_pos c]
          exact ⟨by show 1 ≤ 1 + r2; omega, (sm10 (by omega) (by omega)).mono (by decide), (sm10 (by omega) (by omega)).mono (by decide)⟩
        · simp only [if_neg c]
          exact ok1 i (by omega)
      · unfold fb
        by_cases c : j = 0
        · simp only [if_pos c, if_pos (show 0 = vs.length by omega)]
          exact ⟨sm10 (by omega) (by omega), sm10 (by omega) (by omega)⟩
        · simp only [if_neg c, if_neg (show ¬ 0 = vs.length by omega)]
          exact fst1 (by omega)
    clear P2
    refine ⟨LI a p r0 H (j + 1) (fb j 10) (some (.int ((0 : Int) + j))), ?_, ?_⟩
    · refine ⟨_, rfl, _, rfl, _, _, rfl, rfl, a, ns, _, _, _, rfl, s3.sql hS, (by omega), (by omega), (by omega), (by omega), fun r3 _ a3 b3 => ⟨rfl, _, rfl, iteDV (fun q => ?_) (fun q => ?_)⟩⟩
      · obtain ⟨b, hb, fb0⟩ := first_at P3 (by omega)
        refine ⟨_, rfl, _, _, _, _, rfl, rfl, SqL.of f3, hb, ?_⟩
        refine ⟨_, rfl, _, rfl, _, _, _, j, rfl, rfl, f3, by rw [l3]; exact last_ix1, ?_⟩
        exact li_set np s3 f3 l3 P3 ok3 fb0 (ok3 0 (by omega)) (fun _ => fst3) (fun _ => fst3)
      · exact ⟨ws, pu, _, rfl, s3, f3, l3, P3, ok3, fun _ => fst3⟩
    · clear P3 f3 l3 ok3 fst3 s3 ws pu
      rintro σ H4 ⟨ws, pu, z5, rfl, s4, f4, l4, P4, ok4, fst4⟩
      have fst4 := fst4 (by omega)
      refine ⟨LI a p r0 H (j + 1) (fb j 20) (some (.int ((0 : Int) + j))), ?_, ?_⟩
      · refine ⟨_, rfl, _, rfl, _, _, rfl, rfl, a, ns, _, _, _, rfl, s4.sql hS, (by omega), (by omega), (by omega), (by omega), fun r3 _ a3 b3 => ⟨rfl, _, rfl, iteDV (fun q => ?_) (fun q => ?_)⟩⟩
        · obtain ⟨b, hb, fb0⟩ := first_at P4 (by omega)
          have two : ∀ i : Int, IntMulOk i 2 := fun i => IntMulOk.of_right (intBits_le_64 (by omega) (by omega))
          refine ⟨_, rfl, _, _, _, _, rfl, rfl, SqL.of f4, hb, _, _, _, _, rfl, rfl, SqT.of fb0, rfl, _, _, rfl, rfl, two _, ?_⟩
          refine ⟨_, rfl, _, _, _, _, rfl, rfl, SqL.of f4, hb, _, _, _, _, rfl, rfl, SqT.of fb0, rfl, _, _, rfl, rfl, two _, sz2, fun q2 n2 => ?_⟩
          have s5 := Same.upd (o := .tup [.int ((pu 0).1 * 2), .int ((pu 0).2 * 2)]) n2
          refine ⟨_, rfl, _, rfl, _, _, _, j, rfl, rfl, s5 _ _ f4, by rw [l4]; exact last_ix1, ?_⟩
          have o4 := ok4 0 (by omega)
          have le : fb j 10 ≤ 140 := by unfold fb; split <;> omega
          refine li_set (q := ((pu 0).1 * 2, (pu 0).2 * 2)) np (s4.trans s5) (s5 _ _ f4) l4 (P4.kp (Kp.of s5)) ok4 upd_same ⟨by have := o4.1; show 1 ≤ (pu 0).2 * 2; omega, (sm_two (fst4.1.mono le)).mono (by decide), (sm_two (fst4.2.mono le)).mono (by decide)⟩ (fun c => ?_) (fun c => ?_)
          · have e1 : fb j 10 + 2 ≤ fb j 20 := by unfold fb; rw [if_pos c, if_pos c]; omega
            exact ⟨(sm_two fst4.1).mono e1, (sm_two fst4.2).mono e1⟩
          · have e1 : fb j 10 ≤ fb j 20 := by unfold fb; rw [if_neg c, if_neg c]; omega
            exact ⟨fst4.1.mono e1, fst4.2.mono e1⟩
        · have e1 : fb j 10 ≤ fb j 20 := by unfold fb; split <;> omega
          exact ⟨ws, pu, _, rfl, s4, f4, l4, P4, ok4, fun _ => ⟨fst4.1.mono e1, fst4.2.mono e1⟩⟩
      · clear fst4
        rintro σ H5 ⟨ws, pu, z5, rfl, s5, f5, l5, P5, ok5, fst5⟩
        have fst5 := fst5 (by omega)
        have e1 : fb j 20 ≤ 140 := by unfold fb; split <;> omega
        refine ⟨_, rfl, _, rfl, _, _, rfl, rfl, a, ns, _, _, _, rfl, s5.sql hS, (by omega), (by omega), (by omega), (by omega), fun r3 _ a3 b3 => ⟨rfl, _, rfl, iteDV (fun q => ?_) (fun q => ?_)⟩⟩
        · refine ⟨_, rfl, a, ns, _, rfl, s5.sql hS, (by omega), fun c _ => ?_⟩
          have c0 := Int.emod_nonneg c (show (10 : Int) ^ (40 : Int).toNat ≠ 0 from fun e => by have := pow40; omega)
          have c1 := Int.emod_lt_of_pos c pow40
          refine ⟨_, _, rfl, rfl, ⟨by decide, by decide, by decide⟩, _, _, rfl, rfl, pow40, _, _, rfl, rfl, ?_⟩
          generalize c % (10 : Int) ^ (40 : Int).toNat = d at c0 c1
          refine ⟨_, rfl, _, _, rfl, rfl, ⟨by decide, by unfold Sm; decide +kernel⟩, _, rfl, _, rfl, _, _, rfl, rfl, a, ns, _, _, _, rfl, s5.sql hS, (by omega), (by omega), (by omega), (by omega), fun r5 _ a5 b5 => ?_⟩
          refine ⟨_, _, rfl, rfl, _, rfl, sz2, fun q3 n3 => ?_⟩
          have s6 := Same.upd (o := .tup [.int ((1 + d) / 3 + r5), .int (1 + d)]) n3
          refine ⟨_, rfl, _, rfl, _, _, _, j, rfl, rfl, s6 _ _ f5, by rw [l5]; exact last_ix1, ?_⟩
          have big : (100 : Int) < (10 : Int) ^ (40 : Int).toNat := by decide +kernel
          have m1 : Sm 140 ((1 + d) / 3 + r5) := sm40 (by omega) (by omega)
          have m2 : Sm 140 (1 + d) := sm40 (by omega) (by omega)
          exact ⟨_, li_set (q := ((1 + d) / 3 + r5, 1 + d)) np (s5.trans s6) (s6 _ _ f5) l5 (P5.kp (Kp.of s6)) ok5 upd_same ⟨by show 1 ≤ 1 + d; omega, m1.mono (by decide), m2.mono (by decide)⟩ (fun _ => ⟨m1, m2⟩) (fun _ => ⟨fst5.1.mono e1, fst5.2.mono e1⟩)⟩
        · exact ⟨_, ws, pu, _, rfl, s5, f5, l5, P5, ok5, fun _ => ⟨fst5.1.mono e1, fst5.2.mono e1⟩⟩
  · rintro σ H1 ⟨kv, vs, pt0, z4, rfl, s1, f1, l1, P0, ok0, _⟩
    have lv : vs.length ≤ 40 := by omega
    obtain ⟨pt, P1, ok1, hb⟩ : ∃ pt : Nat → Int × Int, PL H1 vs pt ∧ (∀ i, i < vs.length → OkP (pt i)) ∧ ∀ i, 1 ≤ (pt i).2 := by
      refine ⟨fun i => if i < vs.length then pt0 i else (0, 1), fun i v e => ?_, fun i hi => ?_, fun i => ?_⟩
      · have hi := (List.getElem?_eq_some_iff.mp e).1
        simp only [if_pos hi]
        exact P0 i v e
      · simp only [if_pos hi]
        exact ok0 i (by omega)
      · by_cases hi : i < vs.length
        · simp only [if_pos hi]
          exact (ok0 i (by omega)).1
        · simp only [if_neg hi]
          decide
    refine ⟨sz0, fun D0 nD0 => ?_⟩
    refine ⟨_, rfl, p, rfl, ⟨_, SqL.of (Same.upd nD0 _ _ f1)⟩, for_list (K := K) (a := p) (xs := vs) (fun i σ H3 => ∃ (D : Addr) (il : List Nat) (z6 : Option V), σ = [some (.ref a), some (.int r0), some (.ref p), kv, z4, some (.ref D), z6, none, none, none, none] ∧ Same H1 H3 ∧ H3 D = some (.lst (il.map fun i => vs.getD i .non)) ∧ il.Perm (List.range i) ∧ il.Pairwise (Wor pt)) ⟨D0, [], none, rfl, Same.upd nD0, upd_same, .refl _, .nil⟩ ?_ ?_ ?_⟩
    · rintro i σ H3 _ ⟨D, il, z6, rfl, s3, _, _, _⟩
      exact SqL.of (s3 _ _ f1)
    · rintro i y σ H3 hy ⟨D, il, z6, rfl, s3, fD, pm, pw⟩
      have hi : i < vs.length := (List.getElem?_eq_some_iff.mp hy).1
      have P3 := P1.kp (Kp.of s3)
      obtain ⟨b, rfl, fb'⟩ := P3 i y hy
      have hin : ∀ j ∈ il, j < vs.length := fun j hj => by have := List.mem_range.mp (pm.mem_iff.mp hj); omega
      have hll : il.length = i := by rw [pm.length_eq, List.length_range]
      refine ⟨_, rfl, _, rfl, D, b, _, fun j => pt (il.getD j 0), pt i, rfl, fD, P3.pick hin, fb', fun j hj => ?_, ok1 i hi, by rw [List.length_map]; omega, fun l m H4 hm h1 h2 s4 nl fl => ?_⟩
      · rw [List.length_map] at hj
        refine ok1 _ (hin _ ?_)
        rw [List.getD_eq_getElem?_getD, List.getElem?_eq_getElem hj]
        exact List.getElem_mem _
      · rw [List.length_map] at hm h1
        obtain ⟨e1, e2⟩ := due_put hb pm pw hm h1 h2
        rw [pick_put hy] at fl
        exact ⟨l, _, _, rfl, s3.trans s4, fl, e1, e2⟩
    · rintro σ H3 ⟨D, il, z6, rfl, s3, fD, pm, pw⟩
      have g1 := s3 _ _ f1
      refine ⟨_, rfl, _, _, rfl, .inl (SqL.of g1), fun p4 n4 => ?_⟩
      have s4 := Same.upd (o := .lst vs) n4
      have f4 : upd H3 p4 (.lst vs) p4 = some (.lst vs) := upd_same
      generalize upd H3 p4 (.lst vs) = H4 at s4 f4
      have t3 : Same H H3 := s1.trans s3
      have t4 : Same H H4 := t3.trans s4
      have P4 : PL H4 vs pt := P1.kp (Kp.of (s3.trans s4))
      refine ⟨_, rfl, p4, vs, pt, rfl, SqL.of f4, P4, .inl (t4 _ _ hT), .inl ⟨ok1, by omega, fun l il2 H5 k5 T5 nl pm2 pw2 fl => ?_⟩⟩
      obtain rfl : il = il2 := arranged_one (fun x y h h' => wor_asym x y h h') (pm.trans pm2.symm) pw pw2
      have hin : ∀ j ∈ il, j < vs.length := fun j hj => List.mem_range.mp (pm.mem_iff.mp hj)
      have hll : il.length = vs.length := by rw [pm.length_eq, List.length_range]
      have D5 := k5.lst (s4 _ _ fD)
      have p5 := k5.lst f4
      have q5 := k5.lst (s4 _ _ g1)
      have P5 : PL H5 vs pt := P4.kp k5
      have W5 := P5.pick hin
      have dlD : D ≠ l := ne_of_none (s4 _ _ fD) nl
      have dlp4 : p4 ≠ l := ne_of_none f4 nl
      have dlp : p ≠ l := ne_of_none (s4 _ _ g1) nl
      have d4D : D ≠ p4 := ne_of_none fD n4
      have d4p : p ≠ p4 := ne_of_none g1 n4
      refine ⟨_, rfl, l, _, _, rfl, fl, W5, _, rfl, ?_⟩
      refine iteF ?_
      refine ⟨_, rfl, _, rfl, _, _, rd_pl W5 fl, rd_pl W5 D5, lay_ptl _, lay_ptl _, dep_ptl _ _, _, rfl, ?_⟩
      refine ite_ne (dec_ptl _) ?_
      refine ⟨_, rfl, _, rfl, _, _, rd_pl P5 p5, rd_pl P5 q5, lay_ptl _, lay_ptl _, dep_ptl _ _, _, rfl, ?_⟩
      refine ite_ne (dec_ptl _) ?_
      refine ⟨_, rfl, .inl ⟨rfl, _, SqL.of fl⟩, sz2, fun t6 n6 => ?_⟩
      have s6 := Same.upd (o := .tup [.int 1, .int 1]) n6
      generalize upd H5 t6 (.tup [.int 1, .int 1]) = H6 at s6
      refine ⟨l, _, .ref t6, rfl, rfl, s6 _ _ fl, small1000 (by rw [List.length_map]; omega), ?_⟩
      have K6 : Kp H4 H6 := k5.trans (Kp.of s6)
      have K7 := K6.upd (o := .lst ((il.map fun i => vs.getD i .non) ++ [V.ref t6])) nl
      have T7 := tab_wr (o := .lst ((il.map fun i => vs.getD i .non) ++ [V.ref t6])) (tab_kp T5 s6) (s6 _ _ fl)
      generalize upd H6 l (.lst ((il.map fun i => vs.getD i .non) ++ [V.ref t6])) = H7 at K7 T7
      refine ⟨_, rfl, .inl ⟨rfl, _, SqL.of (K7.lst f4)⟩, sz2, fun t8 n8 => ?_⟩
      have s8 := Same.upd (o := .tup [.int 0, .int 1]) n8
      generalize upd H7 t8 (.tup [.int 0, .int 1]) = H8 at s8
      have f8 := s8 _ _ (K7.lst f4)
      refine ⟨p4, _, .ref t8, rfl, rfl, f8, small1000 (by omega), ?_⟩
      have K8 : Kp H3 H8 := (Kp.of s4).trans (K7.trans (Kp.of s8))
      have K9 := K8.upd (o := .lst (vs ++ [V.ref t8])) n4
      have T9 := tab_wr (o := .lst (vs ++ [V.ref t8])) (tab_kp T7 s8) f8
      generalize upd H8 p4 (.lst (vs ++ [V.ref t8])) = H9 at K9 T9
      have q9 := K9.lst g1
      have D9 := K9.lst fD
      have P9 : PL H9 vs pt := (P1.kp (Kp.of s3)).kp K9
      refine ⟨_, rfl, _, _, rfl, .inl (SqL.of q9), fun p10 n10 => ?_⟩
      have s10 := Same.upd (o := .lst vs) n10
      have f10 : upd H9 p10 (.lst vs) p10 = some (.lst vs) := upd_same
      generalize upd H9 p10 (.lst vs) = H10 at s10 f10
      refine ⟨p10, vs, pt, rfl, SqL.of f10, P9.kp (Kp.of s10), tab_kp T9 s10, .inl ⟨ok1, by omega, fun l2 il3 H11 k11 T11 nl2 pm3 pw3 fl2 => ?_⟩⟩
      obtain rfl : il = il3 := arranged_one (fun x y h h' => wor_asym x y h h') (pm.trans pm3.symm) pw pw3
      have K11 : Kp H3 H11 := K9.trans ((Kp.of s10).trans k11)
      have P11 : PL H11 vs pt := (P1.kp (Kp.of s3)).kp K11
      have W11 := P11.pick hin
      refine ⟨_, rfl, _, _, rd_pl W11 fl2, rd_pl W11 (K11.lst fD), lay_ptl _, lay_ptl _, dep_ptl _ _, _, rfl, ?_⟩
      refine ite_ne (dec_ptl _) ?_
      have q11 := K11.lst g1
      have S11 : SqL K H11 a (ns.map V.int) := K11.sql (t3.sql hS)
      refine ⟨_, rfl, _, rfl, _, _, rfl, .inl (SqL.of q11), _, _, rfl, rfl, a, ns, _, _, _, rfl, S11, (by omega), (by omega), (by omega), (by omega), fun at0 _ l5 u5 => ?_⟩
      obtain ⟨m, rfl⟩ : ∃ m : Nat, at0 = (m : Int) := ⟨at0.toNat, by omega⟩
      have hm : m ≤ vs.length := by omega
      refine ⟨_, rfl, _, rfl, _, rfl, p, _, rfl, SqL.of q11, fun p16 n16 => ?_⟩
      rw [cut_take vs hm]
      have s16 := Same.upd (o := .lst (vs.take m)) n16
      have f16 : upd H11 p16 (.lst (vs.take m)) p16 = some (.lst (vs.take m)) := upd_same
      generalize upd H11 p16 (.lst (vs.take m)) = H16 at s16 f16
      refine ⟨_, rfl, a, ns, _, _, _, rfl, s16.sql S11, (by omega), (by omega), (by omega), (by omega), fun r17 _ l17 u17 => ?_⟩
      refine ⟨_, rfl, sz2, fun t17 n17 => ⟨sz1, fun p17 n17' => ?_⟩⟩
      have s17 := Same.upd (o := .tup [.int 3, .int (-r17)]) n17
      have ft : upd H16 t17 (.tup [.int 3, .int (-r17)]) t17 = some (.tup [.int 3, .int (-r17)]) := upd_same
      generalize upd H16 t17 (.tup [.int 3, .int (-r17)]) = H17 at s17 ft n17'
      have s18 := Same.upd (o := .lst [V.ref t17]) n17'
      have f18 : upd H17 p17 (.lst [V.ref t17]) p17 = some (.lst [V.ref t17]) := upd_same
      generalize upd H17 p17 (.lst [V.ref t17]) = H18 at s18 f18
      refine ⟨p16, p17, vs.take m, [.ref t17], rfl, rfl, s18 _ _ (s17 _ _ f16), f18, Nat.le_of_lt (small1000 (n := (vs.take m).length + 1) (by rw [List.length_take]; omega)), fun p18 n18 => ?_⟩
      have s19 := Same.upd (o := .lst (vs.take m ++ [V.ref t17])) n18
      have f19 : upd H18 p18 (.lst (vs.take m ++ [V.ref t17])) p18 = some (.lst (vs.take m ++ [V.ref t17])) := upd_same
      generalize upd H18 p18 (.lst (vs.take m ++ [V.ref t17])) = H19 at s19 f19
      have t19 := s16.trans (s17.trans (s18.trans s19))
      refine ⟨_, rfl, _, rfl, _, rfl, p, _, rfl, SqL.of (t19 _ _ q11), fun p20 n20 => ?_⟩
      rw [cut_drop vs hm]
      have s20 := Same.upd (o := .lst (vs.drop m)) n20
      have f20 : upd H19 p20 (.lst (vs.drop m)) p20 = some (.lst (vs.drop m)) := upd_same
      generalize upd H19 p20 (.lst (vs.drop m)) = H20 at s20 f20
      refine ⟨p18, p20, _, vs.drop m, rfl, rfl, s20 _ _ f19, f20, Nat.le_of_lt (small1000 (n := (vs.take m ++ [V.ref t17]).length + (vs.drop m).length) (by rw [List.length_append, List.length_take, List.length_drop, List.length_singleton]; omega)), fun p21 n21 => ?_⟩
      have s21 := Same.upd (o := .lst (vs.take m ++ [V.ref t17] ++ vs.drop m)) n21
      have t21 := t19.trans (s20.trans s21)
      refine ⟨p21, _, _, rfl, SqL.of upd_same, PL.put (q := (3, -r17)) (P11.kp (Kp.of t21)) ((s18.trans (s19.trans (s20.trans s21))) _ _ ft) hm, tab_kp T11 t21, .inr ⟨⟨m, ?_, ?_⟩, C_BadBottom, rfl, catch_self T.x_BadBottom, ?_⟩⟩
      · rw [List.length_append, List.length_append, List.length_take, List.length_drop, List.length_singleton]
        omega
      · simp only [Nat.lt_irrefl, if_false, if_true]
        omega
      · exact ⟨_, rfl, k _⟩
end

section
theorem all_mk {l : PySem.W.OpenLaw} {w : World} {K : PySem.W.Frag} {h : Heap} {mg : Str → Option Value} {fa cO TT : Addr} {C_BadBottom : Addr}  (X : K.In h) (G : h.Ns mainGlobals mg) (hfa : mg "law" = some (.ref fa))
    (d__law_cell : DefIn K "_law_cell" s__law_cell)
    (d__law_pick : DefIn K "_law_pick" s__law_pick)
    (d_check_bottom : DefIn K "check_bottom" s_check_bottom)
    (d_ordered : DefInT K "ordered" s_ordered cO) (hC : PySem.W.codeHdIn K cO TT = true)
    (d__law_whole : DefIn K "_law_whole" s__law_whole)
    (d__law_pairs : DefIn K "_law_pairs" s__law_pairs)
    (d__law_put : DefIn K "_law_put" s__law_put)
    (d_law : DefIn K "law" s_law)
    (a_BadBottom : PySem.W.nsIn K mainGlobals "BadBottom" = some (some (.ref C_BadBottom)))
    (x_BadBottom : PySem.W.excIn K C_BadBottom [.type "ValueError", .type "Exception", .type "BaseException", .type "object"] "ValueError.__new__" = true)
    (z_len : PySem.W.nsIn K mainGlobals "len" = some none)
    (z_abs : PySem.W.nsIn K mainGlobals "abs" = some none)
    (z_range : PySem.W.nsIn K mainGlobals "range" = some none)
    (z_isinstance : PySem.W.nsIn K mainGlobals "isinstance" = some none)
    (z_int : PySem.W.nsIn K mainGlobals "int" = some none)
    (z_bool : PySem.W.nsIn K mainGlobals "bool" = some none)
    (z_list : PySem.W.nsIn K mainGlobals "list" = some none)
    (z_tuple : PySem.W.nsIn K mainGlobals "tuple" = some none)
    (z_sorted : PySem.W.nsIn K mainGlobals "sorted" = some none)
    (z_max : PySem.W.nsIn K mainGlobals "max" = some none) :
    ∃ fd : FuncData, (∀ (s : Shared) (v : Value), BindsTo s fd ⟨[v], []⟩ [("_law_script", v)]) ∧ ∀ base : Heap, K.In base → base.Ns mainGlobals mg → BMain mg base → FnOk l.prog w K mg base (CXE l.prog w) 8 fa fd ["_law_script"] (spLawT K TT) := by
  have T : Txt K mg C_BadBottom := ⟨PySem.W.mg_none_of X G z_len, PySem.W.mg_none_of X G z_abs, PySem.W.mg_none_of X G z_range, PySem.W.mg_none_of X G z_isinstance, PySem.W.mg_none_of X G z_int, PySem.W.mg_none_of X G z_bool, PySem.W.mg_none_of X G z_list, PySem.W.mg_none_of X G z_tuple, PySem.W.mg_none_of X G z_sorted, PySem.W.mg_none_of X G z_max, PySem.W.mg_of X G a_BadBottom, ⟨x_BadBottom⟩⟩
  obtain ⟨f, fd, a, F⟩ := d_law.ex
  have e := hfa.symm.trans (PySem.W.mg_of X G a)
  cases e
  refine ⟨fd, fun s v => ?_, fun base kb nb hB => ?_⟩
  · obtain ⟨oc, od, kV, doc, pm, an, cdv, ct, osl, rfl, lk, hcd⟩ := F.ex
    exact .of_eq rfl
  · have c1 : Cal l.prog w K mg base "_law_cell" 1 (spCell K) := d__law_cell.cal X G bd__law_cell fun f fd F => ok_cell F T 
    have c2 : Cal l.prog w K mg base "_law_pick" 2 (spPick K) := d__law_pick.cal X G bd__law_pick fun f fd F => ok_pick F T c1
    have c3 : Cal l.prog w K mg base "check_bottom" 1 (spCheck C_BadBottom) := d_check_bottom.cal X G bd_check_bottom fun f fd F => ok_check F T 
    have c4 : Cal l.prog w K mg base "ordered" 6 (spOrd K TT C_BadBottom) := d_ordered.cal X G bd_ordered fun f fd F => ok_ord F T hB hC c3
    have c5 : Cal l.prog w K mg base "_law_whole" 1 spWhole := d__law_whole.cal X G bd__law_whole fun f fd F => ok_whole F T 
    have c6 : Cal l.prog w K mg base "_law_pairs" 2 spPairs := d__law_pairs.cal X G bd__law_pairs fun f fd F => ok_pairs F T c5
    have c7 : Cal l.prog w K mg base "_law_put" 1 spPut := d__law_put.cal X G bd__law_put fun f fd F => ok_put F T 
    exact ok_law F T c1 c2 c6 c7 c4
theorem walk {l : PySem.W.OpenLaw} {q : Program} {loose : List Str} {XP : (Str → Option Value) → Heap → Prop} {YP : World → Heap → Prop} {d : DefRec} {K : Params → PySem.W.Frag} {cO TT : Addr} (hn : l.most = some 63) (hdf : d.params.defaults = [])
    (hY : ∀ (w : World) (h : Heap), YP w h → (K w.params).In h ∧ h.get? TT = some (PySem.W.tabObj #[])) (hcT : ∀ p, PySem.W.codeHdIn (K p) cO TT = true) (hKT : ∀ p, (K p).lookup TT = none)
    (F : ∀ (w : World) (mg : Str → Option Value) (fa : Addr) (h : Heap), (K w.params).In h → h.Ns mainGlobals mg → mg d.name = some (.ref fa) →
      ∃ fd : FuncData, (∀ (s : Shared) (u : Value), BindsTo s fd ⟨[u], []⟩ [("_law_script", u)]) ∧ ∀ base : Heap, (K w.params).In base → base.Ns mainGlobals mg → BMain mg base → FnOk l.prog w (K w.params) mg base (CXE l.prog w) 8 fa fd ["_law_script"] (spLawT (K w.params) TT)) :
    PySem.W.WalkO q loose XP YP l.row.toRowW d [] (fun f vs => PySem.call f vs) :=
  L2.walk_ofT (n := 63) (k := 8) (x := "_law_script") (CX := fun w => CXE l.prog w) (sp := fun w => spLawT (K w.params) TT) hn (by decide) hdf ⟨rfl, by decide, by decide⟩ hY hcT hKT F (fun _ _ a ns hl hT hS => ⟨a, ns, rfl, hS, hl, hT, fun _ => rfl⟩) fun _ _ _ _ _ z => CXE.no z
end
end My
open PySem PySem.W PyProof.Rows
local macro_rules | `(tactic| walk_at "defT") => `(tactic| (refine' L2.deft_mk ?a ?l ?c ?k; (case a => k_is); (case l => k_is); (case c => k_is); (case k => k_is)))
local macro_rules | `(tactic| walk_at "def") => `(tactic| (refine' L2.def_mk ?a ?l ?c ?k; (case a => k_is); (case l => k_is); (case c => k_is); (case k => k_is)))
local macro_rules | `(tactic| walk_at "defD") => `(tactic| (refine' L2.defD_mk ?a ?l ?c ?k ?t; (case a => k_is); (case l => k_is); (case c => k_is); (case k => k_is); (case t => k_is)))
local macro_rules | `(tactic| walk_at "meth") => `(tactic| (refine' L2.meth_mk ?a ?i ?l ?c ?k; (case a => k_is); (case i => k_is); (case l => k_is); (case c => k_is); (case k => k_is)))
set_option maxRecDepth 100000 in
set_option maxHeartbeats 0 in
theorem PySem.Challenge.cw_crookroad_k03_ordered_holds : PySem.Challenge.rw_crookroad_k03_ordered.Holds := by
  w_on; o_law; k_head; (case hw => w_witness2)
  k_fill
  refine My.walk (l := PySem.Challenge.rw_crookroad_k03_ordered) (cO := 50) (TT := 48) rfl rfl (fun w h Y => ⟨PySem.W.km_in_of Y, PySem.W.km_tabs_of Y 48 (.head _)⟩) (fun p => by kernel_rfl) (fun p => by kernel_rfl) ?F
  case F =>
    intro w mg fa h KX G hmg
    refine' My.all_mk (cO := 50) (TT := 48) KX G hmg ?d__law_cell ?d__law_pick ?d_check_bottom ?d_ordered ?hC ?d__law_whole ?d__law_pairs ?d__law_put ?d_law ?a_BadBottom ?x_BadBottom ?z_len ?z_abs ?z_range ?z_isinstance ?z_int ?z_bool ?z_list ?z_tuple ?z_sorted ?z_max
    (case d__law_cell => walk_at "def")
    (case d__law_pick => walk_at "def")
    (case d_check_bottom => walk_at "def")
    (case d_ordered => walk_at "defT")
    (case hC => exact (by kernel_rfl))
    (case d__law_whole => walk_at "def")
    (case d__law_pairs => walk_at "def")
    (case d__law_put => walk_at "def")
    (case d_law => walk_at "def")
    (case a_BadBottom => k_is)
    (case x_BadBottom => k_exc)
    (case z_len => k_is)
    (case z_abs => k_is)
    (case z_range => k_is)
    (case z_isinstance => k_is)
    (case z_int => k_is)
    (case z_bool => k_is)
    (case z_list => k_is)
    (case z_tuple => k_is)
    (case z_sorted => k_is)
    (case z_max => k_is)

