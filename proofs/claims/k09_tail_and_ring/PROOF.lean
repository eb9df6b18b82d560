import PyProof.Rows.All
import Wide.All
import OpenK.AllK
import Wide.FinOn
import Lean
import PyProof.EqAt
import PyProof.EqKinds
import PyProof.TupleCall
import PyProof.NeData
import KE.IntBitsLaws
import KE.KRevSl
import KE.KDictList
import PyProof.Rows.SetFrom
import PyProof.SetRoads
import PySem.Challenge.RW_crookroad_k09_tail_and_ring
set_option Elab.async false
set_option linter.all false
set_option maxRecDepth 100000
/-! THE HAND LAYER, for ints, bools, texts, own classes, LISTS and tuples (index, slices, in, append, pop ..), calls, loops. Paste it whole ahead of your own text; what your proof does not reach may be deleted. -/
namespace L2
open PySem PySem.Spec PyProof.Rows

/-- a key: an int or a str -/
abbrev Key := Sum Int Str
def keyIs : Key → Value → Bool
  | .inl k, v => Value.isInt k v
  | .inr x, v => Value.isStrOf x v
def keyH (w : World) : Key → Int
  | .inl k => hashInt k
  | .inr x => hashStr w x
theorem keyIs_shape : ∀ {k : Key} {v : Value}, keyIs k v = true → (∃ i t, k = Sum.inl i ∧ v = Value.int i t) ∨ (∃ x t, k = Sum.inr x ∧ v = Value.str x t)
  | .inl i, v, h => by
    obtain ⟨t, e⟩ := Value.isInt_shape (k := i) (v := v) h
    exact .inl ⟨i, t, rfl, e⟩
  | .inr x, v, h => by
    obtain ⟨t, e⟩ := Value.isStrOf_shape (x := x) (v := v) h
    exact .inr ⟨x, t, rfl, e⟩
theorem keyIs_int (i : Int) (t : Tok) : keyIs (.inl i) (.int i t) = true := by simp [keyIs, Value.isInt]
theorem keyIs_str (x : Str) (t : Tok) : keyIs (.inr x) (.str x t) = true := by simp [keyIs, Value.isStrOf]
theorem key_ll (a b : Int) : decide ((Sum.inl a : Key) = Sum.inl b) = (a == b) := by
  by_cases e : a = b
  · subst e; simp
  · have h : ¬ (Sum.inl a : Key) = Sum.inl b := fun q => e (Sum.inl.inj q)
    rw [decide_eq_false h]
    exact (beq_eq_false_iff_ne.mpr e).symm
theorem key_rr (a b : Str) : decide ((Sum.inr a : Key) = Sum.inr b) = decide (a = b) := by
  by_cases e : a = b
  · subst e; simp
  · have h : ¬ (Sum.inr a : Key) = Sum.inr b := fun q => e (Sum.inr.inj q)
    rw [decide_eq_false h, decide_eq_false e]
theorem key_lr (a : Int) (b : Str) : decide ((Sum.inl a : Key) = Sum.inr b) = false := decide_eq_false (fun q => nomatch q)
theorem key_rl (a : Str) (b : Int) : decide ((Sum.inr a : Key) = Sum.inl b) = false := decide_eq_false (fun q => nomatch q)

def mixKind (prog : Program) (w : World) : PySem.KeyKind prog w Key where
  is := keyIs
  hash := keyH w
  inj := fun v a b ha hb => by
    rcases keyIs_shape ha with ⟨i, t, rfl, rfl⟩ | ⟨x, t, rfl, rfl⟩
    · rcases keyIs_shape hb with ⟨j, u, rfl, e⟩ | ⟨y, u, rfl, e⟩
      · injection e with e1 _; rw [e1]
      · exact nomatch e
    · rcases keyIs_shape hb with ⟨j, u, rfl, e⟩ | ⟨y, u, rfl, e⟩
      · exact nomatch e
      · injection e with e1 _; rw [e1]
  byValue := fun k v h => by
    rcases keyIs_shape h with ⟨i, t, rfl, rfl⟩ | ⟨x, t, rfl, rfl⟩ <;> rfl
  pyHash := fun hv h => by
    rcases keyIs_shape hv with ⟨i, t, rfl, rfl⟩ | ⟨x, t, rfl, rfl⟩
    · exact wpAny_pyHash_int h
    · exact wpAny_pyHash_str h
  eqBool := fun hu hv h => by
    rcases keyIs_shape hu with ⟨i, t, rfl, rfl⟩ | ⟨x, t, rfl, rfl⟩
    · rcases keyIs_shape hv with ⟨j, u, rfl, rfl⟩ | ⟨y, u, rfl, rfl⟩
      · rw [key_ll] at h; exact wpAny_eqBool_int h
      · rw [key_lr] at h; exact SeqAt.EqAt.int_str i t y u _ _ _ _ h
    · rcases keyIs_shape hv with ⟨j, u, rfl, rfl⟩ | ⟨y, u, rfl, rfl⟩
      · rw [key_rl] at h; exact SeqAt.EqAt.str_int x t j u _ _ _ _ h
      · rw [key_rr] at h; exact wpAny_eqBool_str h
  «strs» := fun k x t v h => by
    rcases keyIs_shape h with ⟨i, u, rfl, e⟩ | ⟨y, u, rfl, e⟩
    · exact nomatch e
    · injection e with e1 _
      subst e1
      cases v <;> rfl

theorem mixKind_int (prog : Program) (w : World) (i : Int) (t : Tok) : (mixKind prog w).is (.inl i) (.int i t) = true := keyIs_int i t
theorem mixKind_str (prog : Program) (w : World) (x : Str) (t : Tok) : (mixKind prog w).is (.inr x) (.str x t) = true := keyIs_str x t
end L2

namespace L2
open PySem PySem.Spec PyProof.Rows

/-- a value, without the heap -/
inductive V where
  | non | bl (b : Bool) | int (i : Int) | str (x : Str) | byt (b : Array UInt8) | flt (b : UInt64) | ref (a : Addr) | ty (n : String)
  deriving DecidableEq

def RelV : V → Value → Prop
  | .non, u => u = Value.none
  | .bl b, u => u = Value.bool b
  | .int i, u => ∃ t, u = Value.int i t
  | .str x, u => ∃ t, u = Value.str x t
  | .byt b, u => ∃ t, u = Value.bytes b t
  | .flt b, u => ∃ t, u = Value.float b t
  | .ref a, u => u = Value.ref a
  | .ty n, u => u = Value.type n

abbrev Vals : List V → List Value → Prop := Paired RelV
theorem Vals.length {xs : List V} {us : List Value} (r : Vals xs us) : xs.length = us.length := Paired.length r
theorem Vals.get : ∀ {xs : List V} {us : List Value} {i : Nat} {x : V}, Vals xs us → xs[i]? = some x → ∃ u, us[i]? = some u ∧ RelV x u
  | _, _, _, _, .nil, e => by simp at e
  | _, _, 0, _, .cons r _, e => by simp at e; subst e; exact ⟨_, rfl, r⟩
  | _, _, i + 1, x, .cons _ t, e => by
    obtain ⟨u, h1, h2⟩ := Vals.get (i := i) (x := x) t (by simpa using e)
    exact ⟨u, by simpa using h1, h2⟩
theorem Vals.append : ∀ {xs ys : List V} {us ws : List Value}, Vals xs us → Vals ys ws → Vals (xs ++ ys) (us ++ ws)
  | _, _, _, _, .nil, s => s
  | _, _, _, _, .cons r t, s => .cons r (Vals.append t s)
theorem Vals.take : ∀ {xs : List V} {us : List Value} (n : Nat), Vals xs us → Vals (xs.take n) (us.take n)
  | _, _, 0, _ => .nil
  | _, _, _ + 1, .nil => .nil
  | _, _, n + 1, .cons r t => .cons r (Vals.take n t)
theorem Vals.drop : ∀ {xs : List V} {us : List Value} (n : Nat), Vals xs us → Vals (xs.drop n) (us.drop n)
  | _, _, 0, r => r
  | _, _, _ + 1, .nil => .nil
  | _, _, n + 1, .cons _ t => Vals.drop n t
def RelO : Option V → Option Value → Prop
  | some v, some u => RelV v u
  | none, none => True
  | _, _ => False
def KV {κ : Type} : List (κ × V) → List (κ × Value) → Prop := Paired fun (p : κ × V) (q : κ × Value) => p.1 = q.1 ∧ RelV p.2 q.2

/-- a key of a dict (00_mix): an int or a text -/
def kV : Key → V
  | .inl i => .int i
  | .inr x => .str x

/-- what stands at a tracked address -/
inductive HO where
  /-- a list -/
  | lst (xs : List V)
  /-- a tuple (never changes) -/
  | tup (xs : List V)
  /-- a dict whose keys are ints and texts; one whose keys are tuples of ints and texts (the empty one is both) -/
  | dK (kvs : List (Key × V)) | dT (kvs : List (List Key × V))
  /-- a set of ints: its members, its size -/
  | set (S : Int → Bool) (n : Nat)
  /-- an instance of the class at C, its dict at dx, its attributes -/
  | ins (C dx : Addr) (fs : List (Str × V))
  /-- the dict of the instance at x -/
  | own (x : Addr)
  /-- the dict of an exception -/
  | xd (fs : List (Str × V))
  /-- a bound method, f of x -/
  | met (f x : Addr)
  /-- a range object lo, lo + 1, .. below hi -/
  | rng (lo hi : Int)
  /-- a thing that is known to the object (the script; a dict while a loop walks it): read, never written while it is so -/
  | frz (o : Obj) (u : HO)
  /-- a code object's table -/
  | tbl (ps : Array Value)
  /-- any other thing, by what is true of its one object (a def of one's own: SetO a S n := HO.ext fun h => ..) -/
  | ext (φ : Heap → Prop)

abbrev Hp := Addr → Option HO
def upd (H : Hp) (a : Addr) (o : HO) : Hp := fun b => if b = a then some o else H b
theorem upd_same {H : Hp} {a : Addr} {o : HO} : upd H a o a = some o := by unfold upd; rw [if_pos rfl]
theorem upd_ne {H : Hp} {a b : Addr} {o : HO} (h : b ≠ a) : upd H a o b = H b := by unfold upd; rw [if_neg h]
theorem upd_upd {H : Hp} {a : Addr} {o u : HO} : upd (upd H a o) a u = upd H a u := by
  funext b; unfold upd; split <;> rfl
/-- two objects of different content stand apart -/
theorem ne_of {H : Hp} {a b : Addr} {o u : HO} (h : H a = some o) (h' : H b = some u) (d : o ≠ u) : a ≠ b := by
  intro e; subst e; rw [h] at h'; exact d (Option.some.inj h')
theorem ne_of_none {H : Hp} {a b : Addr} {o : HO} (h : H a = some o) (h' : H b = none) : a ≠ b := by
  intro e; subst e; rw [h] at h'; cases h'

section
variable (P : Program) (w : World)
def ObjOk (H : Hp) (h : Heap) (a : Addr) : HO → Prop
  | .lst xs => xs.length ≤ sizeLine ∧ ∃ (its : List Value) (n : Nat), Vals xs its ∧ h.get? a = some { cls := .type "list", data := .seq its.toArray n }
  | .tup xs => xs.length ≤ sizeLine ∧ ∃ its : List Value, Vals xs its ∧ IsTup h a its.toArray
  | .dK kvs => kvs.length ≤ sizeLine ∧ (a == sysModules) = false ∧ ∃ vs, KV kvs vs ∧ h.DictOf (mixKind P w) a vs
  | .dT kvs => kvs.length ≤ sizeLine ∧ (a == sysModules) = false ∧ ∃ xs : List (List Key × Addr × Value),
      Paired (fun (p : List Key × V) (q : List Key × Addr × Value) => p.1 = q.1 ∧ H q.2.1 = some (.tup (p.1.map kV)) ∧ RelV p.2 q.2.2) kvs xs ∧
      ∃ o es ep, h.get? a = some o ∧ o.ExactDict ∧ o.data = .dict es ep ∧ es.toList = xs.map (entryOfKey (tupleKind (mixKind P w))) ∧ (xs.map (·.1)).Nodup
  | .set S n => h.SetOf (intKind P w) a S n
  | .ins C dx fs => H dx = some (.own a) ∧ fs.length ≤ 1000 ∧ dx ≠ a ∧ h.get? a = some (PySem.W.instObj C dx) ∧
      ∃ mA, h.Ns1 dx mA ∧ (∀ f, RelO (fs.lookup f) (mA f)) ∧ PySem.Within mA (fs.map (·.1))
  | .own _ => ∃ o, h.get? a = some o
  | .xd fs => ∃ mA, h.Ns1 a mA ∧ ∀ f, RelO (fs.lookup f) (mA f)
  | .rng lo hi => ∃ t u v, h.get? a = some { cls := .type "range", data := .fields #[.int lo t, .int hi u, .int 1 v] }
  | .frz o u => h.get? a = some o ∧ ObjOk H h a u
  | .tbl ps => h.get? a = some { cls := .none, data := .fields ps }
  | .met f x => h.get? a = some (PySem.W.methodObj (.ref f) (.ref x))
  | .ext φ => φ h ∧ (∃ o, h.get? a = some o) ∧ ∀ h1 h2 : Heap, φ h1 → (∀ o, h1.get? a = some o → h2.get? a = some o) → φ h2
/-- the abstract heap is held -/
def HOk (H : Hp) (h : Heap) : Prop := ∀ a o, H a = some o → ObjOk P w H h a o
end

section
variable {P : Program} {w : World} {H H' : Hp} {h h' : Heap} {a : Addr} {o : HO}
theorem ObjOk.lt (x : ObjOk P w H h a o) : a < h.objs.size := by
  cases o with
  | lst xs => obtain ⟨_, _, _, _, e⟩ := x; exact Heap.lt_size e
  | tup xs => obtain ⟨_, _, _, p⟩ := x; exact p.lt
  | dK kvs => obtain ⟨_, _, _, _, o, _, _, e, _⟩ := x; exact Heap.lt_size e
  | dT kvs => obtain ⟨_, _, _, _, o, _, _, e, _⟩ := x; exact Heap.lt_size e
  | set S n => obtain ⟨o, _, _, _, e, _⟩ := x; exact Heap.lt_size e
  | ins C dx fs => obtain ⟨_, _, _, e, _⟩ := x; exact Heap.lt_size e
  | own y => obtain ⟨_, e⟩ := x; exact Heap.lt_size e
  | xd fs => obtain ⟨_, ⟨_, _, _, e, _⟩, _⟩ := x; exact Heap.lt_size e
  | rng lo hi => obtain ⟨_, _, _, e⟩ := x; exact Heap.lt_size e
  | frz ob u => obtain ⟨e, _⟩ := x; exact Heap.lt_size e
  | tbl ps => exact Heap.lt_size (show h.get? a = some _ from x)
  | met f y => exact Heap.lt_size (show h.get? a = some _ from x)
  | ext φ => obtain ⟨_, ⟨_, e⟩, _⟩ := x; exact Heap.lt_size e
theorem Paired.mapP {α β : Type} {F G : α → β → Prop} : ∀ {l₁ : List α} {l₂ : List β}, Paired F l₁ l₂ → (∀ a b, F a b → G a b) → Paired G l₁ l₂
  | _, _, .nil, _ => .nil
  | _, _, .cons r t, f => .cons (f _ _ r) (Paired.mapP t f)
/-- what an object's description leans on: its own object, its own dict, the tuples -/
theorem ObjOk.stay (x : ObjOk P w H h a o) (k : ∀ b u, (b = a ∨ H b = some (.own a)) → h.get? b = some u → h'.get? b = some u)
    (ho : ∀ b, H b = some (.own a) → H' b = some (.own a)) (ht : ∀ b xs, H b = some (.tup xs) → H' b = some (.tup xs)) : ObjOk P w H' h' a o := by
  induction o with
  | lst xs => obtain ⟨z, its, n, r, e⟩ := x; exact ⟨z, its, n, r, k _ _ (.inl rfl) e⟩
  | tup xs => obtain ⟨z, its, r, ob, e, c⟩ := x; exact ⟨z, its, r, ob, k _ _ (.inl rfl) e, c⟩
  | dK kvs => obtain ⟨z, y, vs, r, ob, es, ep, e, c⟩ := x; exact ⟨z, y, vs, r, ob, es, ep, k _ _ (.inl rfl) e, c⟩
  | dT kvs =>
    obtain ⟨z, y, xs, r, ob, es, ep, e, c⟩ := x
    exact ⟨z, y, xs, Paired.mapP r fun p q z => ⟨z.1, ht _ _ z.2.1, z.2.2⟩, ob, es, ep, k _ _ (.inl rfl) e, c⟩
  | set S n => obtain ⟨ob, es, ep, t, e, c⟩ := x; exact ⟨ob, es, ep, t, k _ _ (.inl rfl) e, c⟩
  | ins C dx fs =>
    obtain ⟨d, z, ne, e, mA, ⟨od, es, ep, e2, c⟩, r⟩ := x
    exact ⟨ho _ d, z, ne, k _ _ (.inl rfl) e, mA, ⟨od, es, ep, k _ _ (.inr d) e2, c⟩, r⟩
  | own y => obtain ⟨ob, e⟩ := x; exact ⟨ob, k _ _ (.inl rfl) e⟩
  | xd fs => obtain ⟨mA, ⟨od, es, ep, e, c⟩, r⟩ := x; exact ⟨mA, ⟨od, es, ep, k _ _ (.inl rfl) e, c⟩, r⟩
  | rng lo hi => obtain ⟨t, u, v, e⟩ := x; exact ⟨t, u, v, k _ _ (.inl rfl) e⟩
  | frz ob u ih => obtain ⟨e, q⟩ := x; exact ⟨k _ _ (.inl rfl) e, ih q⟩
  | tbl ps =>
    have e : h.get? a = some { cls := .none, data := .fields ps } := x
    show h'.get? a = some { cls := .none, data := .fields ps }
    exact k a _ (.inl rfl) e
  | met f y =>
    have e : h.get? a = some (PySem.W.methodObj (.ref f) (.ref y)) := x
    show h'.get? a = some (PySem.W.methodObj (.ref f) (.ref y))
    exact k a _ (.inl rfl) e
  | ext φ => obtain ⟨p, ⟨o, e⟩, st⟩ := x; exact ⟨st _ _ p fun o q => k _ _ (.inl rfl) q, ⟨o, k _ _ (.inl rfl) e⟩, st⟩
theorem HOk.lt (x : HOk P w H h) (e : H a = some o) : a < h.objs.size := (x a o e).lt
theorem HOk.fresh (x : HOk P w H h) (e : h.objs.size ≤ a) : H a = none := by
  cases q : H a with
  | none => rfl
  | some u => exact absurd (Nat.lt_of_lt_of_le (x.lt q) e) (Nat.lt_irrefl _)
/-- every object of the heap is kept -/
theorem HOk.kept (x : HOk P w H h) (k : ∀ b u, h.get? b = some u → h'.get? b = some u) : HOk P w H h' := fun a o e =>
  (x a o e).stay (fun b u _ q => k b u q) (fun _ q => q) fun _ _ q => q
/-- a new object is laid and tracked -/
theorem HOk.laid (x : HOk P w H h) (k : ∀ b u, h.get? b = some u → h'.get? b = some u) (hp : h.objs.size ≤ a) (new : ObjOk P w (upd H a o) h' a o) : HOk P w (upd H a o) h' := fun b u e => by
  have hn := x.fresh hp
  by_cases hb : b = a
  · subst hb; rw [upd_same] at e; cases e; exact new
  · rw [upd_ne hb] at e
    exact (x b u e).stay (fun c v _ q => k c v q) (fun c q => by rw [upd_ne (ne_of_none q hn)]; exact q) fun c xs q => by rw [upd_ne (ne_of_none q hn)]; exact q
end

/-- what may be read as u: it is u, or a known u -/
def Rd (H : Hp) (a : Addr) (u : HO) : Prop := H a = some u ∨ ∃ o, H a = some (.frz o u)
theorem Rd.ok {P : Program} {w : World} {H : Hp} {h : Heap} {a : Addr} {u : HO} (r : Rd H a u) (x : HOk P w H h) : ObjOk P w H h a u := by
  rcases r with r | ⟨o, r⟩
  · exact x a u r
  · obtain ⟨_, q⟩ := x a _ r
    exact q
/-- what may be written -/
def Mut : Option HO → Prop
  | some (.lst _) => True
  | some (.dK _) => True
  | some (.dT _) => True
  | some (.set _ _) => True
  | some (.ins _ _ _) => True
  | some (.ext _) => True
  | _ => False
section
variable {P : Program} {w : World} {H : Hp} {h h' : Heap} {x e : Addr} {o' : HO}
/-- the object at e is changed: x itself, or the dict of the instance x -/
theorem HOk.write (ok : HOk P w H h) (mu : Mut (H x)) (he : e = x ∨ H e = some (.own x)) (k : ∀ b u, b ≠ e → h.get? b = some u → h'.get? b = some u) (heo : ∃ u, h'.get? e = some u)
    (new : ObjOk P w (upd H x o') h' x o') : HOk P w (upd H x o') h' := fun b u q => by
  have nown : ∀ c y, H c = some (.own y) → c ≠ x := fun c y r z => by subst z; rw [r] at mu; exact mu
  have ntup : ∀ c xs, H c = some (.tup xs) → c ≠ x := fun c xs r z => by subst z; rw [r] at mu; exact mu
  by_cases hb : b = x
  · subst hb; rw [upd_same] at q; cases q; exact new
  · rw [upd_ne hb] at q
    by_cases hbe : b = e
    · have q' : H b = some (.own x) := by
        rcases he with z | z
        · exact absurd (hbe.trans z) hb
        · rw [hbe]; exact z
      rw [q] at q'; cases q'
      obtain ⟨v, hv⟩ := heo
      exact ⟨v, by rw [hbe]; exact hv⟩
    · refine (ok b u q).stay (fun c v hc r => k c v ?_ r) (fun c r => by rw [upd_ne (nown c b r)]; exact r) fun c xs r => by rw [upd_ne (ntup c xs r)]; exact r
      rcases hc with rfl | hc
      · exact hbe
      · rintro rfl
        rcases he with z | z
        · exact nown c b hc z
        · rw [hc] at z; cases z; exact hb rfl
end

/-! ### kept unless tracked; of the frames at fs (the callers') the slots may change (an exception that passes writes there); of the records at ex (iterators) nothing is said -/
structure Un (fs ex : List Addr) (H H' : Hp) (h h' : Heap) : Prop where
  keep : ∀ b o, h.get? b = some o → H b = none → b ∉ fs → b ∉ ex → h'.get? b = some o
  slot : ∀ b o, h.get? b = some o → H b = none → b ∈ fs → b ∉ ex → ∃ sl, h'.get? b = some { o with slots := sl }
  free : ∀ b o, h.get? b = some o → H b = none → b ∉ ex → H' b = none
  there : ∀ b o, h.get? b = some o → b ∉ ex → ∃ o', h'.get? b = some o'
  tups : ∀ b xs, H b = some (.tup xs) → H' b = some (.tup xs)
  frzs : ∀ b o u, H b = some (.frz o u) → H' b = some (.frz o u)
  tbls : ∀ b ps, H b = some (.tbl ps) → ∃ more, H' b = some (.tbl (ps ++ more))
section
variable {fs fs' ex ex' : List Addr} {H H1 H2 : Hp} {h h1 h2 h' : Heap} {a x e : Addr} {o : HO}
theorem Un.any (u : Un fs ex H H1 h h1) {b : Addr} {ob : Obj} (q : h.get? b = some ob) (n : H b = none) (hx : b ∉ ex) : ∃ sl, h1.get? b = some { ob with slots := sl } := by
  by_cases hb : b ∈ fs
  · exact u.slot b ob q n hb hx
  · exact ⟨ob.slots, u.keep b ob q n hb hx⟩
theorem Un.kept (k : ∀ b u, h.get? b = some u → h'.get? b = some u) : Un fs ex H H h h' :=
  ⟨fun b ob q _ _ _ => k b ob q, fun b ob q _ _ _ => ⟨ob.slots, k b ob q⟩, fun _ _ _ n _ => n, fun b ob q _ => ⟨ob, k b ob q⟩, fun _ _ q => q, fun _ _ _ q => q, fun _ ps q => ⟨#[], by rw [q]; simp⟩⟩
theorem Un.refl : Un fs ex H H h h := Un.kept fun _ _ q => q
theorem Un.laid (k : ∀ b u, h.get? b = some u → h'.get? b = some u) (hp : h.objs.size ≤ a) (hn : H a = none) : Un fs ex H (upd H a o) h h' where
  keep := fun b u q _ _ _ => k b u q
  slot := fun b u q _ _ _ => ⟨u.slots, k b u q⟩
  free := fun b u q n _ => by rw [upd_ne (Nat.ne_of_lt (Nat.lt_of_lt_of_le (Heap.lt_size q) hp))]; exact n
  there := fun b u q _ => ⟨u, k b u q⟩
  tups := fun b xs q => by rw [upd_ne (ne_of_none q hn)]; exact q
  frzs := fun b u xs q => by rw [upd_ne (ne_of_none q hn)]; exact q
  tbls := fun b ps q => ⟨#[], by rw [upd_ne (ne_of_none q hn), q]; simp⟩
theorem Un.write (mu : Mut (H x)) (he : e = x ∨ H e = some (.own x)) (k : ∀ b u, b ≠ e → h.get? b = some u → h'.get? b = some u) (heo : ∃ u, h'.get? e = some u) : Un fs ex H (upd H x o) h h' := by
  have hx : ∀ b, H b = none → b ≠ x := fun b n z => by subst z; rw [n] at mu; exact mu
  have hb : ∀ b, H b = none → b ≠ e := fun b n z => by
    subst z
    rcases he with r | r
    · exact hx b n r
    · rw [n] at r; cases r
  have hm : ∀ b u, H b = some u → ¬ Mut (some u) → b ≠ x := fun b u q nm z => by subst z; rw [q] at mu; exact nm mu
  refine ⟨fun b u q n _ _ => k b u (hb b n) q, fun b u q n _ _ => ⟨u.slots, k b u (hb b n) q⟩, fun b u q n _ => by rw [upd_ne (hx b n)]; exact n, fun b u q _ => ?_,
    fun b xs q => by rw [upd_ne (hm b _ q fun z => z)]; exact q, fun b u xs q => by rw [upd_ne (hm b _ q fun z => z)]; exact q, fun b ps q => ⟨#[], by rw [upd_ne (hm b _ q fun z => z), q]; simp⟩⟩
  by_cases hbe : b = e
  · subst hbe; exact heo
  · exact ⟨u, k b u hbe q⟩
end

/-! ### the heap without what is tracked -/
def trk (h : Heap) (H : Hp) : List Addr := (List.range h.objs.size).filter fun a => (H a).isSome
def hidT (h : Heap) (H : Hp) : Heap := PySem.W.hideAll h (trk h H)
theorem hidT_size (h : Heap) (H : Hp) : (hidT h H).objs.size = h.objs.size := PySem.W.hideAll_size _ _
theorem hidT_get {h : Heap} {H : Hp} {b : Addr} {o : Obj} (e : h.get? b = some o) (n : H b = none) : (hidT h H).get? b = some o :=
  PySem.W.hideAll_get _ e fun hm => by
    have q : (H b).isSome = true := (List.mem_filter.mp hm).2
    rw [n] at q; simp at q
theorem of_hidT {h : Heap} {H : Hp} {b : Addr} {o : Obj} (e : (hidT h H).get? b = some o) : h.get? b = some o ∧ H b = none := by
  have e' : h.get? b = some o := PySem.W.of_hideAll (trk h H) e
  refine ⟨e', ?_⟩
  cases q : H b with
  | none => rfl
  | some x =>
    have hm : b ∈ trk h H := List.mem_filter.mpr ⟨List.mem_range.mpr (Heap.lt_size e'), by simp [q]⟩
    have z : (hidT h H).get? b = none := PySem.W.hideAll_none (trk h H) hm
    rw [z] at e; cases e

/-! ### OpenK's ledger, filled with every new object but one -/
def allNews (g h : Heap) (L : Addr) : List (Addr × Obj) := (List.range h.objs.size).filterMap fun a => if a = L ∨ (g.get? a).isSome = true then none else (h.get? a).map fun o => (a, o)
def rest (g h : Heap) (L d : Addr) : List (Addr × Obj) := (allNews g h L).filter fun p => decide (p.1 ≠ d)
end L2

namespace L2
open PySem PySem.Spec PyProof.Rows

/-- the module's facts, over the base: the heap at the law's entry without what is tracked there -/
structure Mod (K : PySem.W.Frag) (mg : Str → Option Value) (base : Heap) : Prop where
  kin : K.In base
  glob : base.Ns mainGlobals mg
  blt : ∃ mb, base.Ns builtinsNs mb ∧ ∀ x : Str, x ≠ "__name__" → mb x = bootBuiltins x
  nolimit : base.NoLimit

/-- the context: a def's body (or a comprehension's block) running. base: fixed through the whole law; s₀, H₀: the entry; outer: the frames whose slots others may change (a def's callers); stack: all frames that run;
   ex: iterators that were made ahead of the entry and are walked here (a comprehension's); fn: the names whose cells were made at the entry (a def: all; a comprehension's block: its own); calm: not within an except suite; pn: pins that every state bears; xe: what is wanted of an exception that leaves the code -/
structure Cx where
  prog : Program
  w : World
  K : PySem.W.Frag
  mg : Str → Option Value
  base : Heap
  A : Around
  N : List Str
  s₀ : Shared
  H₀ : Hp
  env : Env
  outer : List Env
  stack : List Env
  ex : List Addr
  fn : Str → Bool
  calm : Bool
  pn : List (Addr × Obj)
  xe : Value → Shared → Prop
/-- the callers' frames -/
def frs (l : List Env) : List Addr := l.filterMap (·.frame)
abbrev Cx.fs (X : Cx) : List Addr := frs X.outer

def Vis (sc : Scope) (x : Str) : Prop := sc.names.lookup x = some .local ∨ sc.names.lookup x = some .cell ∨ sc.names.lookup x = some .free
def Loc (sc : Scope) (x : Str) : Prop := sc.names.lookup x = some .local ∨ sc.names.lookup x = some .cell
def Look (env : Env) (h : Heap) (m : Str → Option Value) (x : Str) (u : Value) : Prop :=
  (env.kindOf x = some .local ∧ m x = some u) ∨ ((env.kindOf x = some .cell ∨ env.kindOf x = some .free) ∧ ∃ c, env.cells.lookup x = some c ∧ h.IsCell c (some u))

structure Cx.Ok (X : Cx) : Prop where
  mod : Mod X.K X.mg X.base
  kind : X.env.scope.kind = .function
  glob : X.env.globals = mainGlobals
  blt : X.env.builtins = builtinsNs
  above : X.s₀.heap.objs.size ≤ X.env.locals
  inj : ∀ x y c, X.env.cells.lookup x = some c → X.env.cells.lookup y = some c → x = y
  has : ∀ x, (X.env.kindOf x = some .cell ∨ X.env.kindOf x = some .free) → ∃ c, X.env.cells.lookup x = some c
  cab : ∀ x c, X.fn x = true → X.env.cells.lookup x = some c → X.s₀.heap.objs.size ≤ c
  hd : X.calm = true → X.A.handled = none
  frames : X.A.frames = some X.stack
  stk : X.stack = X.outer ∨ (X.stack = X.env :: X.outer ∧ X.env.frame = some X.env.locals)
  exf : ∀ b ∈ X.ex, b ≠ X.env.locals ∧ ∀ x c, X.env.cells.lookup x = some c → c ≠ b
  bs : ∀ b o, X.base.get? b = some o → X.s₀.heap.get? b = some o ∧ X.H₀ b = none
  bsz : X.base.objs.size ≤ X.s₀.heap.objs.size
  noex : ∀ b o, X.base.get? b = some o → b ∉ X.ex
  exfs : ∀ b ∈ X.ex, b ∉ X.fs
  funs : X.s₀.heap.FunFrames X.base X.outer
  frf : ∀ b ∈ X.fs, X.H₀ b = none

structure Inv (X : Cx) (pins : List (Addr × Obj)) (σ : List (Option V)) (H : Hp) (s : Shared) : Prop where
  ok : X.Ok
  os : s.os = X.s₀.os
  bare : AllBare s.gens
  base : Un X.fs X.ex X.H₀ H X.s₀.heap s.heap
  loc : ∃ m, s.heap.Ns X.env.locals m ∧ ∀ (i : Nat) (x : Str) (v : V), X.N[i]? = some x → σ[i]? = some (some v) → Vis X.env.scope x → ∃ u, RelV v u ∧ Look X.env s.heap m x u
  cell : ∀ x c, X.env.cells.lookup x = some c → ∃ v, s.heap.IsCell c v
  free : H X.env.locals = none
  freeC : ∀ x c, X.env.cells.lookup x = some c → H c = none
  pin : ∀ p ∈ X.pn ++ pins, s.heap.get? p.1 = some p.2 ∧ H p.1 = none ∧ p.1 ≠ X.env.locals ∧ p.1 ∉ X.fs ∧ ∀ v, p.2.data ≠ .cell v
  hok : HOk X.prog X.w H s.heap
  len : σ.length = X.N.length

section
variable {X : Cx} {pins : List (Addr × Obj)} {σ : List (Option V)} {H H' : Hp} {s : Shared} {h' : Heap}

theorem Cx.Ok.nofr (ok : X.Ok) {b : Addr} {o : Obj} (e : X.base.get? b = some o) : b ∉ X.fs := fun hb => by
  have := (ok.funs.mem hb).1
  rw [e] at this; cases this
theorem Inv.bs (I : Inv X pins σ H s) : ∀ b o, X.base.get? b = some o → s.heap.get? b = some o ∧ H b = none := fun b o e =>
  ⟨I.base.keep b o (I.ok.bs b o e).1 (I.ok.bs b o e).2 (I.ok.nofr e) (I.ok.noex b o e), I.base.free b o (I.ok.bs b o e).1 (I.ok.bs b o e).2 (I.ok.noex b o e)⟩
theorem Inv.bk (I : Inv X pins σ H s) : ∀ b o, X.base.get? b = some o → s.heap.get? b = some o := fun b o e => (I.bs b o e).1
theorem Inv.mod (I : Inv X pins σ H s) : Mod X.K X.mg X.base := I.ok.mod
theorem Inv.kIn (I : Inv X pins σ H s) : X.K.In s.heap := I.ok.mod.kin.keeps I.bk
theorem Inv.lt (I : Inv X pins σ H s) : X.env.locals < s.heap.objs.size := let ⟨_, hn, _⟩ := I.loc; hn.lt
theorem Inv.sz (I : Inv X pins σ H s) : X.s₀.heap.objs.size ≤ s.heap.objs.size := Nat.le_trans I.ok.above (Nat.le_of_lt I.lt)
theorem Inv.nofs (I : Inv X pins σ H s) {a : Addr} (h : s.heap.objs.size ≤ a) : a ∉ X.fs := fun hb => by
  obtain ⟨_, o, ho, _⟩ := I.ok.funs.mem hb
  exact absurd (Nat.lt_of_lt_of_le (Heap.lt_size ho) (Nat.le_trans I.sz h)) (Nat.lt_irrefl _)
theorem Inv.cne (I : Inv X pins σ H s) : ∀ x c, X.env.cells.lookup x = some c → c ≠ X.env.locals := fun x c e z => by
  obtain ⟨v, o, ho, hd⟩ := I.cell x c e
  obtain ⟨m, ⟨o', es, ep, ho', hd', _⟩, _⟩ := I.loc
  rw [z, ho'] at ho; cases ho; rw [hd'] at hd; cases hd
theorem Inv.funs (I : Inv X pins σ H s) : s.heap.FunFrames X.base X.outer := by
  have all : ∀ (l : List Env), (∀ b ∈ frs l, b ∈ X.fs) → X.s₀.heap.FunFrames X.base l → s.heap.FunFrames X.base l := by
    intro l
    induction l with
    | nil => intro _ _; trivial
    | cons env r ih =>
      intro hs hl
      obtain ⟨hk, ⟨L, o, hf, hn, ho, hd⟩, hr⟩ := hl
      have hL : L ∈ X.fs := hs L (by unfold frs; rw [List.filterMap_cons, hf]; exact List.mem_cons_self)
      obtain ⟨sl, e⟩ := I.base.slot L o ho (I.ok.frf L hL) hL fun z => I.ok.exfs L z hL
      exact ⟨hk, ⟨L, _, hf, hn, e, hd⟩, ih (fun b hb => hs b (by unfold frs; rw [List.filterMap_cons, hf]; exact List.mem_cons_of_mem _ hb)) hr⟩
  exact all X.outer (fun _ hb => hb) I.ok.funs

/-- the frames that run, for a call -/
theorem Inv.stack (I : Inv X pins σ H s) : s.heap.FunFrames X.base X.stack := by
  rcases I.ok.stk with e | ⟨e, hf⟩
  · rw [e]; exact I.funs
  · rw [e]
    obtain ⟨m, hn, _⟩ := I.loc
    refine .cons (by rw [I.ok.kind]; decide) hf hn ?_ I.funs
    exact Heap.get?_none_of_le (Nat.le_trans I.ok.bsz I.ok.above)
theorem Inv.stkSub (I : Inv X pins σ H s) : ∀ b ∈ frs X.stack, b ∈ X.env.locals :: X.fs := fun b hb => by
  rcases I.ok.stk with e | ⟨e, hf⟩
  · rw [e] at hb; exact List.mem_cons_of_mem _ hb
  · rw [e] at hb
    unfold frs at hb
    rw [List.filterMap_cons, hf] at hb
    exact hb
theorem Inv.stkFree (I : Inv X pins σ H s) : ∀ b ∈ frs X.stack, H b = none := fun b hb => by
  rcases List.mem_cons.mp (I.stkSub b hb) with e | hb
  · rw [e]; exact I.free
  · obtain ⟨_, o, ho, _⟩ := I.ok.funs.mem hb
    exact I.base.free b o ho (I.ok.frf b hb) fun z => I.ok.exfs b z hb

/-- THE STEP: the untracked objects but the frame and the records at ch are kept (the callers' frames up to slots), the frame's map is kept, the new abstract heap is held -/
theorem Inv.step {g' : Array GenState} {t' : Nat} {d' : Drawn} {ch : List Addr} (I : Inv X pins σ H s)
    (hch : ∀ b ∈ ch, (b ∈ X.ex ∨ X.s₀.heap.objs.size ≤ b) ∧ b ≠ X.env.locals ∧ (∀ x c, X.env.cells.lookup x = some c → c ≠ b) ∧ ∀ p ∈ X.pn ++ pins, p.1 ≠ b)
    (keep : ∀ b o, b ≠ X.env.locals → b ∉ X.fs → b ∉ ch → s.heap.get? b = some o → H b = none → h'.get? b = some o)
    (slot : ∀ b o, b ≠ X.env.locals → b ∈ X.fs → b ∉ ch → s.heap.get? b = some o → H b = none → ∃ sl, h'.get? b = some { o with slots := sl }) (free : ∀ b o, b ∉ ch → s.heap.get? b = some o → H b = none → H' b = none)
    (there : ∀ b o, b ∉ ch → s.heap.get? b = some o → ∃ o', h'.get? b = some o')
    (tups : ∀ b xs, H b = some (.tup xs) → H' b = some (.tup xs)) (frzs : ∀ b o u, H b = some (.frz o u) → H' b = some (.frz o u)) (tbls : ∀ b ps, H b = some (.tbl ps) → ∃ more, H' b = some (.tbl (ps ++ more)))
    (ns : ∀ m, s.heap.Ns X.env.locals m → h'.Ns X.env.locals m) (hok : HOk X.prog X.w H' h') (hg : AllBare g') :
    Inv X pins σ H' { s with heap := h', gens := g', drawn := d', toks := t' } := by
  have neL : ∀ b o, X.s₀.heap.get? b = some o → b ≠ X.env.locals := fun b o e => Nat.ne_of_lt (Nat.lt_of_lt_of_le (Heap.lt_size e) I.ok.above)
  have neC : ∀ b o, X.s₀.heap.get? b = some o → b ∉ X.ex → b ∉ ch := fun b o e hx hb => by
    rcases (hch b hb).1 with z | z
    · exact hx z
    · exact absurd (Nat.lt_of_lt_of_le (Heap.lt_size e) z) (Nat.lt_irrefl _)
  have cellK : ∀ x c, X.env.cells.lookup x = some c → ∀ v, s.heap.IsCell c v → h'.IsCell c v := fun x c e v ⟨o, ho, hd⟩ => by
    have nch : c ∉ ch := fun z => (hch c z).2.2.1 x c e rfl
    by_cases hc : c ∈ X.fs
    · obtain ⟨sl, q⟩ := slot c o (I.cne x c e) hc nch ho (I.freeC x c e)
      exact ⟨_, q, hd⟩
    · exact ⟨o, keep c o (I.cne x c e) hc nch ho (I.freeC x c e), hd⟩
  refine ⟨I.ok, I.os, hg, ⟨fun b o e n hb hx => ?_, fun b o e n hb hx => ?_, fun b o e n hx => ?_, fun b o e hx => ?_, fun b xs e => tups b xs (I.base.tups b xs e), fun b o xs e => frzs b o xs (I.base.frzs b o xs e), fun b ps e => ?_⟩, ?_, fun x c e => ?_, ?_, fun x c e => ?_, fun p hp => ?_, hok, I.len⟩
  · exact keep b o (neL b o e) hb (neC b o e hx) (I.base.keep b o e n hb hx) (I.base.free b o e n hx)
  · obtain ⟨sl, e1⟩ := I.base.slot b o e n hb hx
    obtain ⟨sl', e2⟩ := slot b _ (neL b o e) hb (neC b o e hx) e1 (I.base.free b o e n hx)
    exact ⟨sl', e2⟩
  · obtain ⟨o', e1⟩ := I.base.there b o e hx
    exact free b o' (neC b o e hx) e1 (I.base.free b o e n hx)
  · obtain ⟨o', e1⟩ := I.base.there b o e hx
    exact there b o' (neC b o e hx) e1
  · obtain ⟨m1, e1⟩ := I.base.tbls b ps e
    obtain ⟨m2, e2⟩ := tbls b _ e1
    exact ⟨m1 ++ m2, by rw [e2, Array.append_assoc]⟩
  · obtain ⟨m, hn, hl⟩ := I.loc
    refine ⟨m, ns m hn, fun i x v e1 e2 e3 => ?_⟩
    obtain ⟨u, r, l⟩ := hl i x v e1 e2 e3
    refine ⟨u, r, ?_⟩
    rcases l with l | ⟨k, c, e, z⟩
    · exact .inl l
    · exact .inr ⟨k, c, e, cellK x c e _ z⟩
  · obtain ⟨v, z⟩ := I.cell x c e
    exact ⟨v, cellK x c e v z⟩
  · obtain ⟨m, ⟨o, _, _, ho, _⟩, _⟩ := I.loc
    exact free _ o (fun z => (hch _ z).2.1 rfl) ho I.free
  · obtain ⟨v, o, ho, hd⟩ := I.cell x c e
    exact free c o (fun z => (hch c z).2.2.1 x c e rfl) ho (I.freeC x c e)
  · obtain ⟨e, n, ne, nf, d⟩ := I.pin p hp
    have nch : p.1 ∉ ch := fun z => (hch p.1 z).2.2.2 p hp rfl
    exact ⟨keep p.1 p.2 ne nf nch e n, free p.1 p.2 nch e n, ne, nf, d⟩
/-- .. where the frame's own object is kept too -/
theorem Inv.un {t' : Nat} (I : Inv X pins σ H s) (u : Un X.fs [] H H' s.heap h') (hok : HOk X.prog X.w H' h') : Inv X pins σ H' { s with heap := h', toks := t' } := by
  obtain ⟨m, ⟨o, es, ep, ho, r⟩, _⟩ := id I.loc
  obtain ⟨sl, hL⟩ := u.any ho I.free (by simp)
  exact I.step (g' := s.gens) (d' := s.drawn) (ch := []) (fun _ z => nomatch z) (fun b o _ hb _ e n => u.keep b o e n hb (by simp)) (fun b o _ hb _ e n => u.slot b o e n hb (by simp)) (fun b o _ e n => u.free b o e n (by simp)) (fun b o _ e => u.there b o e (by simp)) u.tups u.frzs u.tbls (fun m' hm => by
    obtain ⟨o', es', ep', ho', r'⟩ := hm
    rw [ho] at ho'; cases ho'
    exact ⟨_, es', ep', hL, r'⟩) hok I.bare
/-- behind a call (or a comprehension's block): the slots of this frame may have changed too, the records at ch may have turned -/
theorem Inv.call {g' : Array GenState} {t' : Nat} {d' : Drawn} {ch : List Addr} (I : Inv X pins σ H s) (u : Un (frs X.stack) ch H H' s.heap h') (hok : HOk X.prog X.w H' h') (hg : AllBare g')
    (hch : ∀ b ∈ ch, (b ∈ X.ex ∨ X.s₀.heap.objs.size ≤ b) ∧ b ≠ X.env.locals ∧ (∀ x c, X.env.cells.lookup x = some c → c ≠ b) ∧ ∀ p ∈ X.pn ++ pins, p.1 ≠ b) :
    Inv X pins σ H' { s with heap := h', gens := g', drawn := d', toks := t' } := by
  obtain ⟨m, ⟨o, es, ep, ho, r⟩, _⟩ := id I.loc
  obtain ⟨sl, hL⟩ := u.any ho I.free fun z => (hch _ z).2.1 rfl
  exact I.step (ch := ch) hch (fun b o hL hb hc e n => u.keep b o e n (fun z => (List.mem_cons.mp (I.stkSub b z)).elim hL hb) hc) (fun b o _ _ hc e n => u.any e n hc) (fun b o hc e n => u.free b o e n hc) (fun b o hc e => u.there b o e hc) u.tups u.frzs u.tbls (fun m' hm => by
    obtain ⟨o', es', ep', ho', r'⟩ := hm
    rw [ho] at ho'; cases ho'
    exact ⟨_, es', ep', hL, r'⟩) hok hg
/-- an untracked record of ours (an iterator) has turned -/
theorem Inv.turned {t' : Nat} {it : Addr} (I : Inv X pins σ H s) (k : ∀ b o, b ≠ it → s.heap.get? b = some o → h'.get? b = some o) (hn : H it = none) (hL : it ≠ X.env.locals)
    (h1 : it ∈ X.ex ∨ X.s₀.heap.objs.size ≤ it) (h2 : ∀ x c, X.env.cells.lookup x = some c → c ≠ it) (h3 : ∀ p ∈ X.pn ++ pins, p.1 ≠ it) : Inv X pins σ H { s with heap := h', toks := t' } := by
  have nit : ∀ b u, H b = some u → b ≠ it := fun b u e z => by rw [z, hn] at e; cases e
  refine I.step (g' := s.gens) (d' := s.drawn) (ch := [it]) (fun b hb => ?_) (fun b o _ _ hc e _ => k b o (fun z => hc (by simp [z])) e) (fun b o _ _ hc e _ => ⟨o.slots, k b o (fun z => hc (by simp [z])) e⟩) (fun _ _ _ _ n => n)
    (fun b o hc e => ⟨o, k b o (fun z => hc (by simp [z])) e⟩) (fun _ _ e => e) (fun _ _ _ e => e) (fun b ps e => ⟨#[], by rw [e]; simp⟩) (fun m hm => ?_) (fun b u e => ?_) I.bare
  · have e : b = it := by simpa using hb
    subst e
    exact ⟨h1, hL, h2, h3⟩
  · obtain ⟨o, es, ep, ho, r⟩ := hm
    exact ⟨o, es, ep, k _ o (Ne.symm hL) ho, r⟩
  · refine (I.hok b u e).stay (fun c v hc q => k c v ?_ q) (fun _ q => q) fun _ _ q => q
    rcases hc with z | z
    · rw [z]; exact nit b u e
    · exact nit c _ z
theorem Inv.tok (I : Inv X pins σ H s) (t : Nat) : Inv X pins σ H { s with toks := t } := I.un (h' := s.heap) (t' := t) Un.refl I.hok
/-- all objects kept -/
theorem Inv.kept {t' : Nat} (I : Inv X pins σ H s) (k : ∀ b u, s.heap.get? b = some u → h'.get? b = some u) : Inv X pins σ H { s with heap := h', toks := t' } := I.un (Un.kept k) (I.hok.kept k)
/-- a new object laid and tracked -/
theorem Inv.laid {a : Addr} {o : HO} {t' : Nat} (I : Inv X pins σ H s) (k : ∀ b u, s.heap.get? b = some u → h'.get? b = some u) (hp : s.heap.objs.size ≤ a) (new : ObjOk X.prog X.w (upd H a o) h' a o) :
    Inv X pins σ (upd H a o) { s with heap := h', toks := t' } := I.un (Un.laid k hp (I.hok.fresh hp)) (I.hok.laid k hp new)
/-- an object written -/
theorem Inv.write {x e : Addr} {o : HO} {t' : Nat} (I : Inv X pins σ H s) (mu : Mut (H x)) (he : e = x ∨ H e = some (.own x)) (k : ∀ b u, b ≠ e → s.heap.get? b = some u → h'.get? b = some u) (heo : ∃ u, h'.get? e = some u)
    (new : ObjOk X.prog X.w (upd H x o) h' x o) : Inv X pins σ (upd H x o) { s with heap := h', toks := t' } := I.un (Un.write mu he k heo) (I.hok.write mu he k heo new)
/-- forgetting slots, pins -/
theorem Inv.weak {σ' : List (Option V)} (I : Inv X pins σ H s) (hl : σ'.length = σ.length) (w : ∀ (i : Nat) v, σ'[i]? = some (some v) → σ[i]? = some (some v)) : Inv X pins σ' H s :=
  ⟨I.ok, I.os, I.bare, I.base, let ⟨m, hn, hl'⟩ := I.loc; ⟨m, hn, fun i x v e1 e2 e3 => hl' i x v e1 (w i v e2) e3⟩, I.cell, I.free, I.freeC, I.pin, I.hok, hl.trans I.len⟩
theorem Inv.pins_of {pins' : List (Addr × Obj)} (I : Inv X pins σ H s) (h : ∀ p ∈ pins', s.heap.get? p.1 = some p.2 ∧ H p.1 = none ∧ p.1 ≠ X.env.locals ∧ p.1 ∉ X.fs ∧ ∀ v, p.2.data ≠ .cell v) : Inv X pins' σ H s :=
  ⟨I.ok, I.os, I.bare, I.base, I.loc, I.cell, I.free, I.freeC, fun p hp => (List.mem_append.mp hp).elim (fun z => I.pin p (List.mem_append_left _ z)) (h p), I.hok, I.len⟩

theorem nodup_ix {N : List Str} (hN : N.Nodup) {i j : Nat} {x : Str} (a : N[i]? = some x) (b : N[j]? = some x) : i = j := by
  obtain ⟨h1, e1⟩ := List.getElem?_eq_some_iff.mp a
  obtain ⟨h2, e2⟩ := List.getElem?_eq_some_iff.mp b
  exact (List.getElem_inj hN).mp (e1.trans e2.symm)

/-- a name is stored; what changed -/
theorem store_ok2 {M : Model} {A : Around} {E : Value → Shared → Prop} {i : Nat} {x : Str} {v : V} {u : Value} {Q : Unit → Shared → Prop} (I : Inv X pins σ H s) (hN : X.N.Nodup) (hi : X.N[i]? = some x) (hx : Loc X.env.scope x) (r : RelV v u)
    (h : ∀ s', Inv X pins (σ.set i (some v)) H s' → (∃ a, Heap.SameBut a s.heap s'.heap ∧ (a = X.env.locals ∨ X.env.cells.lookup x = some a)) → Q () s') (hf : X.fn x = true ∨ X.env.scope.names.lookup x = some .local := by first | exact .inl rfl | exact .inr rfl | assumption) : wpAny M A (storeName X.env x u) Q E s := by
  obtain ⟨m, hn, hl⟩ := id I.loc
  have hcls : (X.env.scope.kind == .class || (X.env.scope.kind == .module && X.env.locals != X.env.globals)) = false := by rw [I.ok.kind]; rfl
  have hiσ : i < σ.length := by rw [I.len]; exact (List.getElem?_eq_some_iff.mp hi).1
  have cne := I.cne
  have tracked : ∀ {a : Addr} {h' : Heap}, (∃ o, s.heap.get? a = some o ∧ H a = none) → Heap.SameBut a s.heap h' → HOk X.prog X.w H h' := fun {a h'} ha hs b ob e => by
    obtain ⟨_, _, hfree⟩ := ha
    refine (I.hok b ob e).stay (fun c w' hc q => (hs.2 c ?_).trans q) (fun _ q => q) fun _ _ q => q
    rintro rfl
    rcases hc with rfl | hc
    · rw [hfree] at e; cases e
    · rw [hfree] at hc; cases hc
  rcases hx with hk | hk
  · refine wpAny_storeName_local hk hn (fun h' hn' hs => ?_) hcls
    obtain ⟨oL, _, _, hoL, _⟩ := id hn
    refine h _ ⟨I.ok, I.os, I.bare, ⟨fun b o e n hb hx => ?_, fun b o e n hb hx => ?_, I.base.free, fun b o e hx => ?_, I.base.tups, I.base.frzs, I.base.tbls⟩, ⟨_, hn', fun j y v' e1 e2 e3 => ?_⟩, fun y c e => ?_, I.free, I.freeC, fun p hp => ?_, tracked ⟨oL, hoL, I.free⟩ hs, by simpa using I.len⟩ ⟨_, hs, .inl rfl⟩
    · exact (hs.2 b (Nat.ne_of_lt (Nat.lt_of_lt_of_le (Heap.lt_size e) I.ok.above))).trans (I.base.keep b o e n hb hx)
    · obtain ⟨sl, e1⟩ := I.base.slot b o e n hb hx
      exact ⟨sl, (hs.2 b (Nat.ne_of_lt (Nat.lt_of_lt_of_le (Heap.lt_size e) I.ok.above))).trans e1⟩
    · obtain ⟨o', e1⟩ := I.base.there b o e hx
      exact ⟨o', (hs.2 b (Nat.ne_of_lt (Nat.lt_of_lt_of_le (Heap.lt_size e) I.ok.above))).trans e1⟩
    · by_cases hj : j = i
      · subst hj
        rw [hi] at e1; cases e1
        rw [List.getElem?_set_self hiσ] at e2
        cases e2
        exact ⟨u, r, .inl ⟨hk, by simp⟩⟩
      · rw [List.getElem?_set_ne (Ne.symm hj)] at e2
        obtain ⟨u', r', q⟩ := hl j y v' e1 e2 e3
        refine ⟨u', r', ?_⟩
        rcases q with ⟨k, e⟩ | ⟨k, c, e, z⟩
        · refine .inl ⟨k, ?_⟩
          have : y ≠ x := fun e => hj (nodup_ix hN e1 (e ▸ hi))
          simp [this, e]
        · exact .inr ⟨k, c, e, z.sameBut hs (cne y c e)⟩
    · obtain ⟨w', z⟩ := I.cell y c e
      exact ⟨w', z.sameBut hs (cne y c e)⟩
    · obtain ⟨e, n, ne, nf, d⟩ := I.pin p hp
      exact ⟨(hs.2 p.1 ne).trans e, n, ne, nf, d⟩
  · have hfn : X.fn x = true := by
      rcases hf with z | z
      · exact z
      · rw [z] at hk; cases hk
    obtain ⟨c, hc⟩ := I.ok.has x (.inl hk)
    obtain ⟨w', z⟩ := I.cell x c hc
    refine wpAny_storeName_cell I.ok.kind hk hc z (fun h' hc' hs => ?_)
    obtain ⟨oc, hoc, hocd⟩ := id z
    refine h { s with heap := h' } ⟨I.ok, I.os, I.bare, ⟨fun b o e n hb hx => ?_, fun b o e n hb hx => ?_, I.base.free, fun b o e hx => ?_, I.base.tups, I.base.frzs, I.base.tbls⟩, ⟨m, hn.sameBut hs (Ne.symm (cne x c hc)), fun j y v' e1 e2 e3 => ?_⟩, fun y c' e => ?_, I.free, I.freeC, fun p hp => ?_, tracked ⟨oc, hoc, I.freeC x c hc⟩ hs, by simpa using I.len⟩ ⟨c, hs, .inr hc⟩
    · exact (hs.2 b (Nat.ne_of_lt (Nat.lt_of_lt_of_le (Heap.lt_size e) (I.ok.cab x c hfn hc)))).trans (I.base.keep b o e n hb hx)
    · obtain ⟨sl, e1⟩ := I.base.slot b o e n hb hx
      exact ⟨sl, (hs.2 b (Nat.ne_of_lt (Nat.lt_of_lt_of_le (Heap.lt_size e) (I.ok.cab x c hfn hc)))).trans e1⟩
    · obtain ⟨o', e1⟩ := I.base.there b o e hx
      exact ⟨o', (hs.2 b (Nat.ne_of_lt (Nat.lt_of_lt_of_le (Heap.lt_size e) (I.ok.cab x c hfn hc)))).trans e1⟩
    · by_cases hj : j = i
      · subst hj
        rw [hi] at e1; cases e1
        rw [List.getElem?_set_self hiσ] at e2
        cases e2
        exact ⟨u, r, .inr ⟨.inl hk, c, hc, hc'⟩⟩
      · rw [List.getElem?_set_ne (Ne.symm hj)] at e2
        obtain ⟨u', r', q⟩ := hl j y v' e1 e2 e3
        refine ⟨u', r', ?_⟩
        rcases q with q | ⟨k, c', e, z'⟩
        · exact .inl q
        · refine .inr ⟨k, c', e, z'.sameBut hs ?_⟩
          rintro rfl
          exact hj (nodup_ix hN e1 (I.ok.inj _ _ _ e hc ▸ hi))
    · by_cases hcc : c' = c
      · subst hcc; exact ⟨_, hc'⟩
      · obtain ⟨w2, z2⟩ := I.cell y c' e
        exact ⟨w2, z2.sameBut hs hcc⟩
    · obtain ⟨e, n, ne, nf, d⟩ := I.pin p hp
      refine ⟨(hs.2 p.1 ?_).trans e, n, ne, nf, d⟩
      intro q
      rw [q, hoc] at e
      have q' : oc = p.2 := Option.some.inj e
      exact d w' (by rw [← q']; exact hocd)
theorem store_ok {M : Model} {A : Around} {E : Value → Shared → Prop} {i : Nat} {x : Str} {v : V} {u : Value} {Q : Unit → Shared → Prop} (I : Inv X pins σ H s) (hN : X.N.Nodup) (hi : X.N[i]? = some x) (hx : Loc X.env.scope x) (r : RelV v u)
    (h : ∀ s', Inv X pins (σ.set i (some v)) H s' → Q () s') (hf : X.fn x = true ∨ X.env.scope.names.lookup x = some .local := by first | exact .inl rfl | exact .inr rfl | assumption) : wpAny M A (storeName X.env x u) Q E s :=
  store_ok2 I hN hi hx r (fun s' I' _ => h s' I') hf
/-- behind a call or a block, the state as it is -/
theorem Inv.call' {s' : Shared} {ch : List Addr} (I : Inv X pins σ H s) (ho : s'.os = s.os) (u : Un (frs X.stack) ch H H' s.heap s'.heap) (hok : HOk X.prog X.w H' s'.heap) (hg : AllBare s'.gens)
    (hch : ∀ b ∈ ch, (b ∈ X.ex ∨ X.s₀.heap.objs.size ≤ b) ∧ b ≠ X.env.locals ∧ (∀ x c, X.env.cells.lookup x = some c → c ≠ b) ∧ ∀ p ∈ X.pn ++ pins, p.1 ≠ b) : Inv X pins σ H' s' := by
  obtain ⟨h', g', d', t', o'⟩ := s'
  have e : o' = s.os := ho
  subst e
  exact I.call (g' := g') (t' := t') (d' := d') u hok hg hch
end

/-! ### the judgements -/
/-- an exception: its class, its own dict's address (where it has one), the abstract heap behind it -/
abbrev XK := Value → Option Addr → Hp → Prop
abbrev St := List (Option V)
abbrev VK := V → Hp → Prop
/-- an expression's reading; a test's; an argument list's -/
abbrev TE := St → Hp → VK → Prop
abbrev TT := St → Hp → (Bool → Hp → Prop) → Prop
abbrev TA := St → Hp → (List V → Hp → Prop) → Prop
/-- what is wanted behind a statement -/
structure Ends where
  nx : St → Hp → Prop
  rt : VK
  bk : St → Hp → Prop := fun _ _ => False
  ct : St → Hp → Prop := fun _ _ => False
abbrev TS := Ends → St → Hp → Prop

def EP (X : Cx) (pins : List (Addr × Obj)) (σ : St) (Q : VK) (u : Value) (s' : Shared) : Prop := ∃ v H', Inv X pins σ H' s' ∧ RelV v u ∧ Q v H'
def TP (X : Cx) (pins : List (Addr × Obj)) (σ : St) (Q : Bool → Hp → Prop) (b : Bool) (s' : Shared) : Prop := ∃ H', Inv X pins σ H' s' ∧ Q b H'
def AP (X : Cx) (pins : List (Addr × Obj)) (σ : St) (Q : List V → Hp → Prop) (us : List Value) (s' : Shared) : Prop := ∃ vs H', Inv X pins σ H' s' ∧ Vals vs us ∧ Q vs H'
def SP (X : Cx) (pins : List (Addr × Obj)) (D : Ends) (f : Flow) (s' : Shared) : Prop :=
  match f with
  | .next => ∃ σ' H', Inv X pins σ' H' s' ∧ D.nx σ' H'
  | .brk => ∃ σ' H', Inv X pins σ' H' s' ∧ D.bk σ' H'
  | .cont => ∃ σ' H', Inv X pins σ' H' s' ∧ D.ct σ' H'
  | .ret u => ∃ v σ' H', Inv X pins σ' H' s' ∧ RelV v u ∧ D.rt v H'

def PE (X : Cx) (e : Expr) (t : TE) : Prop :=
  ∀ (pins : List (Addr × Obj)) (s : Shared) (σ : St) (H : Hp) (Q : VK), Inv X pins σ H s → t σ H Q → wpAny (model X.prog X.w) X.A (eval e X.env) (EP X pins σ Q) X.xe s
def PT (X : Cx) (e : Expr) (t : TT) : Prop :=
  ∀ (pins : List (Addr × Obj)) (s : Shared) (σ : St) (H : Hp) (Q : Bool → Hp → Prop), Inv X pins σ H s → t σ H Q → wpAny (model X.prog X.w) X.A (isTrue e X.env (eval e X.env)) (TP X pins σ Q) X.xe s
/-- a test whatever its 'whole' is (and, or) -/
def PW (X : Cx) (e : Expr) (t : TT) : Prop :=
  ∀ (whole : Sem Value) (pins : List (Addr × Obj)) (s : Shared) (σ : St) (H : Hp) (Q : Bool → Hp → Prop), Inv X pins σ H s → t σ H Q → wpAny (model X.prog X.w) X.A (isTrue e X.env whole) (TP X pins σ Q) X.xe s
theorem PW.pt {X : Cx} {e : Expr} {t : TT} (h : PW X e t) : PT X e t := h _
/-- an argument list (no star), from the left -/
def PA (X : Cx) (es : List Expr) (t : TA) : Prop :=
  ∀ (pos : Pos) (pins : List (Addr × Obj)) (s : Shared) (σ : St) (H : Hp) (Q : List V → Hp → Prop), Inv X pins σ H s → t σ H Q → wpAny (model X.prog X.w) X.A (spliced (backTo pos (starEach es X.env))) (AP X pins σ Q) X.xe s
def PS (X : Cx) (st : Stmt) (t : TS) : Prop :=
  ∀ (pins : List (Addr × Obj)) (s : Shared) (σ : St) (H : Hp) (D : Ends), Inv X pins σ H s → t D σ H → wpAny (model X.prog X.w) X.A (exec st X.env) (SP X pins D) X.xe s
def PSs (X : Cx) (st : List Stmt) (t : TS) : Prop :=
  ∀ (pins : List (Addr × Obj)) (s : Shared) (σ : St) (H : Hp) (D : Ends), Inv X pins σ H s → t D σ H → wpAny (model X.prog X.w) X.A (execs st X.env) (SP X pins D) X.xe s
/-- weaken the end -/
theorem thn {α : Type} {t : Sem α} {Q Q' : α → Shared → Prop} {M : Model} {A : Around} {E : Value → Shared → Prop} {s : Shared} (h : wpAny M A t Q E s) (hQ : ∀ a s, Q a s → Q' a s) : wpAny M A t Q' E s := wpAny_mono h hQ fun _ _ x => x
end L2

namespace L2
open PySem PySem.Spec PyProof.Rows
section
variable {X : Cx}

/-! ### names and constants -/
def tVar (i : Nat) : TE := fun σ H Q => ∃ v, σ[i]? = some (some v) ∧ Q v H
def tC (v : V) : TE := fun _ H Q => Q v H
theorem pe_var {i : Nat} {x : Str} {pos : Pos} (hN : X.N[i]? = some x) (hv : Vis X.env.scope x) (hd : (x == ("__debug__" : Str)) = false := by decide) (hcd : (x == ("__classdict__" : Str)) = false := by decide) : PE X (.Name x pos) (tVar i) := by
  intro pins s σ H Q I h
  obtain ⟨v, e, h⟩ := h
  obtain ⟨m, hn, hl⟩ := I.loc
  obtain ⟨u, r, l⟩ := hl i x v hN e hv
  have fin : EP X pins σ Q u s := ⟨v, H, I, r, h⟩
  rcases l with ⟨hk, hm⟩ | ⟨hk, c, hc, hcell⟩
  · exact wpAny_Name (wpAny_loadName_local I.ok.kind hk hn hm fin) hd
  · rcases hk with hk | hk
    · exact wpAny_Name (wpAny_loadName_cell I.ok.kind hk hc hcell fin) hd
    · exact wpAny_Name (wpAny_loadName_free I.ok.kind hk hc hcell fin hcd) hd
theorem pe_int {i j pos} : PE X (.Constant (.int i) j pos) (tC (.int i)) := fun _ _ _ H _ I h => wpAny_Constant_int ⟨.int i, H, I.tok _, ⟨_, rfl⟩, h⟩
theorem pe_bl {b j pos} : PE X (.Constant (.bool b) j pos) (tC (.bl b)) := fun _ _ _ H _ I h => Constant_bool ⟨.bl b, H, I, rfl, h⟩
theorem pe_str {x j pos} : PE X (.Constant (.str x) j pos) (tC (.str x)) := fun _ _ _ H _ I h => Calls.Constant_str ⟨.str x, H, I.tok _, ⟨_, rfl⟩, h⟩

/-- a global name of the def -/
def Gl (X : Cx) (x : Str) : Prop := X.env.kindOf x = some .globalImplicit
theorem ld_glob {E : Value → Shared → Prop} {pins : List (Addr × Obj)} {s : Shared} {σ : St} {H : Hp} {x : Str} {u : Value} {pos : Pos} {Q : Value → Shared → Prop} (I : Inv X pins σ H s) (hg : Gl X x) (hm : X.mg x = some u) (h : Q u s)
    (hd : (x == ("__debug__" : Str)) = false := by decide) : wpAny (model X.prog X.w) X.A (eval (.Name x pos) X.env) Q E s :=
  Calls.Name_function_global I.ok.kind hg (Calls.loadGlobal_global (by rw [I.ok.glob]; exact I.mod.glob.keeps I.bk) hm h) hd
theorem ld_blt {E : Value → Shared → Prop} {pins : List (Addr × Obj)} {s : Shared} {σ : St} {H : Hp} {x : Str} {u : Value} {pos : Pos} {Q : Value → Shared → Prop} (I : Inv X pins σ H s) (hg : Gl X x) (hm : X.mg x = none) (hv : bootBuiltins x = some u) (h : Q u s)
    (hn : x ≠ "__name__" := by decide) (hd : (x == ("__debug__" : Str)) = false := by decide) : wpAny (model X.prog X.w) X.A (eval (.Name x pos) X.env) Q E s := by
  obtain ⟨mb, h1, h2⟩ := I.mod.blt
  exact Calls.Name_function_global I.ok.kind hg (Calls.loadGlobal_builtin (by rw [I.ok.glob]; exact I.mod.glob.keeps I.bk) hm (by rw [I.ok.blt]; exact h1.keeps I.bk) ((h2 x hn).trans hv) h) hd
/-- a module's constant, a class, a function, as a value -/
theorem pe_glob {x : Str} {v : V} {u : Value} {pos : Pos} (hg : Gl X x) (hm : X.mg x = some u) (r : RelV v u) (hd : (x == ("__debug__" : Str)) = false := by decide) : PE X (.Name x pos) (tC v) :=
  fun _ _ _ H _ I h => ld_glob I hg hm ⟨v, H, I, r, h⟩ hd
theorem pe_bltn {x : Str} {v : V} {u : Value} {pos : Pos} (hg : Gl X x) (hm : X.mg x = none) (hv : bootBuiltins x = some u) (r : RelV v u) (hn : x ≠ "__name__" := by decide) (hd : (x == ("__debug__" : Str)) = false := by decide) : PE X (.Name x pos) (tC v) :=
  fun _ _ _ H _ I h => ld_blt I hg hm hv ⟨v, H, I, r, h⟩ hn hd

/-! ### arithmetic -/
variable {a b : Expr} {ta tb : TE} {pos : Pos}
/-! ### comparisons -/
def PC (X : Cx) (op : CmpOp) (a b : Expr) (t : TE) : Prop :=
  ∀ (pins : List (Addr × Obj)) (s : Shared) (σ : St) (H : Hp) (Q : VK), Inv X pins σ H s → t σ H Q →
    wpAny (model X.prog X.w) X.A (eval a X.env) (fun v s₁ => wpAny (model X.prog X.w) X.A (eval b X.env) (fun u s₂ => wpAny (model X.prog X.w) X.A (compareOp op v u) (EP X pins σ Q) X.xe s₂) X.xe s₁) X.xe s
/-- a comparison as a value, as a test -/
def tB (t : TE) : TT := fun σ H Q => t σ H fun x H1 => ∃ c, x = .bl c ∧ Q c H1
theorem pt_cmp {op : CmpOp} {t : TE} (h : PC X op a b t) (h1 : behindInMarks op b = false := by first | exact nobehind _ (by decide) (by decide) | rfl) : PT X (.Compare a [op] [b] pos) (tB t) := by
  intro pins s σ H Q I hw
  refine wpAny_isTrue_Compare1 (thn (h pins s σ H _ I hw) fun v s1 h1 => thn h1 fun u s2 h2 => thn h2 fun c s3 ⟨x, H1, I1, r1, q1⟩ => ?_) h1
  obtain ⟨d, rfl, q⟩ := q1
  cases r1
  exact wpAny_truthy_bool ⟨H1, I1, q⟩
/-- an expression whose value is a bool, as a test -/
theorem pt_val {e : Expr} {t : TE} (h : PE X e t) (he : ∀ whole, isTrue e X.env whole = (do let v ← whole; standAt e.pos; holding [v] (truthy v)) := by intro _; rfl) : PT X e (tB t) := by
  intro pins s σ H Q I hw
  refine isTrue_plain (thn (h pins s σ H _ I hw) fun v s1 ⟨x, H1, I1, r1, q1⟩ => ?_) (he _)
  obtain ⟨d, rfl, q⟩ := q1
  cases r1
  exact wpAny_truthy_bool ⟨H1, I1, q⟩

/-! ### and, or, not -/
variable {tA tB' : TT} {rest : List Expr}
def tOr (t u : TT) : TT := fun σ H Q => t σ H fun c H1 => if c = true then Q true H1 else u σ H1 Q
def tNot (t : TT) : TT := fun σ H Q => t σ H fun c H1 => Q (!c) H1
theorem pw_or1 (ha : PT X a tA) : PW X (.BoolOp .Or [a] pos) tA := by
  intro wh pins s σ H Q I h
  refine isTrue_or (thn (ha pins s σ H Q I h) fun c s1 e => ?_)
  cases c with
  | false => exact isTrue_or_nil e
  | true => exact e
theorem pw_or (ha : PT X a tA) (hb : PW X (.BoolOp .Or (b :: rest) pos) tB') : PW X (.BoolOp .Or (a :: b :: rest) pos) (tOr tA tB') := by
  intro wh pins s σ H Q I h
  refine isTrue_or (thn (ha pins s σ H _ I h) fun c s1 ⟨H1, I1, q1⟩ => ?_)
  cases c with
  | true => exact ⟨H1, I1, q1⟩
  | false => exact hb wh pins s1 σ H1 Q I1 q1
theorem pt_not (ha : PT X a tA) : PT X (.UnaryOp .Not a pos) (tNot tA) := by
  intro pins s σ H Q I h
  exact isTrue_not (ha pins s σ H (fun c H1 => Q (!c) H1) I h)
/-- .. as values (bools) -/
def tAndV (ta tb : TE) : TE := fun σ H Q => ta σ H fun x H1 => ∃ c, x = .bl c ∧ if c = true then tb σ H1 Q else Q (.bl false) H1
def tNotV (ta : TE) : TE := fun σ H Q => ta σ H fun x H1 => ∃ c, x = .bl c ∧ Q (.bl (!c)) H1
theorem pe_one {op} {t : TE} (h : PE X a t) : PE X (.BoolOp op [a] pos) t := fun pins s σ H Q I hw => BoolOp_one (h pins s σ H Q I hw)
theorem pe_and (ha : PE X a ta) (hb : PE X (.BoolOp .And (b :: rest) pos) tb) : PE X (.BoolOp .And (a :: b :: rest) pos) (tAndV ta tb) := by
  intro pins s σ H Q I h
  refine BoolOp_and (thn (ha pins s σ H _ I h) fun v s1 ⟨x, H1, I1, r1, q1⟩ => ?_)
  obtain ⟨c, rfl, q1⟩ := q1
  cases r1
  refine wpAny_truthy_bool ?_
  cases c with
  | true => exact hb pins s1 σ H1 Q I1 q1
  | false => exact ⟨.bl false, H1, I1, rfl, q1⟩
theorem pe_not (ha : PE X a ta) : PE X (.UnaryOp .Not a pos) (tNotV ta) := by
  intro pins s σ H Q I h
  refine UnaryOp_ (thn (ha pins s σ H _ I h) fun v s1 ⟨x, H1, I1, r1, q1⟩ => ?_)
  obtain ⟨c, rfl, q1⟩ := q1
  cases r1
  exact not_of (wpAny_truthy_bool ⟨.bl (!c), H1, I1, rfl, q1⟩)
end
end L2

namespace L2
open PySem PySem.Spec PyProof.Rows

/-! ### a list, a tuple that is read: tracked, frozen, or an object of the module -/
def SqL (K : PySem.W.Frag) (H : Hp) (a : Addr) (xs : List V) : Prop :=
  Rd H a (.lst xs) ∨
    ∃ (o : Obj) (its : Array Value) (n : Nat), K.lookup a = some o ∧ o.cls = .type "list" ∧ o.dict = none ∧ o.data = .seq its n ∧ its.size ≤ sizeLine ∧ Vals xs its.toList
def SqT (K : PySem.W.Frag) (H : Hp) (a : Addr) (xs : List V) : Prop :=
  Rd H a (.tup xs) ∨
    ∃ (o : Obj) (its : Array Value) (n : Nat), K.lookup a = some o ∧ o.cls = .type "tuple" ∧ o.data = .seq its n ∧ its.size ≤ sizeLine ∧ Vals xs its.toList
def absV : Value → Option V
  | .none => some .non
  | .bool b => some (.bl b)
  | .int i _ => some (.int i)
  | .str x _ => some (.str x)
  | .bytes b _ => some (.byt b)
  | .float b _ => some (.flt b)
  | .ref a => some (.ref a)
  | .type n => some (.ty n)
  | _ => none
theorem RelV.abs {x : V} {u : Value} (r : RelV x u) : absV u = some x := by
  cases x with
  | non => cases r; rfl
  | bl _ => cases r; rfl
  | int _ => obtain ⟨t, rfl⟩ := r; rfl
  | str _ => obtain ⟨t, rfl⟩ := r; rfl
  | byt _ => obtain ⟨t, rfl⟩ := r; rfl
  | flt _ => obtain ⟨t, rfl⟩ := r; rfl
  | ref _ => cases r; rfl
  | ty _ => cases r; rfl
theorem RelV.inj {x y : V} {u : Value} (r : RelV x u) (q : RelV y u) : x = y := Option.some.inj (r.abs.symm.trans q.abs)
theorem Vals.inj : ∀ {xs ys : List V} {us : List Value}, Vals xs us → Vals ys us → xs = ys
  | _, _, _, .nil, .nil => rfl
  | _, _, _, .cons r t, .cons r' t' => by rw [r.inj r', Vals.inj t t']
section
variable {X : Cx} {pins : List (Addr × Obj)} {σ : St} {H : Hp} {s : Shared} {a : Addr} {xs ys : List V}
theorem SqL.of {K : PySem.W.Frag} (h : H a = some (.lst xs)) : SqL K H a xs := .inl (.inl h)
theorem SqT.of {K : PySem.W.Frag} (h : H a = some (.tup xs)) : SqT K H a xs := .inl (.inl h)
theorem Inv.list (I : Inv X pins σ H s) (h : SqL X.K H a xs) : ∃ its : List Value, Vals xs its ∧ PlainL s.heap a its.toArray ∧ xs.length ≤ sizeLine := by
  rcases h with h | ⟨o, its, n, hk, hc, hd, hs, hz, r⟩
  · obtain ⟨z, its, n, r, e⟩ := h.ok I.hok
    exact ⟨its, r, ⟨_, n, e, rfl, rfl, rfl⟩, z⟩
  · refine ⟨its.toList, r, ⟨o, n, I.kIn a o hk, hc, hd, by simpa using hs⟩, ?_⟩
    have e := r.length
    simp only [Array.length_toList] at e
    omega
theorem Inv.tuple (I : Inv X pins σ H s) (h : SqT X.K H a xs) : ∃ its : List Value, Vals xs its ∧ IsTup s.heap a its.toArray ∧ xs.length ≤ sizeLine := by
  rcases h with h | ⟨o, its, n, hk, hc, hs, hz, r⟩
  · obtain ⟨z, its, r, p⟩ := h.ok I.hok
    exact ⟨its, r, p, z⟩
  · refine ⟨its.toList, r, ⟨o, I.kIn a o hk, hc, n, by simpa using hs⟩, ?_⟩
    have e := r.length
    simp only [Array.length_toList] at e
    omega
theorem Inv.list_inj (I : Inv X pins σ H s) (h : SqL X.K H a xs) (h' : SqL X.K H a ys) : xs = ys := by
  obtain ⟨its, r, ⟨o, n, e, _, _, d⟩, _⟩ := I.list h
  obtain ⟨its', r', ⟨o', n', e', _, _, d'⟩, _⟩ := I.list h'
  rw [e] at e'; cases e'
  rw [d] at d'
  injection d' with d1 _
  have : its = its' := by simpa using congrArg Array.toList d1
  subst this
  exact r.inj r'
end

/-! ### another wish about exceptions -/
abbrev Cx.wish (X : Cx) (E : Value → Shared → Prop) : Cx := { X with xe := E }
section
variable {X : Cx} {pins : List (Addr × Obj)} {σ : St} {H : Hp} {s : Shared} {E : Value → Shared → Prop}
end

/-! ### blocks and small statements -/
section
variable {X : Cx} {st : Stmt} {rest : List Stmt} {t u : TS} {e : Expr} {te : TE} {pos : Pos}
def tNext : TS := fun D σ H => D.nx σ H
def tSeq (t u : TS) : TS := fun D σ H => t { D with nx := u D } σ H
theorem pss_nil : PSs X [] tNext := fun _ _ σ H _ I h => wpAny_execs_nil ⟨σ, H, I, h⟩
theorem pss_cons (h1 : PS X st t) (h2 : PSs X rest u) : PSs X (st :: rest) (tSeq t u) := by
  intro pins s σ H D I h
  refine wpAny_execs_cons (thn (h1 pins s σ H { D with nx := u D } I h) fun f s1 q => ?_)
  cases f with
  | next =>
    obtain ⟨σ', H', I', q⟩ := q
    exact h2 pins s1 σ' H' D I' q
  | ret v => exact q
  | brk => exact q
  | cont => exact q
theorem pss_one (h1 : PS X st t) : PSs X [st] t := by
  intro pins s σ H D I h
  refine wpAny_execs_cons (thn (h1 pins s σ H D I h) fun f s1 q => ?_)
  cases f with
  | next => exact wpAny_execs_nil q
  | ret v => exact q
  | brk => exact q
  | cont => exact q
/-- in a def's body nothing is shown -/
theorem Inv.quiet {pins : List (Addr × Obj)} {σ : St} {H : Hp} {s : Shared} (I : Inv X pins σ H s) : interactive X.env = false := by simp [interactive, I.ok.kind]
/-- an expression whose value is dropped -/
def tDrop (te : TE) : TS := fun D σ H => te σ H fun _ H1 => D.nx σ H1
theorem ps_expr (he : PE X e te) (hs : swapsWith e none pos.line X.env = pure false := by rfl) : PS X (.Expr e pos) (tDrop te) := by
  intro pins s σ H D I h
  exact wpAny_Expr_any (thn (he pins s σ H _ I h) fun v s1 ⟨x, H1, I1, r1, q1⟩ => ⟨σ, H1, I1, q1⟩) I.quiet hs
def tRet (te : TE) : TS := fun D σ H => te σ H D.rt
theorem ps_ret (he : PE X e te) : PS X (.Return (some e) pos) (tRet te) := by
  intro pins s σ H D I h
  exact wpAny_Return_some (thn (he pins s σ H _ I h) fun v s1 ⟨x, H1, I1, r1, q1⟩ => ⟨x, σ, H1, I1, r1, q1⟩)
def tIfS (c : TT) (t u : TS) : TS := fun D σ H => c σ H fun b H1 => if b = true then t D σ H1 else u D σ H1
theorem ps_if {c : Expr} {a b : List Stmt} {tc : TT} (hc : PT X c tc) (ha : PSs X a t) (hb : PSs X b u) : PS X (.If c a b pos) (tIfS tc t u) := by
  intro pins s σ H D I h
  refine wpAny_If (thn (hc pins s σ H _ I h) fun d s1 ⟨H1, I1, q1⟩ => ?_)
  cases d with
  | true => exact ha pins s1 σ H1 D I1 q1
  | false => exact hb pins s1 σ H1 D I1 q1
end

/-! ### targets -/
abbrev TG := V → St → Hp → (St → Hp → Prop) → Prop
abbrev TGs := List V → St → Hp → (St → Hp → Prop) → Prop
def PG (X : Cx) (target : Expr) (t : TG) : Prop :=
  ∀ (pins : List (Addr × Obj)) (s : Shared) (σ : St) (H : Hp) (v : V) (u : Value) (Q : St → Hp → Prop), Inv X pins σ H s → RelV v u → t v σ H Q →
    wpAny (model X.prog X.w) X.A (assign target X.env u) (fun _ s' => ∃ σ' H', Inv X pins σ' H' s' ∧ Q σ' H') X.xe s
/-- several targets, one after another -/
def PGs (X : Cx) (ts : List Expr) (t : TGs) : Prop :=
  ∀ (pins : List (Addr × Obj)) (s : Shared) (σ : St) (H : Hp) (vs : List V) (us : List Value) (Q : St → Hp → Prop), Inv X pins σ H s → Vals vs us → t vs σ H Q →
    wpAny (model X.prog X.w) X.A (assignInOrder ((assignEach ts X.env).map (·.2)) us) (fun _ s' => ∃ σ' H', Inv X pins σ' H' s' ∧ Q σ' H') X.xe s
section
variable {X : Cx} {pos : Pos}
def gName (i : Nat) : TG := fun v σ H Q => Q (σ.set i (some v)) H
theorem pg_name {i : Nat} {x : Str} (hN : X.N.Nodup) (hi : X.N[i]? = some x) (hx : Loc X.env.scope x) (hf : X.fn x = true ∨ X.env.scope.names.lookup x = some .local := by first | exact .inl rfl | exact .inr rfl | assumption) : PG X (.Name x pos) (gName i) := by
  intro pins s σ H v u Q I r h
  exact wpAny_assign_Name (store_ok I hN hi hx r (fun s' I' => ⟨_, H, I', h⟩) hf)
def gNil : TGs := fun vs σ H Q => vs = [] ∧ Q σ H
def gCons (t : TG) (u : TGs) : TGs := fun vs σ H Q => ∃ v r, vs = v :: r ∧ t v σ H fun σ' H' => u r σ' H' Q
theorem pgs_nil : PGs X [] gNil := by
  intro pins s σ H vs us Q I r h
  obtain ⟨e, h⟩ := h
  subst e
  cases r
  exact assignInOrder_nil ⟨σ, H, I, h⟩
theorem pgs_cons {e : Expr} {es : List Expr} {t : TG} {u : TGs} (h1 : PG X e t) (h2 : PGs X es u)
    (hs : (assignEach (e :: es) X.env).map (·.2) = assign e X.env :: (assignEach es X.env).map (·.2) := by rfl) : PGs X (e :: es) (gCons t u) := by
  intro pins s σ H vs us Q I r h
  obtain ⟨v, vr, e1, h⟩ := h
  subst e1
  cases r with
  | cons r rr =>
    rw [hs]
    refine assignInOrder_cons (thn (h1 pins s σ H _ _ _ I r h) fun _ s1 ⟨σ1, H1, I1, q1⟩ => ?_)
    exact h2 pins s1 σ1 H1 _ _ Q I1 rr q1
/-- (a, b, ..) = a tuple of that length -/
def gTup (K : PySem.W.Frag) (n : Nat) (t : TGs) : TG := fun v σ H Q => ∃ a xs, v = .ref a ∧ SqT K H a xs ∧ xs.length = n ∧ t xs σ H Q
theorem pg_tup {es : List Expr} {k : Nat} {t : TGs} {n : Nat} (hc : X.calm = true) (h : PGs X es t)
    (hn : (assignEach es X.env).length = n := by rfl) (hst : (assignEach es X.env).findIdx? (·.1) = none := by rfl) : PG X (.Tuple es k pos) (gTup X.K n t) := by
  intro pins s σ H v u Q I r hw
  obtain ⟨a, xs, e1, hq, hl, hw⟩ := hw
  subst e1
  cases r
  obtain ⟨its, rv, ht, hz⟩ := I.tuple hq
  refine assign_Tuple_tuple (I.ok.hd hc) ht (by simp [hn, ← hl, rv.length]) hst fun h' hx => ?_
  have I1 : Inv X pins σ H { s with heap := h' } := I.kept (t' := s.toks) fun b o e => hx b o (Nat.ne_of_lt (Heap.lt_size e)) e
  exact h pins _ σ H xs _ Q I1 (by simpa using rv) hw
/-- target = value -/
def tAsg (te : TE) (g : TG) : TS := fun D σ H => te σ H fun x H1 => g x σ H1 D.nx
theorem ps_asg {tg e : Expr} {te : TE} {g : TG} (he : PE X e te) (hg : PG X tg g) (hs : swapsWithSole [tg] e pos.line X.env = pure false := by rfl) (hw : swappedStores [tg] e X.env = pure none := by rfl)
    (h1 : (assignEach [tg] X.env).map (·.2) = [assign tg X.env] := by rfl) : PS X (.Assign [tg] e pos) (tAsg te g) := by
  intro pins s σ H D I h
  refine wpAny_Assign_stores (thn (he pins s σ H _ I h) fun v s1 ⟨x, H1, I1, r1, q1⟩ => ?_) hs hw
  rw [h1]
  exact thn (hg pins s1 σ H1 x v _ I1 r1 q1) fun _ s2 q => q
/-- name = value -/
theorem ps_set {i : Nat} {x : Str} {e : Expr} {te : TE} {pos' : Pos} (hN : X.N.Nodup) (hi : X.N[i]? = some x) (hx : Loc X.env.scope x) (he : PE X e te) (hs : swapsWith e (some (.Name x pos')) pos.line X.env = pure false := by rfl) (hf : X.fn x = true ∨ X.env.scope.names.lookup x = some .local := by first | exact .inl rfl | exact .inr rfl | assumption) :
    PS X (.Assign [.Name x pos'] e pos) (tAsg te (gName i)) := by
  intro pins s σ H D I h
  refine wpAny_Assign_Name (thn (he pins s σ H _ I h) fun v s1 ⟨y, H1, I1, r1, q1⟩ => ?_) hs
  exact store_ok I1 hN hi hx r1 (fun s2 I2 => ⟨_, H1, I2, q1⟩) hf
/-- a, b = x, y with plain local names: stored from the right; the pair itself is not tracked (the opening rows as in PyProof/Rows/TupAssign.lean:23) -/
def tPar (i j : Nat) (ta : TA) : TS := fun D σ H => ta σ H fun vs H1 => ∃ v w, vs = [v, w] ∧ D.nx ((σ.set i (some v)).set j (some w)) H1
theorem ps_par {i j : Nat} {x y : Str} {a b : Expr} {ta : TA} {px py pt : Pos} {kt k2 pt2} (hc : X.calm = true) (hN : X.N.Nodup) (hi : X.N[i]? = some x) (hj : X.N[j]? = some y) (hij : i ≠ j)
    (hx : X.env.scope.names.lookup x = some .local) (hy : X.env.scope.names.lookup y = some .local) (ha : PA X [a, b] ta)
    (hw : swappedStores [.Tuple [.Name x px, .Name y py] kt pt] (.Tuple [a, b] k2 pt2) X.env = pure (some [x, y]))
    (hs : swapsWithSole [.Tuple [.Name x px, .Name y py] kt pt] (.Tuple [a, b] k2 pt2) pos.line X.env = pure false := by rfl) :
    PS X (.Assign [.Tuple [.Name x px, .Name y py] kt pt] (.Tuple [a, b] k2 pt2) pos) (tPar i j ta) := by
  intro pins s σ H D I h
  rw [exec_Assign_arm]
  refine wpAny_bind (wpAny_standAt ?_)
  rw [hs]
  refine wpAny_bind (wpAny_pure ?_)
  rw [if_neg (by decide)]
  refine wpAny_bind (Tuple_ (thn (ha _ pins s σ H _ I h) fun us s1 ⟨vs, H1, I1, r1, q1⟩ => ?_))
  obtain ⟨v, w, e1, q1⟩ := q1
  subst e1
  obtain ⟨u1, u2, rfl, rv, rw'⟩ : ∃ u1 u2, us = [u1, u2] ∧ RelV v u1 ∧ RelV w u2 := by
    cases r1 with
    | cons p q =>
      cases q with
      | cons p' q' =>
        cases q'
        exact ⟨_, _, rfl, p, p'⟩
  refine wpAny_newObj_type ?_ (by show 2 ≤ sizeLine; decide)
  have I2 : Inv X pins σ H1 { s1 with heap := s1.heap.push { cls := .type "tuple", data := .seq [u1, u2].toArray } } := I1.kept (t' := s1.toks) fun b o e => Heap.get?_push_of_some _ e
  rw [hw]
  refine wpAny_bind (wpAny_pure ?_)
  show wpAny (model X.prog X.w) X.A (do rule "assign.swapped-stores"; let items ← unpackItems (.ref s1.heap.objs.size) 2 none; assignInOrder [fun v => bindName X.env y v, fun v => bindName X.env x v] items.reverse; pure Flow.next) _ _ _
  refine wpAny_bind (wpAny_rule (wpAny_bind (unpackItems_tuple (items := #[u1, u2]) (I.ok.hd hc) (IsTup.new s1.heap _) fun h' hx' => ?_)))
  have I3 := I2.kept (h' := h') (t' := s1.toks) fun b o e => hx' b o (Nat.ne_of_lt (Heap.lt_size e)) e
  show wpAny _ _ (assignInOrder [fun v => bindName X.env y v, fun v => bindName X.env x v] [u2, u1] >>= fun _ => pure Flow.next) _ _ _
  refine wpAny_bind (assignInOrder_cons (wpAny_bindName (store_ok I3 hN hj (.inl hy) rw' (fun s2 I4 => ?_) (.inr hy))))
  refine assignInOrder_cons (wpAny_bindName (store_ok I4 hN hi (.inl hx) rv (fun s3 I5 => assignInOrder_nil (wpAny_pure ?_)) (.inr hx)))
  rw [List.set_comm _ _ (Ne.symm hij)] at I5
  exact ⟨_, H1, I5, q1⟩
end

/-! ### while -/
section
variable {X : Cx} {pos : Pos}
/-- the invariant W with its measure -/
def tWhile (c : TT) (tb : TS) : TS := fun D σ H => ∃ W : Nat → St → Hp → Prop, (∃ m, W m σ H) ∧ ∀ m σ H, W m σ H →
  c σ H fun b H1 => if b = true then ∃ N : St → Hp → Prop, (∀ σ' H', N σ' H' → ∃ m', m' < m ∧ W m' σ' H') ∧ tb { D with nx := N, ct := N, bk := D.nx } σ H1 else D.nx σ H1
theorem ps_while {c : Expr} {body : List Stmt} {tc : TT} {tb : TS} (hp : PassesOwn (model X.prog X.w) X.A X.env X.xe) (hc : PT X c tc) (hb : PSs X body tb) : PS X (.While c body [] pos) (tWhile tc tb) := by
  intro pins s σ H D I h
  obtain ⟨W, ⟨m0, w0⟩, turn⟩ := h
  refine wpAny_While (codeAny_whileLoop (fun n s' => ∃ σ' H', Inv X pins σ' H' s' ∧ W n σ' H') ?_ m0 ⟨σ, H, I, w0⟩)
  rintro n s1 ⟨σ1, H1, I1, w1⟩
  refine wpAny_passesOwn hp (thn (hc pins s1 σ1 H1 _ I1 (turn n σ1 H1 w1)) fun b s2 ⟨H2, I2, q2⟩ => ?_)
  cases b with
  | true =>
    obtain ⟨N, hN, q2⟩ := q2
    rw [if_pos rfl]
    refine wpAny_passesOwn hp (thn (hb pins s2 σ1 H2 _ I2 q2) fun f s3 q3 => ?_)
    cases f with
    | next =>
      obtain ⟨σ3, H3, I3, n3⟩ := q3
      obtain ⟨m', hm, w3⟩ := hN σ3 H3 n3
      exact ⟨m', hm, σ3, H3, I3, w3⟩
    | cont =>
      obtain ⟨σ3, H3, I3, n3⟩ := q3
      obtain ⟨m', hm, w3⟩ := hN σ3 H3 n3
      exact ⟨m', hm, σ3, H3, I3, w3⟩
    | brk => exact q3
    | ret v => exact q3
  | false =>
    rw [if_neg Bool.false_ne_true]
    exact wpAny_execs_nil ⟨σ1, H2, I2, q2⟩
end

/-! ### what a loop or a comprehension walks -/
/-- at turn i: it yields x (the heap may grow), or it stops -/
structure It where
  go : Nat → Hp → Prop
  yld : Nat → Hp → V → Hp → Prop
  stop : Nat → Hp → Prop
/-- the iterator's own objects may turn: they are not the frame's, not pinned, younger than the entry (or a comprehension's own) -/
def FpOk (X : Cx) (pins : List (Addr × Obj)) (H : Hp) (b : Addr) : Prop :=
  H b = none ∧ b ≠ X.env.locals ∧ b ∉ X.fs ∧ (b ∈ X.ex ∨ X.s₀.heap.objs.size ≤ b) ∧ (∀ x c, X.env.cells.lookup x = some c → c ≠ b) ∧ ∀ p ∈ X.pn ++ pins, p.1 ≠ b
theorem Inv.fpOk {X : Cx} {pins : List (Addr × Obj)} {σ : St} {H H' : Hp} {s : Shared} {b : Addr} (I : Inv X pins σ H s) (hb : s.heap.objs.size ≤ b) (hn : H' b = none) : FpOk X pins H' b := by
  refine ⟨hn, Nat.ne_of_gt (Nat.lt_of_lt_of_le I.lt hb), I.nofs hb, .inr (Nat.le_trans I.sz hb), fun x c e z => ?_, fun p hp z => ?_⟩
  · obtain ⟨v, q⟩ := I.cell x c e
    exact absurd (Nat.lt_of_lt_of_le q.lt (by rw [z]; exact hb)) (Nat.lt_irrefl _)
  · exact absurd (Nat.lt_of_lt_of_le (Heap.lt_size (I.pin p hp).1) (by rw [z]; exact hb)) (Nat.lt_irrefl _)
structure Turn (P : Program) (w : World) (K : PySem.W.Frag) (tg : Expr) (J : It) (fp : List Addr) (it : Addr) (tn : Nat → Heap → Prop) : Prop where
  mem : it ∈ fp
  obj : ∀ i h, tn i h → ∀ b ∈ fp, ∃ o, h.get? b = some o ∧ ∀ v, o.data ≠ .cell v
  keep : ∀ i h h', tn i h → (∀ b ∈ fp, ∀ o, h.get? b = some o → h'.get? b = some o) → tn i h'
  item : ∀ (X : Cx), X.prog = P → X.w = w → X.K = K → X.calm = true → ∀ (i : Nat) (pins : List (Addr × Obj)) (s : Shared) (σ : St) (H : Hp) (E : Value → Shared → Prop), Inv X pins σ H s → (∀ b ∈ fp, FpOk X pins H b) → tn i s.heap → J.go i H →
    wpAny (model P w) X.A (pyNext (.ref it)) (fun r s1 => ∃ u, r = some u ∧
      wpAny (model P w) X.A (letOwnedTupleGo tg (.ref it) u) (fun _ s2 => ∃ x H', Inv X pins σ H' s2 ∧ RelV x u ∧ J.yld i H x H' ∧ tn (i + 1) s2.heap ∧ ∀ b ∈ fp, H' b = none) E s1) E s
  done : ∀ (X : Cx), X.prog = P → X.w = w → X.K = K → X.calm = true → ∀ (i : Nat) (pins : List (Addr × Obj)) (s : Shared) (σ : St) (H : Hp) (E : Value → Shared → Prop), Inv X pins σ H s → (∀ b ∈ fp, FpOk X pins H b) → tn i s.heap → J.stop i H →
    wpAny (model P w) X.A (pyNext (.ref it)) (fun r s1 => r = none ∧ Inv X pins σ H s1) E s
  self : ∀ (A : Around) (i : Nat) (s : Shared) (Q : Value → Shared → Prop) (E : Value → Shared → Prop), tn i s.heap → Q (.ref it) s → wpAny (model P w) A (pyIter (.ref it)) Q E s
abbrev TI := St → Hp → (It → Hp → Prop) → Prop
/-- an iterator has come -/
def PIE (X : Cx) (pins : List (Addr × Obj)) (σ : St) (tg : Expr) (R : It → Hp → Prop) (itv : Value) (s2 : Shared) : Prop :=
  ∃ (it : Addr) (fp : List Addr) (tn : Nat → Heap → Prop) (J : It) (H' : Hp), itv = .ref it ∧ Inv X pins σ H' s2 ∧ Turn X.prog X.w X.K tg J fp it tn ∧ tn 0 s2.heap ∧ (∀ b ∈ fp, FpOk X pins H' b) ∧ R J H'
def PI (X : Cx) (tg iter : Expr) (wi : TI) : Prop :=
  ∀ (pins : List (Addr × Obj)) (s : Shared) (σ : St) (H : Hp) (R : It → Hp → Prop), Inv X pins σ H s → wi σ H R →
    wpAny (model X.prog X.w) X.A (eval iter X.env) (fun v s1 => wpAny (model X.prog X.w) X.A (pyIter v) (PIE X pins σ tg R) X.xe s1) X.xe s

/-- the step ahead of the store is nothing for an iterator that keeps no tuple -/
theorem go_of {M : Model} {A : Around} {E : Value → Shared → Prop} {s : Shared} {tg : Expr} {it : Addr} {u : Value} {o : Obj} {n : String} {vs : Array Value} {Q : Unit → Shared → Prop} (ho : s.heap.get? it = some o) (hc : o.cls = .type n) (hd : o.data = .fields vs)
    (hn : ["enumerate", "zip", "dict_itemiterator", "dict_reverseitemiterator", "odict_iterator", "itertools.zip_longest", "itertools.pairwise"].contains n = false) (hQ : Q () s) : wpAny M A (letOwnedTupleGo tg (.ref it) u) Q E s := by
  unfold letOwnedTupleGo
  cases tg <;> first
    | exact wpAny_pure hQ
    | (cases u <;> first
        | exact wpAny_pure hQ
        | (refine wpAny_bind (wpAny_load ho ?_)
           rw [hc, hd]
           show wpAny M A (if (["enumerate", "zip", "dict_itemiterator", "dict_reverseitemiterator", "odict_iterator", "itertools.zip_longest", "itertools.pairwise"].contains n && vs[0]? == some (rawInt _)) = true then _ else _) Q E s
           rw [if_neg (by intro h; rw [hn, Bool.false_and] at h; cases h)]
           exact wpAny_pure hQ))

/-- the list at a, as it stands at each turn (a loop may append to it) -/
def Itl (K : PySem.W.Frag) (a : Addr) : It :=
  ⟨fun i H => ∃ xs x, SqL K H a xs ∧ xs[i]? = some x, fun i H x H' => H' = H ∧ ∀ xs, SqL K H a xs → xs[i]? = some x, fun i H => ∃ xs, SqL K H a xs ∧ xs.length ≤ i⟩
/-- lo, lo + 1, .. (n of them) -/
def Itr (lo : Int) (n : Nat) : It := ⟨fun i _ => i < n, fun i H x H' => H' = H ∧ x = .int (lo + i), fun i _ => n ≤ i⟩
theorem turn_list {P : Program} {w : World} {K : PySem.W.Frag} {tg : Expr} (a it : Addr) : Turn P w K tg (Itl K a) [it] it (fun i h => h.IsListIter it a i) where
  mem := by simp
  obj := fun i h st b hb => by
    have e : b = it := by simpa using hb
    subst e
    obtain ⟨o, e, c, d⟩ := st
    exact ⟨o, e, fun v z => by rw [d] at z; cases z⟩
  keep := fun i h h' st k => st.at fun o e => k it (by simp) o e
  item := by
    intro X hP hw hK hc i pins s σ H E I hf st hg
    subst hP hw hK
    obtain ⟨xs, x, hq, hx⟩ := hg
    obtain ⟨its, rv, p, hz⟩ := I.list hq
    obtain ⟨u, hu, ru⟩ := rv.get hx
    obtain ⟨f0, f1, f2, f3, f4, f5⟩ := hf it (by simp)
    refine wpAny_pyNext_list_item st p.isList (x := u) (by simpa using hu) fun h' st' sb => ?_
    have I1 : Inv X pins σ H { s with heap := h' } := I.turned (t' := s.toks) (fun b o hb e => (sb.2 b hb).trans e) f0 f1 f3 f4 f5
    obtain ⟨o, e, c, d⟩ := id st'
    exact ⟨u, rfl, go_of (s := { s with heap := h' }) e c d (by decide) ⟨x, H, I1, ru, ⟨rfl, fun ys hy => by rw [I.list_inj hy hq]; exact hx⟩, st', fun b hb => (hf b hb).1⟩⟩
  done := by
    intro X hP hw hK hc i pins s σ H E I hf st hg
    subst hP hw hK
    obtain ⟨xs, hq, hx⟩ := hg
    obtain ⟨its, rv, p, hz⟩ := I.list hq
    obtain ⟨f0, f1, f2, f3, f4, f5⟩ := hf it (by simp)
    have hl := rv.length
    exact wpAny_pyNext_list_end (I.ok.hd hc) st p.isList (by simp; omega) fun h' eb => ⟨rfl, I.turned (t' := s.toks) (fun b o hb e => eb b o hb e) f0 f1 f3 f4 f5⟩
  self := fun _ _ _ _ _ st h => wpAny_pyIter_listiter st h
theorem turn_range {P : Program} {w : World} {K : PySem.W.Frag} {tg : Expr} (it : Addr) (lo : Int) (n : Nat) : Turn P w K tg (Itr lo n) [it] it (fun i h => IsRangeIter h it (lo + (i : Nat) * 1) ((n : Int) - (i : Nat)) 1) where
  mem := by simp
  obj := fun i h st b hb => by
    have e : b = it := by simpa using hb
    subst e
    exact ⟨_, st, fun v z => by
      have z' : Data.fields _ = Data.cell v := z
      cases z'⟩
  keep := fun i h h' st k => k it (by simp) _ st
  item := by
    intro X hP hw hK hc i pins s σ H E I hf st hg
    subst hP hw hK
    obtain ⟨f0, f1, f2, f3, f4, f5⟩ := hf it (by simp)
    have W := Walks.range (prog := X.prog) (w := X.w) (I.ok.hd hc) it lo 1 n
    refine W.item i s _ _ hg st fun v h' tk hv st' kk => ?_
    obtain ⟨t, rfl⟩ := hv
    have I1 : Inv X pins σ H { s with heap := h', toks := tk } := I.turned (fun b o hb e => kk b o (by simpa using hb) e) f0 f1 f3 f4 f5
    refine ⟨_, rfl, go_of (s := { s with heap := h', toks := tk }) (n := "range_iterator") st' rfl rfl (by decide) ⟨.int (lo + i), H, I1, ⟨t, ?_⟩, ⟨rfl, rfl⟩, st', fun b hb => (hf b hb).1⟩⟩
    rw [Int.mul_one]
  done := by
    intro X hP hw hK hc i pins s σ H E I hf st hg
    subst hP hw hK
    obtain ⟨f0, f1, f2, f3, f4, f5⟩ := hf it (by simp)
    exact wpAny_pyNext_range_end (I.ok.hd hc) st (by have : n ≤ i := hg; omega) fun h' eb => ⟨rfl, I.turned (t' := s.toks) (fun b o hb e => eb b o hb e) f0 f1 f3 f4 f5⟩
  self := fun _ _ _ _ _ st h => wpAny_pyIter_rangeiter st h
end L2

namespace L2
open PySem PySem.Spec PyProof.Rows
section
variable {X : Cx} {tg : Expr}
def iList (K : PySem.W.Frag) (tl : TE) : TI := fun σ H R => tl σ H fun x H1 => ∃ a, x = .ref a ∧ (∃ xs, SqL K H1 a xs) ∧ R (Itl K a) H1
theorem pi_list {l : Expr} {tl : TE} (hl : PE X l tl) : PI X tg l (iList X.K tl) := by
  intro pins s σ H R I h
  refine thn (hl pins s σ H _ I h) fun v s1 ⟨x, H1, I1, r1, q1⟩ => ?_
  obtain ⟨a, e, ⟨xs, hq⟩, q⟩ := q1
  subst e
  cases r1
  obtain ⟨its, rv, p, hz⟩ := I1.list hq
  refine wpAny_pyIter_list p.isList ?_
  refine ⟨s1.heap.objs.size, [s1.heap.objs.size], _, _, H1, rfl, I1.kept (t' := s1.toks) fun b o e => Heap.get?_push_of_some _ e, turn_list a _, ⟨_, Heap.get?_push_size _ rfl, rfl, rfl⟩, fun b hb => ?_, q⟩
  have e : b = s1.heap.objs.size := by simpa using hb
  subst e
  exact I1.fpOk (Nat.le_refl _) (I1.hok.fresh (Nat.le_refl _))
/-- a range object just made, walked -/
theorem range_it {pins : List (Addr × Obj)} {σ : St} {H : Hp} {s : Shared} {R : It → Hp → Prop} {E : Value → Shared → Prop} {lo hi : Int} {t u v : Tok} {tk : Nat} (I : Inv X pins σ H s) (h1 : -(2 ^ 62) ≤ lo) (h2 : lo < 2 ^ 62) (h3 : -(2 ^ 62) ≤ hi) (h4 : hi < 2 ^ 62)
    (q : R (Itr lo (hi - lo).toNat) H) : wpAny (model X.prog X.w) X.A (pyIter (.ref s.heap.objs.size)) (PIE X pins σ tg R) E { s with heap := s.heap.push { cls := .type "range", data := .fields #[.int lo t, .int hi u, .int 1 v] }, toks := tk } := by
  refine wpAny_pyIter_range (IsRange.new ..) (small_one h1 h2 h3 h4) ?_
  have I1 : Inv X pins σ H { s with heap := s.heap.push { cls := .type "range", data := .fields #[.int lo t, .int hi u, .int 1 v] }, toks := tk } := I.kept fun b o e => Heap.get?_push_of_some _ e
  refine ⟨(s.heap.push { cls := .type "range", data := .fields #[.int lo t, .int hi u, .int 1 v] }).objs.size, [(s.heap.push { cls := .type "range", data := .fields #[.int lo t, .int hi u, .int 1 v] }).objs.size], _, _, H, rfl,
    I1.kept (t' := tk) fun b o e => Heap.get?_push_of_some _ e, turn_range _ lo (hi - lo).toNat, ?_, fun b hb => ?_, q⟩
  · have e1 : lo + ((0 : Nat) : Int) * 1 = lo := by simp
    have e2 : (((hi - lo).toNat : Nat) : Int) - ((0 : Nat) : Int) = Builtin.Range.rangeSize lo hi 1 := by rw [rangeSize_one]; split <;> omega
    show IsRangeIter _ _ (lo + ((0 : Nat) : Int) * 1) ((((hi - lo).toNat : Nat) : Int) - ((0 : Nat) : Int)) 1
    rw [e1, e2]
    exact Heap.get?_push_size _ rfl
  · have e : b = (s.heap.push { cls := .type "range", data := .fields #[.int lo t, .int hi u, .int 1 v] }).objs.size := by simpa using hb
    subst e
    exact I1.fpOk (Nat.le_refl _) (I1.hok.fresh (Nat.le_refl _))
def iRng1 (ta : TA) : TI := fun σ H R => ta σ H fun vs H1 => ∃ j : Int, vs = [.int j] ∧ -(2 ^ 62) ≤ j ∧ j < 2 ^ 62 ∧ R (Itr 0 j.toNat) H1
theorem pi_range1 {a : Expr} {ta : TA} {p pos : Pos} (hg : Gl X "range") (hm : X.mg "range" = none) (ha : PA X [a] ta) (hs : starEach [a] X.env = [(false, eval a X.env)] := by rfl) : PI X tg (.Call (.Name "range" p) [a] [] pos) (iRng1 ta) := by
  intro pins s σ H R I h
  refine Call_ (ld_blt I hg hm boot_range (PyProof.Rows.callWith_type1 (thn (ha pos pins s σ H _ I h) fun us s1 ⟨vs, H1, I1, r1, q1⟩ => ?_) hs rfl))
  obtain ⟨j, e, q1, q2, q⟩ := q1
  subst e
  cases r1 with
  | cons r rr =>
    cases rr
    obtain ⟨t, rfl⟩ := r
    exact call_range_1 (range_it I1 (by omega) (by omega) q1 q2 (by simpa using q))
/-! ### for -/
/-- W: the invariant by the turn and a measure; N: what the body is to reach -/
def tFor (wi : TI) (g : TG) (tb : TS) : TS := fun D σ H => wi σ H fun J H1 => ∃ W : Nat → Nat → St → Hp → Prop, (∃ m, W 0 m σ H1) ∧ ∀ i m σ H, W i m σ H →
  (J.stop i H ∧ D.nx σ H) ∨ (J.go i H ∧ ∃ N : St → Hp → Prop, (∀ σ' H', N σ' H' → ∃ m', m' < m ∧ W (i + 1) m' σ' H') ∧ ∀ x H', J.yld i H x H' → g x σ H' fun σ2 H2 => tb { D with nx := N, ct := N, bk := D.nx } σ2 H2)
/-- the records at fp as they stand -/
def pinsAt (fp : List Addr) (h : Heap) : List (Addr × Obj) := fp.filterMap fun b => (h.get? b).map fun o => (b, o)
theorem mem_pinsAt {fp : List Addr} {h : Heap} {b : Addr} {o : Obj} (hb : b ∈ fp) (e : h.get? b = some o) : (b, o) ∈ pinsAt fp h := List.mem_filterMap.mpr ⟨b, hb, by rw [e]; rfl⟩
theorem of_pinsAt {fp : List Addr} {h : Heap} {p : Addr × Obj} (hp : p ∈ pinsAt fp h) : p.1 ∈ fp ∧ h.get? p.1 = some p.2 := by
  obtain ⟨b, hb, e⟩ := List.mem_filterMap.mp hp
  cases q : h.get? b with
  | none => rw [q] at e; cases e
  | some o =>
    rw [q] at e
    have e' : (b, o) = p := Option.some.inj e
    subst e'
    exact ⟨hb, q⟩
theorem Inv.pinned {pins : List (Addr × Obj)} {σ : St} {H : Hp} {s : Shared} {fp : List Addr} (I : Inv X pins σ H s) (hf : ∀ b ∈ fp, FpOk X pins H b) (ho : ∀ b ∈ fp, ∃ o, s.heap.get? b = some o ∧ ∀ v, o.data ≠ .cell v) : Inv X (pins ++ pinsAt fp s.heap) σ H s :=
  I.pins_of fun p hp => (List.mem_append.mp hp).elim (fun z => I.pin p (List.mem_append_right _ z)) fun z => by
    obtain ⟨hb, e⟩ := of_pinsAt z
    obtain ⟨f0, f1, f2, _⟩ := hf p.1 hb
    obtain ⟨o, e', d⟩ := ho p.1 hb
    rw [e] at e'; cases e'
    exact ⟨e, f0, f1, f2, d⟩
theorem Inv.unpinned {pins pl : List (Addr × Obj)} {σ : St} {H : Hp} {s : Shared} (I : Inv X (pins ++ pl) σ H s) : Inv X pins σ H s := I.pins_of fun p hp => I.pin p (List.mem_append_right _ (List.mem_append_left _ hp))
theorem ps_for {iter : Expr} {body : List Stmt} {wi : TI} {g : TG} {tb : TS} {pos : Pos} (hp : PassesOwn (model X.prog X.w) X.A X.env X.xe) (hc : X.calm = true) (hi : PI X tg iter wi) (hg : PG X tg g) (hb : PSs X body tb)
    (hs : ∀ x, foldedSetIterable iter X.env x = pure x := by intro _; rfl) : PS X (.For tg iter body [] pos) (tFor wi g tb) := by
  intro pins s σ H D I h
  refine wpAny_For (thn (hi pins s σ H _ I h) fun v s1 h1 => thn h1 fun itv s2 h2 => ?_) hs
  obtain ⟨it, fp, tn, J, H2, e, I2, T, st2, f2, W, ⟨m0, w0⟩, turn⟩ := h2
  subst e
  -- what stays true of the iterator's objects through the loop
  have stat : ∀ {H' : Hp}, (∀ b ∈ fp, H' b = none) → ∀ b ∈ fp, FpOk X pins H' b := fun hn b hb => ⟨hn b hb, (f2 b hb).2⟩
  refine codeAny_forLoop_any (fun n s' => ∃ i σ' H', Inv X pins σ' H' s' ∧ tn i s'.heap ∧ (∀ b ∈ fp, H' b = none) ∧ W i n σ' H') ?_ m0 ⟨0, σ, H2, I2, st2, fun b hb => (f2 b hb).1, w0⟩
  rintro n s3 ⟨i, σ3, H3, I3, st3, fr3, w3⟩
  rcases turn i n σ3 H3 w3 with ⟨stop, qn⟩ | ⟨go, N, hN, step⟩
  · refine wpAny_passesOwn hp (thn (T.done X rfl rfl rfl hc i pins s3 σ3 H3 X.xe I3 (stat fr3) st3 stop) fun r s4 ⟨hr, I4⟩ => ?_)
    subst hr
    exact wpAny_execs_nil ⟨σ3, H3, I4, qn⟩
  · refine wpAny_passesOwn hp (thn (T.item X rfl rfl rfl hc i pins s3 σ3 H3 X.xe I3 (stat fr3) st3 go) fun r s4 ⟨u, hr, h4⟩ => ?_)
    subst hr
    refine wpAny_passesOwn hp (thn h4 fun _ s5 ⟨x, H5, I5, r5, y5, st5, fr5⟩ => ?_)
    have I5' := I5.pinned (stat fr5) (T.obj _ _ st5)
    refine wpAny_passesOwn hp (thn (hg _ s5 σ3 H5 x u _ I5' r5 (step x H5 y5)) fun _ s6 ⟨σ6, H6, I6, q6⟩ => ?_)
    refine wpAny_passesOwn hp (thn (hb _ s6 σ6 H6 _ I6 q6) fun f s7 q7 => ?_)
    have again : ∀ {σ7 : St} {H7 : Hp}, Inv X (pins ++ pinsAt fp s5.heap) σ7 H7 s7 → N σ7 H7 → ∃ m, m < n ∧ ∃ i σ' H', Inv X pins σ' H' s7 ∧ tn i s7.heap ∧ (∀ b ∈ fp, H' b = none) ∧ W i m σ' H' := fun {σ7 H7} I7 n7 => by
      obtain ⟨m', hm, w7⟩ := hN σ7 H7 n7
      refine ⟨m', hm, i + 1, σ7, H7, I7.unpinned, T.keep _ _ _ st5 fun b hb o e => (I7.pin (b, o) (List.mem_append_right _ (List.mem_append_right _ (mem_pinsAt hb e)))).1, fun b hb => ?_, w7⟩
      obtain ⟨o, e, d⟩ := T.obj _ _ st5 b hb
      exact (I7.pin (b, o) (List.mem_append_right _ (List.mem_append_right _ (mem_pinsAt hb e)))).2.1
    cases f with
    | next => obtain ⟨σ7, H7, I7, n7⟩ := q7; exact again I7 n7
    | cont => obtain ⟨σ7, H7, I7, n7⟩ := q7; exact again I7 n7
    | brk => obtain ⟨σ7, H7, I7, q7⟩ := q7; exact ⟨σ7, H7, I7.unpinned, q7⟩
    | ret v => obtain ⟨x7, σ7, H7, I7, r7, q7⟩ := q7; exact ⟨x7, σ7, H7, I7.unpinned, r7, q7⟩
end

/-! ### the forms one uses -/
/-- over a list that the body leaves as it is -/
theorem for_list {K : PySem.W.Frag} {a : Addr} {xs : List V} {g : TG} {tb : TS} {D : Ends} {σ : St} {H : Hp} (Pv : Nat → St → Hp → Prop) (h0 : Pv 0 σ H) (hl : ∀ i σ H, i ≤ xs.length → Pv i σ H → SqL K H a xs)
    (hs : ∀ i x σ H, xs[i]? = some x → Pv i σ H → g x σ H fun σ2 H2 => tb { D with nx := Pv (i + 1), ct := Pv (i + 1), bk := D.nx } σ2 H2) (hd : ∀ σ H, Pv xs.length σ H → D.nx σ H) :
    ∃ W : Nat → Nat → St → Hp → Prop, (∃ m, W 0 m σ H) ∧ ∀ i m σ H, W i m σ H →
      ((Itl K a).stop i H ∧ D.nx σ H) ∨ ((Itl K a).go i H ∧ ∃ N : St → Hp → Prop, (∀ σ' H', N σ' H' → ∃ m', m' < m ∧ W (i + 1) m' σ' H') ∧ ∀ x H', (Itl K a).yld i H x H' → g x σ H' fun σ2 H2 => tb { D with nx := N, ct := N, bk := D.nx } σ2 H2) := by
  refine ⟨fun i m σ H => m = xs.length - i ∧ i ≤ xs.length ∧ Pv i σ H, ⟨xs.length, by simp, Nat.zero_le _, h0⟩, ?_⟩
  rintro i m σ H ⟨rfl, hi, p⟩
  have q := hl i σ H hi p
  by_cases hlt : i < xs.length
  · refine .inr ⟨⟨xs, xs[i], q, by simp [hlt]⟩, Pv (i + 1), fun σ' H' p' => ⟨xs.length - (i + 1), by omega, rfl, hlt, p'⟩, fun x H' y => ?_⟩
    obtain ⟨e, y⟩ := y
    subst e
    exact hs i x σ _ (y xs q) p
  · have e : i = xs.length := by omega
    subst e
    exact .inl ⟨⟨xs, q, Nat.le_refl _⟩, hd σ H p⟩
theorem for_range {lo : Int} {n : Nat} {g : TG} {tb : TS} {D : Ends} {σ : St} {H : Hp} (Pv : Nat → St → Hp → Prop) (h0 : Pv 0 σ H)
    (hs : ∀ i σ H, i < n → Pv i σ H → g (.int (lo + i)) σ H fun σ2 H2 => tb { D with nx := Pv (i + 1), ct := Pv (i + 1), bk := D.nx } σ2 H2) (hd : ∀ σ H, Pv n σ H → D.nx σ H) :
    ∃ W : Nat → Nat → St → Hp → Prop, (∃ m, W 0 m σ H) ∧ ∀ i m σ H, W i m σ H →
      ((Itr lo n).stop i H ∧ D.nx σ H) ∨ ((Itr lo n).go i H ∧ ∃ N : St → Hp → Prop, (∀ σ' H', N σ' H' → ∃ m', m' < m ∧ W (i + 1) m' σ' H') ∧ ∀ x H', (Itr lo n).yld i H x H' → g x σ H' fun σ2 H2 => tb { D with nx := N, ct := N, bk := D.nx } σ2 H2) := by
  refine ⟨fun i m σ H => m = n - i ∧ i ≤ n ∧ Pv i σ H, ⟨n, by simp, Nat.zero_le _, h0⟩, ?_⟩
  rintro i m σ H ⟨rfl, hi, p⟩
  by_cases hlt : i < n
  · refine .inr ⟨hlt, Pv (i + 1), fun σ' H' p' => ⟨n - (i + 1), by omega, rfl, hlt, p'⟩, fun x H' y => ?_⟩
    obtain ⟨e, y⟩ := y
    subst e y
    exact hs i σ _ hlt p
  · have e : i = n := by omega
    subst e
    exact .inl ⟨Nat.le_refl _, hd σ H p⟩
/-- while, by a word and a measure of the state -/
theorem while_by {c : TT} {tb : TS} {D : Ends} {σ : St} {H : Hp} (Pv : St → Hp → Prop) (μ : St → Hp → Nat) (h0 : Pv σ H)
    (hs : ∀ σ H, Pv σ H → c σ H fun b H1 => if b = true then tb { D with nx := fun σ' H' => Pv σ' H' ∧ μ σ' H' < μ σ H, ct := fun σ' H' => Pv σ' H' ∧ μ σ' H' < μ σ H, bk := D.nx } σ H1 else D.nx σ H1)
    (mono : ∀ σ H Q Q', (∀ b H1, Q b H1 → Q' b H1) → c σ H Q → c σ H Q') : tWhile c tb D σ H := by
  refine ⟨fun m σ H => m = μ σ H ∧ Pv σ H, ⟨_, rfl, h0⟩, ?_⟩
  rintro m σ H ⟨rfl, p⟩
  refine mono σ H _ _ (fun b H1 q => ?_) (hs σ H p)
  cases b with
  | true => exact ⟨_, fun σ' H' ⟨p', l⟩ => ⟨_, l, rfl, p'⟩, q⟩
  | false => exact q
end L2

namespace L2
open PySem PySem.Spec PyProof.Rows

abbrev R2 := V → V → Hp → VK → Prop
/-- a two-place operation on values: f is binaryOp op, inplaceOp op or compareOp op -/
def OpR (X : Cx) (f : Value → Value → Sem Value) (r : R2) : Prop :=
  ∀ (pins : List (Addr × Obj)) (s : Shared) (σ : St) (H : Hp) (x y : V) (v u : Value) (Q : VK), Inv X pins σ H s → RelV x v → RelV y u → r x y H Q →
    wpAny (model X.prog X.w) X.A (f v u) (EP X pins σ Q) X.xe s
/-- a one-place operation -/
def UnR (X : Cx) (f : Value → Sem Value) (r : V → Hp → VK → Prop) : Prop :=
  ∀ (pins : List (Addr × Obj)) (s : Shared) (σ : St) (H : Hp) (x : V) (v : Value) (Q : VK), Inv X pins σ H s → RelV x v → r x H Q →
    wpAny (model X.prog X.w) X.A (f v) (EP X pins σ Q) X.xe s
/-- a call of a value that is known (a builtin, a type) with values -/
def CallR (X : Cx) (f : Value) (r : List V → Hp → VK → Prop) : Prop :=
  ∀ (pins : List (Addr × Obj)) (s : Shared) (σ : St) (H : Hp) (xs : List V) (us : List Value) (Q : VK), Inv X pins σ H s → Vals xs us → r xs H Q →
    wpAny (model X.prog X.w) X.A (call f us) (EP X pins σ Q) X.xe s
def tOp (r : R2) (ta tb : TE) : TE := fun σ H Q => ta σ H fun x H1 => tb σ H1 fun y H2 => r x y H2 Q
def tUn (r : V → Hp → VK → Prop) (ta : TE) : TE := fun σ H Q => ta σ H fun x H1 => r x H1 Q
/-- ints in, under C, and a value out -/
def rI (C : Int → Int → Prop) (g : Int → Int → V) : R2 := fun x y H Q => ∃ i j, x = .int i ∧ y = .int j ∧ C i j ∧ Q (g i j) H
def rI0 (g : Int → Int → V) : R2 := fun x y H Q => ∃ i j, x = .int i ∧ y = .int j ∧ Q (g i j) H
def rU (g : Int → V) : V → Hp → VK → Prop := fun x H Q => ∃ i, x = .int i ∧ Q (g i) H

section
variable {X : Cx} {a b c : Expr} {ta tb tc : TE} {pos : Pos}

theorem binT (ha : PE X a ta) (hb : PE X b tb) {pins : List (Addr × Obj)} {s : Shared} {σ : St} {H : Hp} {R : V → V → Hp → Prop} (I : Inv X pins σ H s)
    (h : ta σ H fun x H1 => tb σ H1 fun y H2 => R x y H2) {Q : Value → Shared → Prop} {f : Value → Value → Sem Value}
    (hf : ∀ v u s2 x y H2, Inv X pins σ H2 s2 → RelV x v → RelV y u → R x y H2 → wpAny (model X.prog X.w) X.A (f v u) Q X.xe s2) :
    wpAny (model X.prog X.w) X.A (eval a X.env) (fun v s₁ => wpAny (model X.prog X.w) X.A (eval b X.env) (fun u s₂ => wpAny (model X.prog X.w) X.A (f v u) Q X.xe s₂) X.xe s₁) X.xe s := by
  refine thn (ha pins s σ H _ I h) fun v s1 ⟨x, H1, I1, r1, q1⟩ => ?_
  refine thn (hb pins s1 σ H1 _ I1 q1) fun u s2 ⟨y, H2, I2, r2, q2⟩ => ?_
  exact hf v u s2 x y H2 I2 r1 r2 q2

theorem pe_op {op : Operator} {r : R2} (ho : OpR X (binaryOp op) r) (ha : PE X a ta) (hb : PE X b tb) : PE X (.BinOp a op b pos) (tOp r ta tb) := by
  intro pins s σ H Q I h
  exact wpAny_BinOp (binT ha hb I h fun v u s2 x y H2 I2 rx ry q => ho pins s2 σ H2 x y v u Q I2 rx ry q)
theorem pe_un {op : UnaryOp} {r : V → Hp → VK → Prop} (ho : UnR X (unaryOp op) r) (ha : PE X a ta) : PE X (.UnaryOp op a pos) (tUn r ta) := by
  intro pins s σ H Q I h
  exact UnaryOp_ (thn (ha pins s σ H _ I h) fun v s1 ⟨x, H1, I1, r1, q1⟩ => ho pins s1 σ H1 x v Q I1 r1 q1)
/-! ### ints -/
theorem opI {f : Value → Value → Sem Value} {C : Int → Int → Prop} {g : Int → Int → Int}
    (rule : ∀ (i j : Int) (t u : Tok) (s : Shared) (Q : Value → Shared → Prop) (E : Value → Shared → Prop), C i j → Q (.int (g i j) s.toks) { s with toks := s.toks + 1 } → wpAny (model X.prog X.w) X.A (f (.int i t) (.int j u)) Q E s) :
    OpR X f (rI C fun i j => .int (g i j)) := by
  intro pins s σ H x y v u Q I rx ry h
  obtain ⟨i, j, rfl, rfl, hc, q⟩ := h
  obtain ⟨t, rfl⟩ := rx
  obtain ⟨t', rfl⟩ := ry
  exact rule i j t t' s _ _ hc ⟨.int (g i j), H, I.tok _, ⟨_, rfl⟩, q⟩
theorem opI0 {f : Value → Value → Sem Value} {g : Int → Int → Int}
    (rule : ∀ (i j : Int) (t u : Tok) (s : Shared) (Q : Value → Shared → Prop) (E : Value → Shared → Prop), Q (.int (g i j) s.toks) { s with toks := s.toks + 1 } → wpAny (model X.prog X.w) X.A (f (.int i t) (.int j u)) Q E s) :
    OpR X f (rI0 fun i j => .int (g i j)) := by
  intro pins s σ H x y v u Q I rx ry h
  obtain ⟨i, j, rfl, rfl, q⟩ := h
  obtain ⟨t, rfl⟩ := rx
  obtain ⟨t', rfl⟩ := ry
  exact rule i j t t' s _ _ ⟨.int (g i j), H, I.tok _, ⟨_, rfl⟩, q⟩
theorem opB0 {f : Value → Value → Sem Value} {g : Int → Int → Bool}
    (rule : ∀ (i j : Int) (t u : Tok) (s : Shared) (Q : Value → Shared → Prop) (E : Value → Shared → Prop), Q (.bool (g i j)) s → wpAny (model X.prog X.w) X.A (f (.int i t) (.int j u)) Q E s) :
    OpR X f (rI0 fun i j => .bl (g i j)) := by
  intro pins s σ H x y v u Q I rx ry h
  obtain ⟨i, j, rfl, rfl, q⟩ := h
  obtain ⟨t, rfl⟩ := rx
  obtain ⟨t', rfl⟩ := ry
  exact rule i j t t' s _ _ ⟨.bl (g i j), H, I, rfl, q⟩

def CPow (i j : Int) : Prop := 0 ≤ j ∧ j ≤ 1000000 ∧ i.natAbs < 2 ^ 64
theorem op_add : OpR X (binaryOp .Add) (rI0 fun i j => .int (i + j)) := opI0 fun _ _ _ _ _ _ _ q => add_int q
theorem op_sub : OpR X (binaryOp .Sub) (rI0 fun i j => .int (i - j)) := opI0 fun _ _ _ _ _ _ _ q => sub_int q
/-- % by a positive divisor of any size -/
theorem op_mod : OpR X (binaryOp .Mod) (rI (fun _ j => 0 < j) fun i j => .int (i % j)) := opI fun i j _ _ _ _ _ hc q => by
  have h1 : (0 : Int) < j := hc
  exact mod_int' (by omega) (by rw [Int.fmod_eq_emod_of_nonneg i (by omega)]; exact q)
theorem op_pow : OpR X (binaryOp .Pow) (rI CPow fun i j => .int (i ^ j.toNat)) := opI fun _ _ _ _ _ _ _ hc q => pow_int_small hc.1 hc.2.1 hc.2.2 q
theorem unI {f : Value → Sem Value} {g : Int → Int}
    (rule : ∀ (i : Int) (t : Tok) (s : Shared) (Q : Value → Shared → Prop) (E : Value → Shared → Prop), Q (.int (g i) s.toks) { s with toks := s.toks + 1 } → wpAny (model X.prog X.w) X.A (f (.int i t)) Q E s) :
    UnR X f (rU fun i => .int (g i)) := by
  intro pins s σ H x v Q I rx h
  obtain ⟨i, rfl, q⟩ := h
  obtain ⟨t, rfl⟩ := rx
  exact rule i t s _ _ ⟨.int (g i), H, I.tok _, ⟨_, rfl⟩, q⟩
theorem un_neg : UnR X (unaryOp .USub) (rU fun i => .int (-i)) := unI fun _ _ _ _ _ q => neg_int q
/-! ### bools among ints: n += (a < b) -/
end

/-! ### comparisons -/
/-- the scalars that == tells apart as data does -/
def scal : V → V → Bool
  | .non, .non => true | .non, .int _ => true | .int _, .non => true | .non, .bl _ => true | .bl _, .non => true | .non, .str _ => true | .str _, .non => true
  | .int _, .int _ => true | .bl _, .bl _ => true | .str _, .str _ => true | .byt _, .byt _ => true
  | .int _, .str _ => true | .str _, .int _ => true | .bl _, .str _ => true | .str _, .bl _ => true
  | _, _ => false
def rEq : R2 := fun x y H Q => scal x y = true ∧ Q (.bl (decide (x = y))) H
def rNe : R2 := fun x y H Q => scal x y = true ∧ Q (.bl (!decide (x = y))) H

theorem dec_int {i j : Int} : decide (V.int i = V.int j) = (i == j) := by
  rw [Bool.eq_iff_iff]
  simp
theorem dec_bl {i j : Bool} : decide (V.bl i = V.bl j) = (i == j) := by
  rw [Bool.eq_iff_iff]
  simp
theorem dec_str {i j : Str} : decide (V.str i = V.str j) = (i == j) := by
  rw [Bool.eq_iff_iff]
  simp
theorem dec_byt {i j : Array UInt8} : decide (V.byt i = V.byt j) = (i.toList == j.toList) := by
  rw [Bool.eq_iff_iff]
  cases i
  cases j
  simp

section
variable {X : Cx} {a b c : Expr} {ta tb tc : TE} {pos : Pos}
theorem fin_bl {pins : List (Addr × Obj)} {σ : St} {H : Hp} {s : Shared} {Q : VK} {k k' : Bool} (I : Inv X pins σ H s) (q : Q (.bl k) H) (e : k = k') : EP X pins σ Q (.bool k') s := by
  subst e
  exact ⟨.bl k, H, I, rfl, q⟩
theorem op_eq : OpR X (compareOp .Eq) rEq := by
  intro pins s σ H x y v u Q I rx ry h
  obtain ⟨hs, q⟩ := h
  cases x with
  | non =>
    cases rx
    cases y with
    | non => cases ry; exact PySem.EqNone.eq_none_none (fin_bl I q (by simp))
    | bl j => cases ry; exact PySem.EqNone.eq_none_bool (fin_bl I q (by simp))
    | int j => obtain ⟨t', rfl⟩ := ry; exact PySem.EqNone.eq_none_int (fin_bl I q (by simp))
    | str j => obtain ⟨t', rfl⟩ := ry; exact PySem.EqNone.eq_none_str (fin_bl I q (by simp))
    | _ => exact absurd (show false = true from hs) Bool.false_ne_true
  | bl i =>
    cases rx
    cases y with
    | non => cases ry; exact PySem.EqNone.eq_bool_none (fin_bl I q (by simp))
    | bl j => cases ry; exact eq_bool (fin_bl I q dec_bl)
    | str j => obtain ⟨t', rfl⟩ := ry; exact PySem.EqMixed.eq_bool_str (fin_bl I q (by simp))
    | _ => exact absurd (show false = true from hs) Bool.false_ne_true
  | int i =>
    obtain ⟨t, rfl⟩ := rx
    cases y with
    | non => cases ry; exact PySem.EqNone.eq_int_none (fin_bl I q (by simp))
    | int j => obtain ⟨t', rfl⟩ := ry; exact eq_int (fin_bl I q dec_int)
    | str j => obtain ⟨t', rfl⟩ := ry; exact PySem.EqMixed.eq_int_str (fin_bl I q (by simp))
    | _ => exact absurd (show false = true from hs) Bool.false_ne_true
  | str i =>
    obtain ⟨t, rfl⟩ := rx
    cases y with
    | non => cases ry; exact PySem.EqNone.eq_str_none (fin_bl I q (by simp))
    | bl j => cases ry; exact PySem.EqMixed.eq_str_bool (fin_bl I q (by simp))
    | int j => obtain ⟨t', rfl⟩ := ry; exact PySem.EqMixed.eq_str_int (fin_bl I q (by simp))
    | str j => obtain ⟨t', rfl⟩ := ry; exact eq_str (fin_bl I q dec_str)
    | _ => exact absurd (show false = true from hs) Bool.false_ne_true
  | byt i =>
    obtain ⟨t, rfl⟩ := rx
    cases y with
    | byt j => obtain ⟨t', rfl⟩ := ry; exact PySem.W.eq_bytes (fin_bl I q dec_byt)
    | _ => exact absurd (show false = true from hs) Bool.false_ne_true
  | _ => cases y <;> exact absurd (show false = true from hs) Bool.false_ne_true
theorem op_ne : OpR X (compareOp .NotEq) rNe := by
  intro pins s σ H x y v u Q I rx ry h
  obtain ⟨hs, q⟩ := h
  cases x with
  | non =>
    cases rx
    cases y with
    | non => cases ry; exact PySem.EqNone.ne_none_none (fin_bl I q (by simp))
    | bl j => cases ry; exact PySem.EqNone.ne_none_bool (fin_bl I q (by simp))
    | int j => obtain ⟨t', rfl⟩ := ry; exact PySem.EqNone.ne_none_int (fin_bl I q (by simp))
    | str j => obtain ⟨t', rfl⟩ := ry; exact PySem.EqNone.ne_none_str (fin_bl I q (by simp))
    | _ => exact absurd (show false = true from hs) Bool.false_ne_true
  | bl i =>
    cases rx
    cases y with
    | non => cases ry; exact PySem.EqNone.ne_bool_none (fin_bl I q (by simp))
    | bl j => cases ry; exact ne_bool (fin_bl I q (congrArg not dec_bl))
    | str j => obtain ⟨t', rfl⟩ := ry; exact PySem.EqMixed.ne_bool_str (fin_bl I q (by simp))
    | _ => exact absurd (show false = true from hs) Bool.false_ne_true
  | int i =>
    obtain ⟨t, rfl⟩ := rx
    cases y with
    | non => cases ry; exact PySem.EqNone.ne_int_none (fin_bl I q (by simp))
    | int j => obtain ⟨t', rfl⟩ := ry; exact ne_int (fin_bl I q (congrArg not dec_int))
    | str j => obtain ⟨t', rfl⟩ := ry; exact PySem.EqMixed.ne_int_str (fin_bl I q (by simp))
    | _ => exact absurd (show false = true from hs) Bool.false_ne_true
  | str i =>
    obtain ⟨t, rfl⟩ := rx
    cases y with
    | non => cases ry; exact PySem.EqNone.ne_str_none (fin_bl I q (by simp))
    | bl j => cases ry; exact PySem.EqMixed.ne_str_bool (fin_bl I q (by simp))
    | int j => obtain ⟨t', rfl⟩ := ry; exact PySem.EqMixed.ne_str_int (fin_bl I q (by simp))
    | str j => obtain ⟨t', rfl⟩ := ry; exact ne_str (fin_bl I q (congrArg not dec_str))
    | _ => exact absurd (show false = true from hs) Bool.false_ne_true
  | byt i =>
    obtain ⟨t, rfl⟩ := rx
    cases y with
    | byt j => obtain ⟨t', rfl⟩ := ry; exact PySem.W.ne_bytes (fin_bl I q (congrArg not dec_byt))
    | _ => exact absurd (show false = true from hs) Bool.false_ne_true
  | _ => cases y <;> exact absurd (show false = true from hs) Bool.false_ne_true

theorem op_lt : OpR X (compareOp .Lt) (rI0 fun i j => .bl (decide (i < j))) := opB0 fun _ _ _ _ _ _ _ q => lt_int q
theorem op_le : OpR X (compareOp .LtE) (rI0 fun i j => .bl (decide (i ≤ j))) := opB0 fun _ _ _ _ _ _ _ q => le_int q
theorem op_gt : OpR X (compareOp .Gt) (rI0 fun i j => .bl (decide (j < i))) := opB0 fun _ _ _ _ _ _ _ q => gt_int q
theorem op_ge : OpR X (compareOp .GtE) (rI0 fun i j => .bl (decide (j ≤ i))) := opB0 fun _ _ _ _ _ _ _ q => ge_int q
theorem nomark (b : Expr) {op : CmpOp} (h : op ≠ .In := by decide) (h2 : op ≠ .NotIn := by decide) : behindInMarks op b = false := by
  have e1 : (op == CmpOp.In) = false := by cases op <;> first | rfl | exact absurd rfl h
  have e2 : (op == CmpOp.NotIn) = false := by cases op <;> first | rfl | exact absurd rfl h2
  cases b <;> simp [behindInMarks, e1, e2]
/-- a comparison as a value; hm: nomark b, or (for in, not in) by with_unfolding_all rfl -/
theorem pe_cmpR {op : CmpOp} {r : R2} (ho : OpR X (compareOp op) r) (ha : PE X a ta) (hb : PE X b tb) (hm : behindInMarks op b = false) : PE X (.Compare a [op] [b] pos) (tOp r ta tb) := by
  intro pins s σ H Q I h
  exact wpAny_Compare1 (binT ha hb I h fun v u s2 x y H2 I2 rx ry q => ho pins s2 σ H2 x y v u Q I2 rx ry q) hm
/-- a reading of a value as a test -/
def tTest (t : TE) : TT := fun σ H Q => t σ H fun x H' => ∃ k, x = .bl k ∧ Q k H'
theorem pt_cmpR {op : CmpOp} {r : R2} (ho : OpR X (compareOp op) r) (ha : PE X a ta) (hb : PE X b tb) (hm : behindInMarks op b = false) : PT X (.Compare a [op] [b] pos) (tTest (tOp r ta tb)) := by
  intro pins s σ H Q I h
  refine wpAny_isTrue_Compare1 (thn (ha pins s σ H _ I h) fun v s1 ⟨x, H1, I1, r1, q1⟩ => thn (hb pins s1 σ H1 _ I1 q1) fun u s2 ⟨y, H2, I2, r2, q2⟩ =>
    thn (ho pins s2 σ H2 x y v u _ I2 r1 r2 q2) fun c s3 ⟨z, H3, I3, r3, k, e, q3⟩ => ?_) hm
  subst e
  cases r3
  exact wpAny_truthy_bool ⟨H3, I3, q3⟩
/-! ### truth -/
theorem line63 : (sizeLine : Nat) < 2 ^ 63 := by rw [sizeLine_eq]; decide
/-! ### strs and bytes -/
/-! ### scalar builtins, by CallR -/
theorem vals1 {x : V} {us : List Value} (r : Vals [x] us) : ∃ u, us = [u] ∧ RelV x u := by
  cases r with
  | cons r1 r2 => cases r2; exact ⟨_, rfl, r1⟩
theorem vals2 {x y : V} {us : List Value} (r : Vals [x, y] us) : ∃ u w', us = [u, w'] ∧ RelV x u ∧ RelV y w' := by
  cases r with
  | cons r1 r2 =>
    cases r2 with
    | cons r3 r4 => cases r4; exact ⟨_, _, rfl, r1, r3⟩
theorem call_abs : CallR X (.builtin "abs") (fun xs H Q => ∃ i, xs = [.int i] ∧ Q (.int (if i < 0 then -i else i)) H) := by
  intro pins s σ H xs us Q I r h
  obtain ⟨i, rfl, q⟩ := h
  obtain ⟨u, rfl, t, rfl⟩ := vals1 r
  exact call_abs_int fun u tk => ⟨.int (if i < 0 then -i else i), H, I.tok _, ⟨_, rfl⟩, q⟩
theorem call_max2 (hc : X.calm = true) : CallR X (.builtin "max") (fun xs H Q => ∃ i j, xs = [.int i, .int j] ∧ Q (.int (if j > i then j else i)) H) := by
  intro pins s σ H xs us Q I r h
  obtain ⟨i, j, rfl, q⟩ := h
  obtain ⟨u, w', rfl, ⟨t, rfl⟩, ⟨t', rfl⟩⟩ := vals2 r
  refine max_two_ints (I.ok.hd hc) fun h' tk k => ⟨_, H, I.kept k, ?_, q⟩
  by_cases hj : j > i
  · rw [if_pos hj, if_pos hj]; exact ⟨_, rfl⟩
  · rw [if_neg hj, if_neg hj]; exact ⟨_, rfl⟩
theorem call_min2 (hc : X.calm = true) : CallR X (.builtin "min") (fun xs H Q => ∃ i j, xs = [.int i, .int j] ∧ Q (.int (if j < i then j else i)) H) := by
  intro pins s σ H xs us Q I r h
  obtain ⟨i, j, rfl, q⟩ := h
  obtain ⟨u, w', rfl, ⟨t, rfl⟩, ⟨t', rfl⟩⟩ := vals2 r
  refine min_two_ints (I.ok.hd hc) fun h' tk k => ⟨_, H, I.kept k, ?_, q⟩
  by_cases hj : j < i
  · rw [if_pos hj, if_pos hj]; exact ⟨_, rfl⟩
  · rw [if_neg hj, if_neg hj]; exact ⟨_, rfl⟩
end
end L2

namespace L2
open PySem PySem.Spec PyProof.Rows

/-! ### an instance, its attributes a map -/
structure ObjM (h : Heap) (x dx C : Addr) (mA : Str → Option Value) : Prop where
  obj : h.get? x = some (PySem.W.instObj C dx)
  ns : h.Ns1 dx mA
  ne : dx ≠ x

theorem lookIn_ns {h : Heap} {dx : Addr} {mA : Str → Option Value} (n : h.Ns1 dx mA) : ∃ od, h.get? dx = some od ∧ ∀ name, PySem.W.lookIn name od = some (mA name) := by
  obtain ⟨o, es, ep, ho, hd, hk, _, hm⟩ := n
  refine ⟨o, ho, fun name => ?_⟩
  have e := hm name
  unfold nsFind findBy at e
  rw [← Array.find?_toList] at e
  unfold PySem.W.lookIn
  rw [hd]
  dsimp only
  split
  · rename_i y q
    rw [q] at e
    exact congrArg some e
  · rename_i q
    rw [q] at e
    have a : es.toList.any (·.refKey) = false := by
      rw [List.any_eq_false]
      intro y hy
      obtain ⟨z, t, hkey⟩ := hk y (Array.mem_toList_iff.mp hy)
      simp [DictEntry.refKey, hkey]
    have a' : ¬ es.toList.any (·.refKey) = true := by rw [a]; exact Bool.false_ne_true
    rw [if_neg a']
    exact congrArg some e

theorem ObjM.look {h : Heap} {x dx C : Addr} {mA : Str → Option Value} (I : ObjM h x dx C mA) : ∃ od, PySem.W.InstAt h x (PySem.W.instObj C dx) C (some od) ∧ ∀ name, PySem.W.lookIn name od = some (mA name) :=
  let ⟨od, ho, hl⟩ := lookIn_ns I.ns
  ⟨od, ⟨I.obj, rfl, rfl, ho⟩, hl⟩

section
variable {prog : Program} {w : World} {A : Around} {E : Value → Shared → Prop} {s : Shared} {K : PySem.W.Frag} {x dx C f : Addr} {mA : Str → Option Value} {name : Str} {v : Value}

theorem get_map {expr : Bool} {Q : Value → Shared → Prop} (X : K.In s.heap) (I : ObjM s.heap x dx C mA) (hg : PySem.W.plainGet K C name = true) (hh : PySem.W.hasDictIn K C = true)
    (ha : PySem.W.findIn K (.ref C) name = some none) (hv : mA name = some v) (hv' : PySem.W.handedIn v = true) (h : Q v { s with toks := s.toks + 1 }) :
    wpAny (model prog w) A (getAttr (.ref x) name expr) Q E s := by
  obtain ⟨od, J, hl⟩ := I.look
  exact PySem.W.get_value X J (PySem.W.plainGet_of hg).1 (PySem.W.findObj_own hh ha rfl (by rw [hl, hv])) hv' h

theorem get_meth {pl : Sem Bool} {Q : Value × List Value → Shared → Prop} (X : K.In s.heap) (I : ObjM s.heap x dx C mA) (hg : PySem.W.plainGet K C name = true)
    (hf : PySem.W.findIn K (.ref C) name = some (some (.ref f))) (ht : PySem.W.isFn K (.ref f) = true) (hv : mA name = none) (h : Q (.ref f, [.ref x]) s) :
    wpAny (model prog w) A (getMethod (.ref x) name pl) Q E s := by
  obtain ⟨od, J, hl⟩ := I.look
  exact PySem.W.method_fn X J (PySem.W.plainGet_of hg).1 (PySem.W.plainGet_of hg).2 hf (beq_iff_eq.mp ht) (by show (PySem.W.lookIn name od).map (·.isSome) = some false; rw [hl, hv]; rfl) h

theorem set_map {ns : List Str} {Q : Unit → Shared → Prop} (X : K.In s.heap) (I : ObjM s.heap x dx C mA)
    (hs : PySem.W.findIn K (.ref C) "__setattr__" = some (some (.builtin "object.__setattr__"))) (hp : PySem.W.plainOver K C = true) (ht : PySem.W.takerIn K C name = some none) (hh : PySem.W.hasDictIn K C = true)
    (hw : PySem.Within mA ns) (hsz : ns.length ≤ sizeLine)
    (h : ∀ h', ObjM h' x dx C (fun y => if y = name then some v else mA y) → Heap.SameBut dx s.heap h' → Q () { s with heap := h', toks := s.toks + 2 }) :
    wpAny (model prog w) A (setAttr (.ref x) name v) Q E s := by
  obtain ⟨od, J, hl⟩ := I.look
  refine PySem.W.set_plain X J hs (PySem.W.osa_open (s := { s with toks := s.toks + 1 }) (r := none) X J hp ht fun b => ?_)
  obtain ⟨cd, hc, hd'⟩ := PySem.W.any_some hh
  have hx : s.heap.get? x = some ⟨.ref C, some dx, .plain, #[]⟩ := I.obj
  refine wpAny_bind (wpAny_pure (wpAny_bind (wpAny_bind (wpAny_loadPart hx (wpAny_bind (PySem.W.Looks.here (s := { s with toks := s.toks + 1 }) (PySem.W.looks_clsIn X hc) ?_))))))
  rw [hd']
  refine wpAny_pure (a := some dx) (wpAny_bind (wpAny_pure (wpAny_bind ?_)))
  refine wpAny_nsSet1 (s := { s with toks := s.toks + 1 }) I.ns fun h' hn2 hs2 => ?_
  obtain ⟨oD, esD, epD, hoD, hdD, hcD⟩ := hn2.count (PySem.Within.cons name v hw)
  refine wpAny_bind (wpAny_lookBehind hoD (by rw [hdD]; exact pastItsLine_dict (Nat.le_trans hcD (by rw [List.length_cons]; omega))) ?_)
  exact wpAny_pure (h _ ⟨(hs2.2 _ (Ne.symm I.ne)).trans I.obj, hn2, I.ne⟩ hs2)

/-- C(..): the dict at the heap's end, the instance behind it; then its __init__ -/
theorem make_map {R : Result → Shared → Prop} {vs : List Value} {kw : List (Str × Value)} (X : K.In s.heap) (hm : PySem.W.makesIn K C = true)
    (hi : PySem.W.findIn K (.ref C) "__init__" = some (some (.ref f))) (hf : PySem.W.typeIn K (.ref f) = some (.type "function"))
    (h : codeAny (model prog w) (A.under (.builtin "type.__call__" ⟨.ref C :: vs, kw⟩)) (.call (.ref f) ⟨.ref (s.heap.objs.size + 1) :: vs, kw⟩) (PySem.W.InitBack (s.heap.objs.size + 1) R)
      { s with heap := (s.heap.push PySem.W.emptyDict).push (PySem.W.instObj C s.heap.objs.size) }) :
    codeAny (model prog w) A (.call (.ref C) ⟨vs, kw⟩) R s := by
  obtain ⟨hh, g, d, t, os⟩ := s
  exact PySem.W.make_core (PySem.W.makes_of X hm) (PySem.W.looks_findIn X hi) (fun self => PySem.W.bind_fn X self hf) (.inl rfl) h
end

/-! ### the attributes as a list of pairs -/
def putF (f : Str) (v : V) : List (Str × V) → List (Str × V)
  | [] => [(f, v)]
  | (g, x) :: r => if g = f then (g, v) :: r else (g, x) :: putF f v r
theorem lookup_putF (f g : Str) (v : V) : ∀ fs : List (Str × V), (putF f v fs).lookup g = if g = f then some v else fs.lookup g
  | [] => by
    show List.lookup g [(f, v)] = _
    by_cases h : g = f
    · have hb : (g == f) = true := beq_iff_eq.mpr h
      simp only [List.lookup, hb, if_pos h]
    · have hb : (g == f) = false := beq_eq_false_iff_ne.mpr h
      simp only [List.lookup, hb, if_neg h]
  | (k, x) :: r => by
    have ih := lookup_putF f g v r
    rw [show putF f v ((k, x) :: r) = (if k = f then (k, v) :: r else (k, x) :: putF f v r) from rfl]
    by_cases hk : k = f
    · rw [if_pos hk]
      by_cases h : g = k
      · have hb : (g == k) = true := beq_iff_eq.mpr h
        simp only [List.lookup, hb, if_pos (h.trans hk)]
      · have hb : (g == k) = false := beq_eq_false_iff_ne.mpr h
        simp only [List.lookup, hb, if_neg (fun e : g = f => h (e.trans hk.symm))]
    · rw [if_neg hk]
      by_cases h : g = k
      · have hb : (g == k) = true := beq_iff_eq.mpr h
        simp only [List.lookup, hb, if_neg (fun e : g = f => hk (h.symm.trans e))]
      · have hb : (g == k) = false := beq_eq_false_iff_ne.mpr h
        simp only [List.lookup, hb]
        exact ih
theorem keys_putF (f : Str) (v : V) : ∀ fs : List (Str × V), f ∈ (putF f v fs).map (·.1) ∧ ∀ g, g ∈ fs.map (·.1) → g ∈ (putF f v fs).map (·.1)
  | [] => ⟨by simp [putF], fun g h => by simp at h⟩
  | (k, x) :: r => by
    obtain ⟨i1, i2⟩ := keys_putF f v r
    rw [show putF f v ((k, x) :: r) = (if k = f then (k, v) :: r else (k, x) :: putF f v r) from rfl]
    by_cases hk : k = f
    · rw [if_pos hk]
      subst hk
      exact ⟨by simp, fun g h => by simpa using h⟩
    · rw [if_neg hk]
      refine ⟨?_, fun g h => ?_⟩
      · rw [List.map_cons]
        exact List.mem_cons_of_mem _ i1
      · rw [List.map_cons] at h ⊢
        rcases List.mem_cons.mp h with e | e
        · exact List.mem_cons.mpr (.inl e)
        · exact List.mem_cons_of_mem _ (i2 g e)
theorem length_putF (f : Str) (v : V) : ∀ fs : List (Str × V), (putF f v fs).length ≤ fs.length + 1
  | [] => by simp [putF]
  | (k, x) :: r => by
    have ih := length_putF f v r
    rw [show putF f v ((k, x) :: r) = (if k = f then (k, v) :: r else (k, x) :: putF f v r) from rfl]
    by_cases hk : k = f
    · rw [if_pos hk, List.length_cons, List.length_cons]; omega
    · rw [if_neg hk, List.length_cons, List.length_cons]; omega

theorem RelO.some_of {v : V} {o : Option Value} (r : RelO (some v) o) : ∃ u, o = some u ∧ RelV v u := by
  cases o with
  | none => exact (show False from r).elim
  | some u => exact ⟨u, rfl, r⟩
theorem RelO.none_of {o : Option Value} (r : RelO none o) : o = none := by
  cases o with
  | none => rfl
  | some u => exact (show False from r).elim
theorem handed_of {v : V} {u : Value} (r : RelV v u) : PySem.W.handedIn u = true := by
  cases v with
  | non => cases (show u = Value.none from r); rfl
  | bl b => cases (show u = Value.bool b from r); rfl
  | int i => obtain ⟨t, e⟩ := (show ∃ t, u = Value.int i t from r); cases e; rfl
  | str x => obtain ⟨t, e⟩ := (show ∃ t, u = Value.str x t from r); cases e; rfl
  | byt b => obtain ⟨t, e⟩ := (show ∃ t, u = Value.bytes b t from r); cases e; rfl
  | flt b => obtain ⟨t, e⟩ := (show ∃ t, u = Value.float b t from r); cases e; rfl
  | ref a => cases (show u = Value.ref a from r); rfl
  | ty n => cases (show u = Value.type n from r); rfl

section
variable {P : Program} {w : World} {H H' : Hp} {h h' : Heap} {a C dx : Addr} {fs fs' : List (Str × V)}
theorem ins_get (hok : HOk P w H h) (e : H a = some (.ins C dx fs)) : ∃ mA, ObjM h a dx C mA ∧ (∀ f, RelO (fs.lookup f) (mA f)) ∧ PySem.Within mA (fs.map (·.1)) ∧ fs.length ≤ 1000 ∧ H dx = some (.own a) := by
  obtain ⟨d, z, ne, ob, mA, n, r, q⟩ := (show ObjOk P w H h a (.ins C dx fs) from hok a _ e)
  exact ⟨mA, ⟨ob, n, ne⟩, r, q, z, d⟩
end

/-! ### what of the text a class must have -/
structure Cls (K : PySem.W.Frag) (C : Addr) : Prop where
  pg : PySem.W.plainGet K C Str.empty = true
  hd : PySem.W.hasDictIn K C = true
  po : PySem.W.plainOver K C = true
  sa : PySem.W.findIn K (.ref C) "__setattr__" = some (some (.builtin "object.__setattr__"))
theorem Cls.get {K : PySem.W.Frag} {C : Addr} (c : Cls K C) (f : Str) : PySem.W.plainGet K C f = true := c.pg
/-- no class of it has the name -/
def NoAttr (K : PySem.W.Frag) (C : Addr) (f : Str) : Prop := PySem.W.findIn K (.ref C) f = some none
theorem NoAttr.taker {K : PySem.W.Frag} {C : Addr} {f : Str} (n : NoAttr K C f) : PySem.W.takerIn K C f = some none := by
  unfold PySem.W.takerIn
  rw [show PySem.W.findIn K (.ref C) f = some none from n]
  rfl
/-- a constant of the class -/
structure Con (K : PySem.W.Frag) (C : Addr) (f : Str) (v : V) (u : Value) : Prop where
  at_ : PySem.W.findIn K (.ref C) f = some (some u)
  rel : RelV v u
  get : PySem.W.specialIn K u "__get__" = some none
  cp : PySem.W.copiedNames.contains f = false
/-- a method: a plain def of the class or of one above it -/
structure Meth (K : PySem.W.Frag) (C : Addr) (m : Str) (f : Addr) : Prop where
  at_ : PySem.W.findIn K (.ref C) m = some (some (.ref f))
  fn : PySem.W.isFn K (.ref f) = true
  kp : PySem.W.keepIn K (.ref f) = true

section
variable {X : Cx} {pins : List (Addr × Obj)} {σ : St} {H : Hp} {s : Shared} {a C dx : Addr} {fs : List (Str × V)} {f : Str} {v : V} {A : Around} {E : Value → Shared → Prop}

theorem getattr_ok {b : Bool} {Q : Value → Shared → Prop} (I : Inv X pins σ H s) (e : H a = some (.ins C dx fs)) (c : Cls X.K C) (n : NoAttr X.K C f) (l : fs.lookup f = some v)
    (h : ∀ u s', Inv X pins σ H s' → RelV v u → Q u s') : wpAny (model X.prog X.w) A (getAttr (.ref a) f b) Q E s := by
  obtain ⟨mA, O, r, _, _, _⟩ := ins_get I.hok e
  obtain ⟨u, hu, ru⟩ := RelO.some_of (v := v) (o := mA f) (by rw [← l]; exact r f)
  exact get_map I.kIn O (c.get f) c.hd n hu (handed_of ru) (h u _ (I.tok _) ru)

theorem getmeth_ok {m : Str} {g : Addr} {pl : Sem Bool} {Q : Value × List Value → Shared → Prop} (I : Inv X pins σ H s) (e : H a = some (.ins C dx fs)) (c : Cls X.K C) (k : Meth X.K C m g) (l : fs.lookup m = none)
    (h : Q (.ref g, [.ref a]) s) : wpAny (model X.prog X.w) A (getMethod (.ref a) m pl) Q E s := by
  obtain ⟨mA, O, r, _, _, _⟩ := ins_get I.hok e
  have hn : mA m = none := RelO.none_of (by rw [← l]; exact r m)
  exact get_meth I.kIn O (c.get m) k.at_ k.fn hn h

theorem setattr_ok {y : V} {u : Value} {Q : Unit → Shared → Prop} (I : Inv X pins σ H s) (e : H a = some (.ins C dx fs)) (c : Cls X.K C) (n : NoAttr X.K C f) (hl : fs.length < 1000) (ry : RelV y u)
    (h : ∀ s', Inv X pins σ (upd H a (.ins C dx (putF f y fs))) s' → Q () s') : wpAny (model X.prog X.w) A (setAttr (.ref a) f u) Q E s := by
  obtain ⟨mA, O, r, wi, _, ho⟩ := ins_get I.hok e
  have hz : (fs.map (·.1)).length ≤ sizeLine := by rw [List.length_map, sizeLine_eq]; omega
  refine set_map I.kIn O c.sa c.po n.taker c.hd wi hz fun h' O' sb => h _ ?_
  have hd : ∃ o, h'.get? dx = some o := let ⟨o, _, _, e', _⟩ := O'.ns; ⟨o, e'⟩
  refine I.write (x := a) (e := dx) (by rw [e]; exact True.intro) (.inr ho) (fun b q hb z => (sb.2 b hb).trans z) hd ?_
  refine ⟨by rw [upd_ne O.ne]; exact ho, ?_, O.ne, O'.obj, _, O'.ns, fun g => ?_, fun g hg => ?_⟩
  · have := length_putF f y fs; omega
  · show RelO ((putF f y fs).lookup g) (if g = f then some u else mA g)
    rw [lookup_putF]
    by_cases q : g = f
    · rw [if_pos q, if_pos q]; exact ry
    · rw [if_neg q, if_neg q]; exact r g
  · by_cases q : g = f
    · rw [q]; exact (keys_putF f y fs).1
    · refine (keys_putF f y fs).2 g (wi g fun z => hg ?_)
      show (if g = f then some u else mA g) = none
      rw [if_neg q]; exact z

/-- a new instance, tracked, without attributes -/
theorem Inv.made (I : Inv X pins σ H s) : Inv X pins σ (upd (upd H s.heap.objs.size (.own (s.heap.objs.size + 1))) (s.heap.objs.size + 1) (.ins C s.heap.objs.size []))
    { s with heap := (s.heap.push PySem.W.emptyDict).push (PySem.W.instObj C s.heap.objs.size) } := by
  have e1 : (s.heap.push PySem.W.emptyDict).get? s.heap.objs.size = some PySem.W.emptyDict := Heap.get?_push_size s.heap rfl
  have e2 : ((s.heap.push PySem.W.emptyDict).push (PySem.W.instObj C s.heap.objs.size)).get? (s.heap.objs.size + 1) = some (PySem.W.instObj C s.heap.objs.size) := by
    have := Heap.get?_push_size (s.heap.push PySem.W.emptyDict) (o := PySem.W.instObj C s.heap.objs.size) rfl
    rwa [Heap.size_push] at this
  have e3 : (s.heap.push PySem.W.emptyDict).Ns s.heap.objs.size (fun _ => none) := ⟨PySem.W.emptyDict, #[], _, e1, rfl, (fun e he => absurd he (by simp)), fun _ => rfl⟩
  have I1 := I.laid (a := s.heap.objs.size) (o := .own (s.heap.objs.size + 1)) (h' := s.heap.push PySem.W.emptyDict) (t' := s.toks) (fun b u q => Heap.get?_push_of_some _ q) (Nat.le_refl _) ⟨_, e1⟩
  refine I1.laid (a := s.heap.objs.size + 1) (o := .ins C s.heap.objs.size []) (t' := s.toks) (fun b u q => Heap.get?_push_of_some _ q) (Nat.le_of_eq (Heap.size_push _ _)) ?_
  have ne : s.heap.objs.size ≠ s.heap.objs.size + 1 := Nat.ne_of_lt (Nat.lt_succ_self _)
  refine ⟨by rw [upd_ne ne, upd_same], Nat.zero_le _, ne, e2, fun _ => none, (Heap.Ns1.of_empty e3).at fun o q => Heap.get?_push_of_some _ q, fun _ => True.intro, fun y hy => absurd rfl hy⟩

/-- e.f where nothing but the object is asked: through attributeBase (super) and the last hold -/
theorem attr_of {prog : Program} {w : World} {env : Env} {e : Expr} {f : Str} {pos : Pos} {s : Shared} {Q : Value → Shared → Prop} (hb : attributeBase e f env (eval e env) = eval e env)
    (h : wpAny (model prog w) A (eval e env) (fun o s₁ => wpAny (model prog w) A (getAttr o f true) Q E s₁) E s) : wpAny (model prog w) A (eval (.Attribute e f pos) env) Q E s :=
  Attribute_any_ h (by rw [arm_eval_Attribute, hb])
end

/-! ### readings and rules -/
/-- e.f, an attribute of the instance -/
def tFld (K : PySem.W.Frag) (ta : TE) (f : Str) : TE := fun σ H Q => ta σ H fun x H1 => ∃ a C dx fs v, x = .ref a ∧ H1 a = some (.ins C dx fs) ∧ Cls K C ∧ NoAttr K C f ∧ fs.lookup f = some v ∧ Q v H1
/-- e.f = value -/
def sFld (K : PySem.W.Frag) (ta tv : TE) (f : Str) : TS := fun D σ H => tv σ H fun y H1 => ta σ H1 fun x H2 => ∃ a C dx fs, x = .ref a ∧ H2 a = some (.ins C dx fs) ∧ Cls K C ∧ NoAttr K C f ∧ fs.length < 1000 ∧
  D.nx σ (upd H2 a (.ins C dx (putF f y fs)))
section
variable {X : Cx} {o e value : Expr} {f : Str} {pos pos' tpos : Pos} {ta tv : TE}
theorem pe_fld (he : PE X e ta) (hb : attributeBase e f X.env (eval e X.env) = eval e X.env) : PE X (.Attribute e f pos) (tFld X.K ta f) := by
  intro pins s σ H Q I h
  refine attr_of hb (thn (he pins s σ H _ I h) fun u s1 ⟨x, H1, I1, rx, a, C, dx, fs, v, ex, ea, c, n, l, q⟩ => ?_)
  subst ex
  obtain rfl : u = Value.ref a := rx
  exact getattr_ok I1 ea c n l fun u' s2 I2 ru => ⟨v, H1, I2, ru, q⟩
theorem ps_fld (ha : PE X o ta) (hv : PE X value tv) (hs : swapsWith value (some (.Attribute o f pos')) pos.line X.env = pure false) : PS X (.Assign [.Attribute o f pos'] value pos) (sFld X.K ta tv f) := by
  intro pins s σ H D I h
  refine plainObj_wpAny_Assign_Attribute (thn (hv pins s σ H _ I h) fun u s1 ⟨y, H1, I1, ry, q⟩ => thn (ha pins s1 σ H1 _ I1 q) fun ov s2 ⟨x, H2, I2, rx, a, C, dx, fs, ex, ea, c, n, l, q2⟩ => ?_) hs
  subst ex
  obtain rfl : ov = Value.ref a := rx
  exact setattr_ok I2 ea c n l ry fun s3 I3 => ⟨σ, _, I3, q2⟩
end

/-! ### isinstance -/
section
variable {X : Cx} {pins : List (Addr × Obj)} {σ : St} {H : Hp} {s : Shared} {A : Around} {E : Value → Shared → Prop} {Q : Value → Shared → Prop} {c : Value} {b : Bool}
/-- the type of a value, as the fragment's deciders take it; for an instance its class -/
inductive TyOf (K : PySem.W.Frag) (H : Hp) : V → Value → Prop where
  | non : TyOf K H .non (.type "NoneType")
  | bl (x : Bool) : TyOf K H (.bl x) (.type "bool")
  | int (i : Int) : TyOf K H (.int i) (.type "int")
  | str (x : Str) : TyOf K H (.str x) (.type "str")
  | flt (x : UInt64) : TyOf K H (.flt x) (.type "float")
  | lst {a : Addr} {xs : List V} (e : H a = some (.lst xs)) : TyOf K H (.ref a) (.type "list")
  | frz {a : Addr} {o : Obj} {xs : List V} (e : H a = some (.frz o (.lst xs))) : TyOf K H (.ref a) (.type "list")
  | tup {a : Addr} {xs : List V} (e : H a = some (.tup xs)) : TyOf K H (.ref a) (.type "tuple")
  | dK {a : Addr} {kvs : List (Key × V)} (e : H a = some (.dK kvs)) : TyOf K H (.ref a) (.type "dict")
  | dT {a : Addr} {kvs : List (List Key × V)} (e : H a = some (.dT kvs)) : TyOf K H (.ref a) (.type "dict")
  | ins {a C dx : Addr} {fs : List (Str × V)} (e : H a = some (.ins C dx fs)) (cl : Cls K C) (ha : PySem.W.findIn K (.ref C) "__class__" = some (some (.builtin "object.__class__")))
      (hn : PySem.W.specialIn K (.builtin "object.__class__") "__get__" = some (some (.builtin "getset_descriptor.__get__"))) (htk : PySem.W.takesIn K (.builtin "object.__class__") = some true)
      (hm : PySem.W.mroIn K C (.type "object") = some true) : TyOf K H (.ref a) (.ref C)
/-- isinstance(x, c) for one class c, a built-in or an own one: kitOne's answer -/
theorem isinst_ok {x : V} {u t : Value} (I : Inv X pins σ H s) (rx : RelV x u) (ty : TyOf X.K H x t) (e : PySem.W.kitOne X.K t c = some b) (h : ∀ tk, Q (.bool b) { s with toks := tk }) :
    wpAny (model X.prog X.w) A (call (.builtin "isinstance") [u, c]) Q E s := by
  cases ty with
  | non => cases (show u = Value.none from rx); exact PySem.W.kia_one PySem.W.kitx_none I.kIn True.intro e (fun z => nomatch z) h
  | bl y => cases (show u = Value.bool y from rx); exact PySem.W.kia_one PySem.W.kitx_bool I.kIn True.intro e (fun z => nomatch z) h
  | int i => obtain ⟨t, q⟩ := (show ∃ t, u = Value.int i t from rx); cases q; exact PySem.W.kia_one PySem.W.kitx_int I.kIn True.intro e (fun z => nomatch z) h
  | str y => obtain ⟨t, q⟩ := (show ∃ t, u = Value.str y t from rx); cases q; exact PySem.W.kia_one PySem.W.kitx_str I.kIn True.intro e (fun z => nomatch z) h
  | flt y => obtain ⟨t, q⟩ := (show ∃ t, u = Value.float y t from rx); cases q; exact PySem.W.kia_one PySem.W.kitx_float I.kIn True.intro e (fun z => nomatch z) h
  | @lst a xs ea =>
    cases (show u = Value.ref a from rx)
    obtain ⟨_, _, n, _, h1⟩ := (show ObjOk X.prog X.w H s.heap a (.lst xs) from I.hok a _ ea)
    exact PySem.W.kia_one PySem.W.kitx_list I.kIn ⟨_, h1, rfl⟩ e (fun z => nomatch z) h
  | @frz a ob xs ea =>
    cases (show u = Value.ref a from rx)
    obtain ⟨_, _, _, n, _, h1⟩ := (show ObjOk X.prog X.w H s.heap a (.frz ob (.lst xs)) from I.hok a _ ea)
    exact PySem.W.kia_one PySem.W.kitx_list I.kIn ⟨_, h1, rfl⟩ e (fun z => nomatch z) h
  | @tup a xs ea =>
    cases (show u = Value.ref a from rx)
    obtain ⟨_, _, _, p⟩ := (show ObjOk X.prog X.w H s.heap a (.tup xs) from I.hok a _ ea)
    obtain ⟨o, h1, h2, _⟩ := p
    exact PySem.W.kia_one PySem.W.kitx_tuple I.kIn ⟨o, h1, h2⟩ e (fun z => nomatch z) h
  | @dK a kvs ea =>
    cases (show u = Value.ref a from rx)
    obtain ⟨_, _, vs, _, p⟩ := (show ObjOk X.prog X.w H s.heap a (.dK kvs) from I.hok a _ ea)
    obtain ⟨o, es, ep, h1, h2, _⟩ := p
    exact PySem.W.kia_one PySem.W.kitx_dict I.kIn ⟨o, h1, h2.1⟩ e (fun z => nomatch z) h
  | @dT a kvs ea =>
    cases (show u = Value.ref a from rx)
    obtain ⟨_, _, xs, _, o, es, ep, h1, h2, _⟩ := (show ObjOk X.prog X.w H s.heap a (.dT kvs) from I.hok a _ ea)
    exact PySem.W.kia_one PySem.W.kitx_dict I.kIn ⟨o, h1, h2.1⟩ e (fun z => nomatch z) h
  | @ins a C dx fs ea cl ha hn htk hm =>
    cases (show u = Value.ref a from rx)
    obtain ⟨mA, O, _⟩ := ins_get I.hok ea
    obtain ⟨od, J, _⟩ := O.look
    exact PySem.W.kia_one (PySem.W.kitx_own (cl.get _) cl.hd ha hn htk hm) I.kIn J e (fun z => nomatch z) h
end
end L2

namespace L2
open PySem PySem.Spec PyProof.Rows

/-! ### room -/
structure Room (k : Nat) (A : Around) : Prop where
  hd : A.handled = none
  dp : A.depth + 3 * k + 5 < recursionLimit
  un : A.units + 16 * k + 200 < cLine
theorem Room.mono {j k : Nat} {A : Around} (r : Room k A) (h : j ≤ k) : Room j A := ⟨r.hd, by have := r.dp; omega, by have := r.un; omega⟩
theorem Room.deeper {k : Nat} {A : Around} (r : Room (k + 1) A) (env : Env) : Room k (A.deeper env) :=
  ⟨r.hd, by have := r.dp; show A.depth + 1 + 3 * k + 5 < _; omega, by have := r.un; show A.units + 3 + 16 * k + 200 < _; omega⟩
theorem make_depth {A : Around} {C : Addr} {us : List Value} {kw : List (Str × Value)} : (A.under (.builtin "type.__call__" ⟨.ref C :: us, kw⟩)).depth = A.depth + 1 := by
  first | rfl | simp [Around.under, Code.weight, Code.isCreation, Code.isGuard, Code.isCaller, Code.frames, Code.isFrame, guardIds]
theorem make_units {A : Around} {C : Addr} {us : List Value} {kw : List (Str × Value)} : (A.under (.builtin "type.__call__" ⟨.ref C :: us, kw⟩)).units = A.units + 1 := by
  first | rfl | simp [Around.under, Code.cUnits, Code.frames, Code.isFrame]
theorem Room.make {k : Nat} {A : Around} (r : Room (k + 1) A) (C : Addr) (us : List Value) (kw : List (Str × Value)) : Room k (A.under (.builtin "type.__call__" ⟨.ref C :: us, kw⟩)) :=
  ⟨r.hd, by have := r.dp; rw [make_depth]; omega, by have := r.un; rw [make_units]; omega⟩
theorem Room.depth {k : Nat} {A : Around} (r : Room k A) : A.depth < recursionLimit := by have := r.dp; omega
theorem Room.units {k : Nat} {A : Around} (r : Room k A) : A.units + 64 < cLine := by have := r.un; omega
/-! ### argument lists and displays -/
def tNil : TA := fun _ H Q => Q [] H
def tCons (ta : TE) (tr : TA) : TA := fun σ H Q => ta σ H fun x H1 => tr σ H1 fun xs H2 => Q (x :: xs) H2
section
variable {X : Cx} {e : Expr} {es : List Expr} {te : TE} {t : TA} {pos : Pos}
theorem pa_nil : PA X [] tNil := fun _ _ _ _ H Q I h => Calls.spliced_nil ⟨[], H, I, .nil, h⟩
theorem pa_cons (ha : PE X e te) (hr : PA X es t) (hs : starEach (e :: es) X.env = (false, eval e X.env) :: starEach es X.env := by rfl) : PA X (e :: es) (tCons te t) := by
  intro pos pins s σ H Q I h
  rw [hs]
  show wpAny _ _ (spliced ((false, eval e X.env) :: backTo pos (starEach es X.env))) _ _ s
  refine Calls.spliced_cons (thn (ha pins s σ H _ I h) fun u s1 ⟨x, H1, I1, r1, q1⟩ => ?_)
  exact thn (hr pos pins s1 σ H1 _ I1 q1) fun us s2 ⟨xs, H2, I2, r2, q2⟩ => ⟨x :: xs, H2, I2, .cons r1 r2, q2⟩

/-- a tuple, a list of written items -/
def tTup (t : TA) : TE := fun σ H Q => t σ H fun xs H1 => xs.length ≤ sizeLine ∧ ∀ p, H1 p = none → Q (.ref p) (upd H1 p (.tup xs))
def tLst (t : TA) : TE := fun σ H Q => t σ H fun xs H1 => xs.length ≤ sizeLine ∧ ∀ p, H1 p = none → Q (.ref p) (upd H1 p (.lst xs))
theorem pe_tup {x1} (h : PA X es t) : PE X (.Tuple es x1 pos) (tTup t) := by
  intro pins s σ H Q I hq
  refine wpAny_Tuple_spliced (thn (h pos pins s σ H _ I hq) fun us s1 ⟨xs, H1, I1, r, z, q⟩ => ⟨by rw [← r.length]; exact z, ?_⟩)
  have hf : H1 s1.heap.objs.size = none := I1.hok.fresh (Nat.le_refl _)
  refine ⟨.ref s1.heap.objs.size, upd H1 s1.heap.objs.size (.tup xs), I1.laid (t' := s1.toks) (fun b u e => Heap.get?_push_of_some _ e) (Nat.le_refl _) ?_, rfl, q _ hf⟩
  exact ⟨z, us, r, ⟨_, Heap.get?_push_size _ rfl, rfl, _, rfl⟩⟩
theorem pe_lst (h : PA X es t) : PE X (.List es pos) (tLst t) := by
  intro pins s σ H Q I hq
  refine wpAny_List_spliced (thn (h pos pins s σ H _ I hq) fun us s1 ⟨xs, H1, I1, r, z, q⟩ => ⟨by rw [← r.length]; exact z, ?_⟩)
  have hf : H1 s1.heap.objs.size = none := I1.hok.fresh (Nat.le_refl _)
  refine ⟨.ref s1.heap.objs.size, upd H1 s1.heap.objs.size (.lst xs), I1.laid (t' := s1.toks) (fun b u e => Heap.get?_push_of_some _ e) (Nat.le_refl _) ?_, rfl, q _ hf⟩
  exact ⟨z, us, 0, r, Heap.get?_push_size _ rfl⟩
end

/-! ### what a def promises -/
/-- a def's promise: the bound arguments in the parameters' order, the heap, the wanted end, the wanted exception -/
abbrev Sp := List V → Hp → VK → XK → Prop
/-- how an exception lies behind a call (file 08 gives it): the callers' frames, abstract heap and state ahead of the call, the wish, the exception, the state -/
abbrev CXT := List Env → Hp → Shared → XK → Value → Shared → Prop

/-- the state at a call -/
structure Env0 (P : Program) (w : World) (K : PySem.W.Frag) (mg : Str → Option Value) (base : Heap) (A : Around) (outer : List Env) (s : Shared) (H : Hp) : Prop where
  frames : A.frames = some outer
  mod : Mod K mg base
  bs : ∀ b o, base.get? b = some o → s.heap.get? b = some o ∧ H b = none
  bsz : base.objs.size ≤ s.heap.objs.size
  funs : s.heap.FunFrames base outer
  frf : ∀ b ∈ frs outer, H b = none
  hok : HOk P w H s.heap
  bare : AllBare s.gens
/-- a call's end -/
def CE (outer : List Env) (P : Program) (w : World) (H : Hp) (s : Shared) (Q : VK) (u : Value) (s' : Shared) : Prop :=
  ∃ v H', s'.os = s.os ∧ AllBare s'.gens ∧ Un (frs outer) [] H H' s.heap s'.heap ∧ HOk P w H' s'.heap ∧ RelV v u ∧ Q v H'
def CR (CX : CXT) (outer : List Env) (P : Program) (w : World) (H : Hp) (s : Shared) (Q : VK) (E : XK) (r : Result) (s' : Shared) : Prop :=
  match r with
  | .ok (.ret u) => CE outer P w H s Q u s'
  | .ok _ => False
  | .error e => CX outer H s E e s'
structure FnOk (P : Program) (w : World) (K : PySem.W.Frag) (mg : Str → Option Value) (base : Heap) (CX : CXT) (k : Nat) (f : Addr) (fd : FuncData) (ps : List Str) (sp : Sp) : Prop where
  len : ∀ vs H Q E, sp vs H Q E → vs.length = ps.length
  run : ∀ (A : Around) (outer : List Env) (s : Shared) (H : Hp) (args : Args) (us : List Value) (vs : List V) (Q : VK) (E : XK), Room k A → Env0 P w K mg base A outer s H → BindsTo s fd args (ps.zip us) → Vals vs us → sp vs H Q E →
    codeAny (model P w) A (.call (.ref f) args) (CR CX outer P w H s Q E) s
theorem Env0.make {P : Program} {w : World} {K : PySem.W.Frag} {mg : Str → Option Value} {base : Heap} {A : Around} {outer : List Env} {s : Shared} {H : Hp} (e : Env0 P w K mg base A outer s H) (C : Addr) (us : List Value) (kw : List (Str × Value)) :
    Env0 P w K mg base (A.under (.builtin "type.__call__" ⟨.ref C :: us, kw⟩)) outer s H := ⟨by first | exact e.frames | (simpa [Around.under, Code.envs, Code.isFrame, pushEnvs] using e.frames), e.mod, e.bs, e.bsz, e.funs, e.frf, e.hok, e.bare⟩
section
variable {X : Cx} {pins : List (Addr × Obj)} {σ : St} {H : Hp} {s s' : Shared}
/-- from a body: what a callee wants -/
theorem Inv.env0 (I : Inv X pins σ H s) : Env0 X.prog X.w X.K X.mg X.base X.A X.stack s H :=
  ⟨I.ok.frames, I.ok.mod, I.bs, Nat.le_trans I.ok.bsz I.sz, I.stack, I.stkFree, I.hok, I.bare⟩
/-- behind a call -/
theorem Inv.after {Q : VK} {u : Value} (I : Inv X pins σ H s) (h : CE X.stack X.prog X.w H s Q u s') : EP X pins σ Q u s' := by
  obtain ⟨v, H', os, bare, un, hok, r, q⟩ := h
  obtain ⟨hh, g, d, t, os'⟩ := s'
  obtain rfl : os' = s.os := os
  exact ⟨v, H', I.call (h' := hh) (g' := g) (d' := d) (t' := t) (ch := []) un hok bare (fun b z => absurd z (by simp)), r, q⟩
end

/-! ### calls -/
/-- how the parameters are bound: us the positional arguments, kw the keywords' values by name, ds the defaults that fill up -/
def Binds (K : PySem.W.Frag) (fd : FuncData) (ps : List Str) (ds : List Value) : Prop :=
  ∀ (s : Shared) (us : List Value), K.In s.heap → (us ++ ds).length = ps.length → BindsTo s fd ⟨us, []⟩ (ps.zip (us ++ ds))
/-- every parameter is given -/
theorem Binds.all {K : PySem.W.Frag} {fd : FuncData} {ps : List Str} (h : ∀ us : List Value, us.length = ps.length → bindArgs fd ⟨us, []⟩ = pure (ps.zip us)) : Binds K fd ps [] := fun s us _ hl => by
  rw [List.append_nil] at hl ⊢
  exact .of_eq (h us hl)

section
variable {X : Cx} {CX : CXT} {k : Nat} {f C : Addr} {fd : FuncData} {ps : List Str} {sp : Sp} {dvs : List V} {ds : List Value} {E : XK} {x m : Str} {p pos apos : Pos} {e o : Expr} {es : List Expr} {ta : TE} {t : TA}

/-- what a class must have to be made -/
structure Mk (K : PySem.W.Frag) (C f : Addr) : Prop where
  makes : PySem.W.makesIn K C = true
  init : PySem.W.findIn K (.ref C) "__init__" = some (some (.ref f))
  fn : PySem.W.isFn K (.ref f) = true
  kp : PySem.W.keepIn K (.ref C) = true

end

/-! ### keywords -/
section
variable {X : Cx} {CX : CXT} {k : Nat} {f C : Addr} {fd : FuncData} {ps ks : List Str} {sp : Sp} {E : XK} {x m : Str} {p pos apos kpos : Pos} {e o : Expr} {es : List Expr} {kws : List Keyword} {te ta : TE} {t tk : TA} {nm : Option Str}
/-- how a call with keywords binds: g puts the positional values us and the keywords' values ws (names ks) in the parameters' order, defaults among them -/
structure KBinds (K : PySem.W.Frag) (fd : FuncData) (ps ks : List Str) (g : List Value → List Value → List Value) (gV : List V → List V → List V) : Prop where
  to : ∀ (s : Shared) (us ws : List Value), K.In s.heap → (g us ws).length = ps.length → BindsTo s fd ⟨us, ks.zip ws⟩ (ps.zip (g us ws))
  rel : ∀ {vs : List V} {us : List Value} {zs : List V} {ws : List Value}, Vals vs us → Vals zs ws → Vals (gV vs zs) (g us ws)
variable {g : List Value → List Value → List Value} {gV : List V → List V → List V}
end

/-! ### a def's body keeps its promise -/
/-- names: the parameters first -/
structure FnScope (N P : List Str) (sc : Scope) : Prop where
  kind : sc.kind = .function
  co : sc.isCoroutine = false
  gen : sc.isGenerator = false
  nd : N.Nodup
  pre : N.take P.length = P
  par : ∀ x ∈ P, sc.names.lookup x = some .local ∨ sc.names.lookup x = some .cell
  nofree : ∀ y ∈ sc.names, y.2 ≠ .free

theorem bindL_out {kindOf : Str → Option NameKind} {x : Str} : ∀ {binds : List (Str × Value)} {m : Str → Option Value}, (∀ v, (x, v) ∉ binds) → bindL kindOf binds m x = m x
  | [], _, _ => rfl
  | (n, v) :: r, m, h => by
    unfold bindL
    rw [bindL_out fun w hw => h w (List.mem_cons_of_mem _ hw)]
    split
    · have : x ≠ n := by rintro rfl; exact h v List.mem_cons_self
      simp [this]
    · rfl
theorem bindC_out {kindOf : Str → Option NameKind} {x : Str} : ∀ {binds : List (Str × Value)} {m : Str → Option Value}, (∀ v, (x, v) ∉ binds) → bindC kindOf binds m x = m x
  | [], _, _ => rfl
  | (n, v) :: r, m, h => by
    unfold bindC
    rw [bindC_out fun w hw => h w (List.mem_cons_of_mem _ hw)]
    split
    · rfl
    · have : x ≠ n := by rintro rfl; exact h v List.mem_cons_self
      simp [this]
theorem bindL_get {kindOf : Str → Option NameKind} {x : Str} {v : Value} : ∀ {P : List Str} {vs : List Value} {i : Nat} {m : Str → Option Value}, P.Nodup → P[i]? = some x → vs[i]? = some v → kindOf x = some .local →
    bindL kindOf (P.zip vs) m x = some v
  | [], _, _, _, _, h, _, _ => by simp at h
  | _ :: _, [], _, _, _, _, h, _ => by simp at h
  | p :: P, w :: vs, 0, m, nd, h1, h2, hk => by
    simp at h1 h2; subst h1; subst h2
    show bindL kindOf ((p, w) :: P.zip vs) m p = _
    unfold bindL
    rw [bindL_out fun v hv => (List.nodup_cons.mp nd).1 (List.of_mem_zip hv).1, if_pos hk]
    simp
  | p :: P, w :: vs, i + 1, m, nd, h1, h2, hk => by
    show bindL kindOf ((p, w) :: P.zip vs) m x = _
    unfold bindL
    exact bindL_get (i := i) (List.nodup_cons.mp nd).2 (by simpa using h1) (by simpa using h2) hk
theorem bindC_get {kindOf : Str → Option NameKind} {x : Str} {v : Value} : ∀ {P : List Str} {vs : List Value} {i : Nat} {m : Str → Option Value}, P.Nodup → P[i]? = some x → vs[i]? = some v → kindOf x ≠ some .local →
    bindC kindOf (P.zip vs) m x = some v
  | [], _, _, _, _, h, _, _ => by simp at h
  | _ :: _, [], _, _, _, _, h, _ => by simp at h
  | p :: P, w :: vs, 0, m, nd, h1, h2, hk => by
    simp at h1 h2; subst h1; subst h2
    show bindC kindOf ((p, w) :: P.zip vs) m p = _
    unfold bindC
    rw [bindC_out fun v hv => (List.nodup_cons.mp nd).1 (List.of_mem_zip hv).1, if_neg hk]
    simp
  | p :: P, w :: vs, i + 1, m, nd, h1, h2, hk => by
    show bindC kindOf ((p, w) :: P.zip vs) m x = _
    unfold bindC
    exact bindC_get (i := i) (List.nodup_cons.mp nd).2 (by simpa using h1) (by simpa using h2) hk

/-- the names' values at the entry -/
def start (N : List Str) (vs : List V) : St := vs.map some ++ List.replicate (N.length - vs.length) none

/-- the context of a def's body, at its entry; an exception leaves the frame, then lies as CX says -/
def cxOf (CX : CXT) (P : Program) (w : World) (K : PySem.W.Frag) (mg : Str → Option Value) (base : Heap) (N : List Str) (qual : Str) (scope : Scope) (f : Addr) (cd : Value) (A : Around) (outer : List Env) (s : Shared) (H : Hp) (E : XK) : Cx where
  prog := P
  w := w
  K := K
  mg := mg
  base := base
  A := A.deeper (envOfC qual scope s.heap.objs.size f cd)
  N := N
  s₀ := s
  H₀ := H
  env := envOfC qual scope s.heap.objs.size f cd
  outer := outer
  stack := envOfC qual scope s.heap.objs.size f cd :: outer
  ex := []
  calm := true
  fn := fun _ => true
  pn := []
  xe := fun e s' => wpAny (model P w) (A.deeper (envOfC qual scope s.heap.objs.size f cd)) (leaving (envOfC qual scope s.heap.objs.size f cd) e) (fun _ s'' => CX outer H s E e s'') (fun e' s'' => CX outer H s E e' s'') s'

theorem cell_has {sc : Scope} {n : Nat} {x : Str} (h : sc.names.lookup x = some .cell) : ∃ c, (cellsFrom n sc.names []).lookup x = some c := by
  have q := PySem.W.cellsFrom_some sc.names n [] (.inl h)
  exact Option.isSome_iff_exists.mp q

theorem inv_start {CX : CXT} {P : Program} {w : World} {K : PySem.W.Frag} {mg : Str → Option Value} {base : Heap} {N ps : List Str} {qual : Str} {scope : Scope} {f : Addr} {cd : Value} {A : Around} {outer : List Env} {s s1 : Shared} {H : Hp} {E : XK} {us : List Value} {vs : List V}
    (S : FnScope N ps scope) (hd : A.handled = none) (e0 : Env0 P w K mg base A outer s H) (hl : vs.length = ps.length) (r : Vals vs us)
    (x : InCallC s s.heap.objs.size (bindL (envOfC qual scope s.heap.objs.size f cd).kindOf (ps.zip us) fun _ => none) (cellsFrom (s.heap.objs.size + 1) scope.names []) (bindC (envOfC qual scope s.heap.objs.size f cd).kindOf (ps.zip us) fun _ => none) s1) :
    Inv (cxOf CX P w K mg base N qual scope f cd A outer s H E) [] (start N vs) H s1 := by
  have hpl : ps.length ≤ N.length := by have := congrArg List.length S.pre; rw [List.length_take] at this; omega
  obtain ⟨h1, tk, rfl, hk⟩ := x.done
  have noA : ∀ b : Addr, b ∉ (cxOf CX P w K mg base N qual scope f cd A outer s H E).ex := fun b z => absurd (show b ∈ ([] : List Addr) from z) (by simp)
  refine ⟨⟨e0.mod, S.kind, rfl, rfl, Nat.le_refl _, fun y z c h1 h2 => ?_, fun y hy => ?_, fun y c _ h => ?_, fun _ => hd, Around.frames_deeper e0.frames, .inr ⟨rfl, rfl⟩, fun b z => absurd z (noA b), e0.bs, e0.bsz, fun b _ _ => noA b, fun b z => absurd z (noA b), e0.funs, e0.frf⟩,
    rfl, e0.bare, Un.kept hk, ⟨_, x.toInCall.ns, fun i y v h1 h2 h3 => ?_⟩, fun y c h => ⟨_, x.cell y c h⟩, e0.hok.fresh (Nat.le_refl _), fun y c h => ?_, fun p hp => absurd (show p ∈ ([] : List (Addr × Obj)) from hp) (by simp), e0.hok.kept hk, ?_⟩
  · exact name_of_addr x.apart (PySem.mem_of_lookup h1) (PySem.mem_of_lookup h2)
  · have hy : scope.names.lookup y = some .cell ∨ scope.names.lookup y = some .free := hy
    rcases hy with hy | hy
    · exact cell_has hy
    · exact absurd rfl (S.nofree _ (PySem.mem_of_lookup hy))
  · exact Nat.le_of_lt (x.above y c (PySem.mem_of_lookup h))
  · have hi : i < vs.length := by
      unfold start at h2
      by_cases hi : i < vs.length
      · exact hi
      · rw [List.getElem?_append_right (by simpa using hi)] at h2
        rw [List.getElem?_replicate] at h2
        split at h2 <;> cases h2
    have ha : vs[i]? = some v := by
      unfold start at h2
      rw [List.getElem?_append_left (by simpa using hi), List.getElem?_map] at h2
      cases e : vs[i]? with
      | none => rw [e] at h2; cases h2
      | some a => rw [e] at h2; cases h2; rfl
    obtain ⟨u, hu, rv⟩ := r.get ha
    have hp : ps[i]? = some y := by
      rw [← S.pre, List.getElem?_take_of_lt (by omega)]; exact h1
    have ndP : ps.Nodup := by rw [← S.pre]; exact S.nd.sublist (List.take_sublist _ _)
    refine ⟨u, rv, ?_⟩
    rcases S.par y (List.mem_of_getElem? hp) with k | k
    · exact .inl ⟨k, bindL_get ndP hp hu k⟩
    · obtain ⟨c, e⟩ := cell_has (n := s.heap.objs.size + 1) k
      refine .inr ⟨.inl k, c, e, ?_⟩
      have q := x.cell y c e
      rw [bindC_get ndP hp hu (by show scope.names.lookup y ≠ _; rw [k]; decide)] at q
      exact q
  · exact e0.hok.fresh (Nat.le_of_lt (x.above y c (PySem.mem_of_lookup h)))
  · unfold start
    show _ = N.length
    rw [List.length_append, List.length_map, List.length_replicate]
    omega

/-- THE RULE: a def (or a method) of the text, by its body. The body's reading t is chosen for each entry; it is run at the parameters' values -/
theorem fn_of {CX : CXT} {P : Program} {w : World} {K : PySem.W.Frag} {mg : Str → Option Value} {base : Heap} {k : Nat} {f : Addr} {name qual : Str} {params : Arguments} {body : List Stmt} {scope : Scope} {dV kV doc pm cdv ct oc : Value} {an od : Option Addr}
    {osl : Array (Option Value)} {N ps : List Str} {sp : Sp} (lk : K.lookup f = some ⟨oc, od, .func (PySem.W.fnOf name qual params body scope dV kV doc pm an cdv ct), osl⟩) (hcd : PySem.W.codeIn K cdv qual = true) (S : FnScope N ps scope)
    (len : ∀ vs H Q E, sp vs H Q E → vs.length = ps.length)
    (hbody : ∀ (A : Around) (outer : List Env) (s : Shared) (H : Hp) (vs : List V) (Q : VK) (E : XK), Room k (A.deeper (envOfC qual scope s.heap.objs.size f cdv)) → sp vs H Q E →
      ∃ t, PSs (cxOf CX P w K mg base N qual scope f cdv A outer s H E) body t ∧ t { nx := fun _ H' => Q .non H', rt := Q } (start N vs) H) :
    FnOk P w K mg base CX (k + 1) f (PySem.W.fnOf name qual params body scope dV kV doc pm an cdv ct) ps sp := by
  refine ⟨len, fun A outer s H args us vs Q E hr e0 hb r hsp => ?_⟩
  have hl := len _ _ _ _ hsp
  have KX : K.In s.heap := e0.mod.kin.keeps fun b o e => (e0.bs b o e).1
  have lim : s.heap.NoLimit := e0.mod.nolimit.keeps fun b o e => (e0.bs b o e).1
  have hkind : ∀ y ∈ ps.zip us, scope.names.lookup y.1 = some .local ∨ (scope.names.lookup y.1 = some .cell ∧ ((cellsFrom (s.heap.objs.size + 1) scope.names []).lookup y.1).isSome = true) := fun ⟨n, v⟩ hy => by
    rcases S.par n (List.of_mem_zip hy).1 with q | q
    · exact .inl q
    · exact .inr ⟨q, PySem.W.cellsFrom_some _ _ _ (.inl q)⟩
  refine codeAny_call_function hr.depth (KX _ _ lk) rfl S.co S.gen rfl (PySem.W.codeRec_of KX hcd) (hb _ _ _ _ ?_)
  refine wpAny_newFunctionEnv_cells S.kind hkind fun env he s1 x => ?_
  subst he
  refine ⟨lim.keeps x.toInCall.keep, codeAny_func ?_⟩
  obtain ⟨t, ht, hq⟩ := hbody A outer s H vs Q E (hr.deeper _) hsp
  have I : Inv (cxOf CX P w K mg base N qual scope f cdv A outer s H E) [] (start N vs) H s1 := inv_start S hr.hd e0 hl r x
  refine wpAny_mono (ht [] s1 (start N vs) H _ I hq) (fun fl s' hs => ?_) fun e s' hs => hs
  have fin : ∀ {σ' : St} {H' : Hp} {v : V} {u : Value}, Inv (cxOf CX P w K mg base N qual scope f cdv A outer s H E) [] σ' H' s' → RelV v u → Q v H' → CE outer P w H s Q u s' :=
    fun {σ' H' v u} J rv q => ⟨v, H', J.os, J.bare, J.base, J.hok, rv, q⟩
  cases fl with
  | ret u =>
    obtain ⟨v, σ', H', J, rv, q⟩ := hs
    exact fin J rv q
  | next =>
    obtain ⟨σ', H', J, q⟩ := hs
    exact fin (v := V.non) (u := Value.none) J rfl q
  | brk =>
    obtain ⟨_, _, _, q⟩ := hs
    exact False.elim q
  | cont =>
    obtain ⟨_, _, _, q⟩ := hs
    exact False.elim q
end L2

namespace L2
open PySem PySem.Spec PyProof.Rows
section
variable {X : Cx} {x : Str} {p pos : Pos} {e : Expr} {es : List Expr} {t : TA} {id T : String} {r : List V → Hp → VK → Prop}

def tCB (r : List V → Hp → VK → Prop) (t : TA) : TE := fun σ H Q => t σ H fun vs H1 => r vs H1 Q
/-- f(e, ..), f a built-in function -/
theorem pe_callB (hc : CallR X (.builtin id) r) (hg : Gl X x) (hm : X.mg x = none) (hv : bootBuiltins x = some (.builtin id)) (ha : PA X (e :: es) t) (hn : x ≠ "__name__" := by decide) (hdb : (x == ("__debug__" : Str)) = false := by decide)
    (he : starEach (e :: es) X.env = (false, eval e X.env) :: starEach es X.env := by rfl) (hpl : (backTo pos (starEach es X.env)).any (·.1) = false := by rfl) : PE X (.Call (.Name x p) (e :: es) [] pos) (tCB r t) := by
  intro pins s σ H Q I h
  refine wpAny_Call_Name_kw (ld_blt I hg hm hv ?_ hn hdb)
  exact PyProof.Rows.callWith_builtin1 (thn (ha pos pins s σ H _ I h) fun us s1 ⟨vs, H1, I1, r1, q1⟩ => hc pins s1 σ H1 vs us Q I1 r1 q1) he hpl
/-- T(e, ..), T a built-in type -/
theorem pe_callTy (hc : CallR X (.type T) r) (hg : Gl X x) (hm : X.mg x = none) (hv : bootBuiltins x = some (.type T)) (ha : PA X (e :: es) t) (hn : x ≠ "__name__" := by decide) (hdb : (x == ("__debug__" : Str)) = false := by decide)
    (he : starEach (e :: es) X.env = (false, eval e X.env) :: starEach es X.env := by rfl) (hpl : (backTo pos (starEach es X.env)).any (·.1) = false := by rfl) : PE X (.Call (.Name x p) (e :: es) [] pos) (tCB r t) := by
  intro pins s σ H Q I h
  refine wpAny_Call_Name_kw (ld_blt I hg hm hv ?_ hn hdb)
  exact PyProof.Rows.callWith_type1 (thn (ha pos pins s σ H _ I h) fun us s1 ⟨vs, H1, I1, r1, q1⟩ => hc pins s1 σ H1 vs us Q I1 r1 q1) he hpl
end
end L2

namespace HT
open PySem PyProof.Rows

section
open PySem.SeqAt
open PySem.AutoSeq1 (wpAny_loadPart')
open PySem.MeetsSeq PySem.MeetsSeq2 PySem.MeetsSeq3

end

section
variable {prog : Program} {w : World} {A : Around} {E : Value → Shared → Prop} {s : Shared}

/-! ### t[a:b], not the whole -/
/-- a slice's bound as a place among n (d where it is left out) -/
def sIx (n d : Nat) : Option Int → Nat
  | none => d
  | some v => if v < 0 then (v + (n : Int)).toNat else min v.toNat n
theorem sIx_none (n d : Nat) : sIx n d none = d := rfl
theorem sIx_nat (n d k : Nat) : sIx n d (some (k : Int)) = min k n := by
  show (if (k : Int) < 0 then ((k : Int) + (n : Int)).toNat else min (k : Int).toNat n) = min k n
  rw [if_neg (by omega), Int.toNat_natCast]
end
end HT

namespace L2
open PySem PySem.Spec PyProof.Rows

/-! ### the parts of a slice -/
abbrev TO := St → Hp → (Option Int → Hp → Prop) → Prop
/-- a slice's part (left out, or an int) -/
def PO (X : Cx) (e : Option Expr) (t : TO) : Prop :=
  ∀ (pins : List (Addr × Obj)) (s : Shared) (σ : St) (H : Hp) (Q : Option Int → Hp → Prop), Inv X pins σ H s → t σ H Q →
    wpAny (model X.prog X.w) X.A (evalPart e X.env) (fun u s' => ∃ o H', Inv X pins σ H' s' ∧ IsPart u o ∧ Q o H') X.xe s
def tNoPart : TO := fun _ H Q => Q none H
def tPart (t : TE) : TO := fun σ H Q => t σ H fun x H1 => ∃ i, x = .int i ∧ Q (some i) H1

theorem intsAre_of {ns : List Int} : ∀ {us : List Value}, Vals (ns.map V.int) us → IntsAre us ns := by
  induction ns with
  | nil => intro us r; rw [List.map_nil] at r; cases r; exact .nil
  | cons n ns ih =>
    intro us r
    rw [List.map_cons] at r
    cases r with
    | cons r1 r2 =>
      obtain ⟨t, e⟩ := r1
      subst e
      exact .cons n t (ih r2)

section
variable {X : Cx} {e : Expr} {te : TE} {lo hi : Option Expr} {tl th : TO} {pos p2 : Pos}

theorem po_none : PO X none tNoPart := by
  intro pins s σ H Q I h
  rw [evalPart_none]
  exact wpAny_pure ⟨none, H, I, .none, h⟩
theorem po_some (h : PE X e te) : PO X (some e) (tPart te) := by
  intro pins s σ H Q I hw
  rw [evalPart_some]
  refine thn (h pins s σ H _ I hw) fun u s1 ⟨x, H1, I1, r1, q1⟩ => ?_
  obtain ⟨i, rfl, q⟩ := q1
  obtain ⟨t, rfl⟩ := r1
  exact ⟨some i, H1, I1, .int i t, q⟩

/-- what a slice of a value is, by values: the slice object stands at sl -/
def SlR (X : Cx) (r : V → Option Int → Option Int → Hp → VK → Prop) : Prop :=
  ∀ (pins : List (Addr × Obj)) (s : Shared) (σ : St) (H : Hp) (x : V) (v vl vu : Value) (lo hi : Option Int) (sl : Addr) (Q : VK), Inv X pins σ H s → RelV x v → s.heap.IsSliceOf sl vl vu .none → IsPart vl lo → IsPart vu hi → r x lo hi H Q →
    ∃ T id, typeLookup (.type T) "__getitem__" = pure (some (.builtin id)) ∧ s.TypeIs v T ∧ wpAny (model X.prog X.w) X.A (getItem v (.ref sl)) (EP X pins σ Q) X.xe s
def tSl (r : V → Option Int → Option Int → Hp → VK → Prop) (te : TE) (tl th : TO) : TE := fun σ H Q => te σ H fun x H1 => tl σ H1 fun l H2 => th σ H2 fun u H3 => r x l u H3 Q
/-- a[lo:hi], any a -/
theorem pe_slice {r : V → Option Int → Option Int → Hp → VK → Prop} (hr : SlR X r) (he : PE X e te) (hl : PO X lo tl) (hu : PO X hi th) : PE X (.Subscript e (.Slice lo hi none p2) pos) (tSl r te tl th) := by
  intro pins s σ H Q I h
  refine Subscript_ (thn (he pins s σ H _ I h) fun v s1 ⟨x, H1, I1, r1, q1⟩ => ?_)
  refine wpAny_Slice (thn (hl pins s1 σ H1 _ I1 q1) fun vl s2 ⟨l, H2, I2, pl, q2⟩ => thn (hu pins s2 σ H2 _ I2 q2) fun vu s3 ⟨u, H3, I3, pu, q3⟩ => ?_)
  rw [evalPart_none]
  refine wpAny_pure ?_
  have I4 : Inv X pins σ H3 { s3 with heap := s3.heap.push { cls := .type "slice", data := .fields #[vl, vu, .none] } } := I3.kept (t' := s3.toks) fun b ob q => Heap.get?_push_of_some _ q
  obtain ⟨T, id, hT, ht, hg⟩ := hr pins { s3 with heap := s3.heap.push { cls := .type "slice", data := .fields #[vl, vu, .none] } } σ H3 x v vl vu l u s3.heap.objs.size Q I4 r1 (Heap.IsSliceOf.new ..) pl pu q3
  show wpAny (model X.prog X.w) X.A (subscriptTail e (.Slice lo hi none p2) v (.ref s3.heap.objs.size)) (EP X pins σ Q) X.xe { s3 with heap := s3.heap.push { cls := .type "slice", data := .fields #[vl, vu, .none] } }
  exact tail_any (ops := [.ref s3.heap.objs.size, v]) ht hT hg (by with_unfolding_all rfl)

/-- the items of xs[lo:hi] -/
def cutV (xs : List V) (lo hi : Option Int) : List V := (xs.drop (HT.sIx xs.length 0 lo)).take (HT.sIx xs.length xs.length hi - HT.sIx xs.length 0 lo)
theorem cutV_length (xs : List V) (lo hi : Option Int) : (cutV xs lo hi).length ≤ xs.length := by
  unfold cutV
  rw [List.length_take, List.length_drop]
  omega
/-! ### t < u, t + u -/
end
end L2

namespace L2
open PySem PySem.Spec PyProof.Rows

/-! ### places -/
/-- the place that an index of any sign means -/
def ixN (n : Nat) (i : Int) : Option Nat := if 0 ≤ i then (if i < n then some i.toNat else none) else if -(n : Int) ≤ i then some (i + n).toNat else none
def atI {α : Type} (xs : List α) (i : Int) : Option α := (ixN xs.length i).bind fun j => xs[j]?
theorem ixN_seq {n : Nat} {i : Int} {j : Nat} (h : ixN n i = some j) : seqIndex? i n = some j ∧ j < n ∧ -(n : Int) ≤ i ∧ i < n := by
  unfold ixN at h
  by_cases h0 : 0 ≤ i
  · rw [if_pos h0] at h
    by_cases h1 : i < n
    · rw [if_pos h1] at h
      have e : i.toNat = j := Option.some.inj h
      exact ⟨by rw [seqIndex_of h0 h1, e], by omega, by omega, h1⟩
    · rw [if_neg h1] at h; cases h
  · rw [if_neg h0] at h
    by_cases h1 : -(n : Int) ≤ i
    · rw [if_pos h1] at h
      have e : (i + n).toNat = j := Option.some.inj h
      exact ⟨by rw [seqIndex_neg (by omega) h1, e], by omega, h1, by omega⟩
    · rw [if_neg h1] at h; cases h
theorem atI_get {α : Type} {xs : List α} {i : Int} {v : α} (h : atI xs i = some v) : ∃ j, seqIndex? i xs.length = some j ∧ xs[j]? = some v ∧ j < xs.length ∧ -(xs.length : Int) ≤ i ∧ i < xs.length := by
  unfold atI at h
  cases e : ixN xs.length i with
  | none => rw [e] at h; cases h
  | some j =>
    rw [e] at h
    obtain ⟨h1, h2, h3, h4⟩ := ixN_seq e
    exact ⟨j, h1, h, h2, h3, h4⟩
theorem atI_nat {α : Type} {xs : List α} {j : Nat} {v : α} (h : xs[j]? = some v) : atI xs (j : Int) = some v := by
  have hj : j < xs.length := (List.getElem?_eq_some_iff.mp h).1
  have e : ixN xs.length (j : Int) = some j := by
    unfold ixN
    rw [if_pos (by omega), if_pos (by omega)]; simp
  unfold atI; rw [e]; exact h
theorem atI_last {α : Type} (xs : List α) (v : α) : atI (xs ++ [v]) (-1) = some v := by
  have hl : (xs ++ [v]).length = xs.length + 1 := by simp
  have e : ixN (xs ++ [v]).length (-1) = some xs.length := by
    unfold ixN
    rw [hl, if_neg (by decide), if_pos (by omega)]
    congr 1
    omega
  unfold atI
  rw [e]
  show (xs ++ [v])[xs.length]? = some v
  simp

/-! ### what may be subscripted -/
/-- what stands as an index of a plain subscript -/
def PlainIx (b : Expr) : Prop := ∀ o i, subscripted b false o i = operate [o, i] (getItem o i)
/-- a subscript by values -/
def IxR (X : Cx) (r : R2) : Prop :=
  ∀ (value slice : Expr) (pins : List (Addr × Obj)) (s : Shared) (σ : St) (H : Hp) (x y : V) (v u : Value) (Q : VK), Inv X pins σ H s → RelV x v → RelV y u → r x y H Q →
    subscripted slice false v u = operate [v, u] (getItem v u) → wpAny (model X.prog X.w) X.A (subscriptTail value slice v u) (EP X pins σ Q) X.xe s
/-- a call of a builtin's method by values: the receiver, the arguments -/
def MtR (X : Cx) (id : String) (r : V → List V → Hp → VK → Prop) : Prop :=
  ∀ (pins : List (Addr × Obj)) (s : Shared) (σ : St) (H : Hp) (x : V) (xs : List V) (v : Value) (us : List Value) (Q : VK), Inv X pins σ H s → RelV x v → Vals xs us → r x xs H Q →
    wpAny (model X.prog X.w) X.A (call (.builtin id) (v :: us)) (EP X pins σ Q) X.xe s
section
variable {X : Cx} {a b : Expr} {ta tb : TE} {pos : Pos}
/-- a[b] -/
theorem pe_ix {r : R2} (hr : IxR X r) (ha : PE X a ta) (hb : PE X b tb) (hs : PlainIx b) : PE X (.Subscript a b pos) (tOp r ta tb) := by
  intro pins s σ H Q I h
  exact Subscript_ (binT ha hb I h fun v u s2 x y H2 I2 rx ry q => hr a b pins s2 σ H2 x y v u Q I2 rx ry q (hs _ _))

def rIxL (K : PySem.W.Frag) : R2 := fun x y H Q => ∃ p xs i v, x = .ref p ∧ y = .int i ∧ SqL K H p xs ∧ atI xs i = some v ∧ Q v H
def rIxT (K : PySem.W.Frag) : R2 := fun x y H Q => ∃ p xs i v, x = .ref p ∧ y = .int i ∧ SqT K H p xs ∧ atI xs i = some v ∧ Q v H
theorem ix_list : IxR X (rIxL X.K) := by
  intro value slice pins s σ H x y v u Q I rx ry h hs
  obtain ⟨p, xs, i, z, rfl, rfl, hq, he, q⟩ := h
  cases rx
  obtain ⟨t, rfl⟩ := ry
  obtain ⟨its, r, pl, hz⟩ := I.list hq
  obtain ⟨j, h1, h2, h3, h4, h5⟩ := atI_get he
  obtain ⟨w, ew, rw'⟩ := r.get h2
  have hl := r.length
  have hn := line63
  have fin : EP X pins σ Q w s := ⟨z, H, I, rw', q⟩
  by_cases h0 : 0 ≤ i
  · have hj : i.toNat = j := by
      rw [seqIndex_of h0 h5] at h1
      exact Option.some.inj h1
    exact item_listR pl.isList h0 (by omega) (by rw [hj]; simpa using ew) fin hs
  · have hj : (i + (its.toArray.size : Int)).toNat = j := by
      rw [seqIndex_neg (by omega) h4] at h1
      rw [List.size_toArray, ← hl]
      exact Option.some.inj h1
    exact subscriptTail_builtinR (x := w) pl.isList.typeIs slot_list_getitem.lookup
      (wpAny_getItem_list_neg (Q := fun r s' => r = w ∧ EP X pins σ Q r s') pl.isList (by omega) (by rw [List.size_toArray] <;> omega) (by omega) (by rw [hj]; simpa using ew) ⟨rfl, fin⟩) hs
theorem ix_tup : IxR X (rIxT X.K) := by
  intro value slice pins s σ H x y v u Q I rx ry h hs
  obtain ⟨p, xs, i, z, rfl, rfl, hq, he, q⟩ := h
  cases rx
  obtain ⟨t, rfl⟩ := ry
  obtain ⟨its, r, pl, hz⟩ := I.tuple hq
  obtain ⟨j, h1, h2, h3, h4, h5⟩ := atI_get he
  obtain ⟨w, ew, rw'⟩ := r.get h2
  have hl := r.length
  have hn := line63
  have fin : EP X pins σ Q w s := ⟨z, H, I, rw', q⟩
  exact subscriptTail_builtinR (x := w) pl.typeIs slot_tuple_getitem.lookup
    (getItem_tuple (j := j) (Q := fun r s' => r = w ∧ EP X pins σ Q r s') pl (by omega) (by omega) (by rw [List.size_toArray, ← hl]; exact h1) (by simpa using ew) ⟨rfl, fin⟩) hs
/-! ### xs[i] = v, any sign -/
/-! ### slices -/
theorem slice_bounds (lo hi : Option Int) (n : Nat) : (sliceBounds lo hi none n).1 = ((HT.sIx n 0 lo : Nat) : Int) ∧ (sliceBounds lo hi none n).2.1 = ((HT.sIx n n hi : Nat) : Int) ∧ (sliceBounds lo hi none n).2.2 = 1 := by
  refine ⟨?_, ?_, rfl⟩
  · cases lo with
    | none => simp [sliceBounds, HT.sIx]
    | some i =>
      simp only [sliceBounds, HT.sIx, Option.getD_none, show (1 : Int) > 0 by decide, if_true]
      by_cases h : i < 0
      · simp only [h, if_true] <;> omega
      · simp only [h, if_false] <;> omega
  · cases hi with
    | none => simp [sliceBounds, HT.sIx]
    | some i =>
      simp only [sliceBounds, HT.sIx, Option.getD_none, show (1 : Int) > 0 by decide, if_true]
      by_cases h : i < 0
      · simp only [h, if_true] <;> omega
      · simp only [h, if_false] <;> omega
theorem slicePick_cut (its : List Value) (lo hi : Option Int) : slicePick its.toArray lo hi none = ((its.drop (HT.sIx its.length 0 lo)).take (HT.sIx its.length its.length hi - HT.sIx its.length 0 lo)).toArray := by
  obtain ⟨h1, h2, h3⟩ := slice_bounds lo hi its.toArray.size
  unfold slicePick
  rw [h1, h2, h3]
  simp only [sliceRange_one, pick_run, List.size_toArray] <;> rfl
/-- xs[lo:hi] of a list: a new list -/
def rSlL (K : PySem.W.Frag) : V → Option Int → Option Int → Hp → VK → Prop := fun x lo hi H Q => ∃ a xs, x = .ref a ∧ SqL K H a xs ∧ ∀ p, H p = none → Q (.ref p) (upd H p (.lst (cutV xs lo hi)))
theorem sl_list : SlR X (rSlL X.K) := by
  intro pins s σ H x v vl vu lo hi sl Q I rx hs pl pu h
  obtain ⟨a, xs, rfl, hx, q⟩ := h
  cases rx
  obtain ⟨its, r, ht, hz⟩ := I.list hx
  have hlen := r.length
  refine ⟨"list", _, slot_list_getitem.lookup, ht.isList.typeIs, ?_⟩
  refine wpAny_getItem_list_slice ht.isList hs pl pu .none (by simp) ?_ (by rw [List.size_toArray] <;> omega)
  rw [slicePick_cut, ← hlen]
  refine ⟨.ref s.heap.objs.size, _, I.laid (t' := s.toks) (o := .lst (cutV xs lo hi)) (fun b ob q => Heap.get?_push_of_some _ q) (Nat.le_refl _) ?_, rfl, q _ (I.hok.fresh (Nat.le_refl _))⟩
  exact ⟨Nat.le_trans (cutV_length xs lo hi) hz, _, 0, (r.drop (HT.sIx xs.length 0 lo)).take (HT.sIx xs.length xs.length hi - HT.sIx xs.length 0 lo), Heap.get?_push_size _ rfl⟩

/-! ### in, not in: flat items -/
/-! ### len, list(x), tuple(x) of any list or tuple that is read -/
theorem call_len_seq : CallR X (.builtin "len") (fun xs H Q => ∃ p ys, xs = [.ref p] ∧ (SqL X.K H p ys ∨ SqT X.K H p ys) ∧ Q (.int ys.length) H) := by
  intro pins s σ H xs us Q I r h
  obtain ⟨p, ys, rfl, hq, q⟩ := h
  obtain ⟨u, rfl, rx⟩ := vals1 r
  cases rx
  have hn := line63
  rcases hq with hq | hq
  · obtain ⟨its, r', pl, hz⟩ := I.list hq
    have hlen := r'.length
    exact Calls.call_len_list pl.isList (by simp only [List.size_toArray] <;> omega) ⟨.int ys.length, H, I.tok _, ⟨s.toks + 1, by rw [List.size_toArray, hlen]⟩, q⟩
  · obtain ⟨its, r', pl, hz⟩ := I.tuple hq
    have hlen := r'.length
    exact len_tuple pl (by simp only [List.size_toArray] <;> omega) ⟨.int ys.length, H, I.tok _, ⟨s.toks + 1, by rw [List.size_toArray, hlen]⟩, q⟩
theorem call_list_of : CallR X (.type "list") (fun xs H Q => ∃ p ys, xs = [.ref p] ∧ (SqL X.K H p ys ∨ SqT X.K H p ys) ∧ ∀ l, H l = none → Q (.ref l) (upd H l (.lst ys))) := by
  intro pins s σ H xs us Q I r h
  obtain ⟨p, ys, rfl, hq, q⟩ := h
  obtain ⟨u, rfl, rx⟩ := vals1 r
  cases rx
  have fin : ∀ (its : List Value), Vals ys its → ys.length ≤ sizeLine → ∀ (h' : Heap) (c' : Nat), (∀ b o', s.heap.get? b = some o' → h'.get? b = some o') →
      h'.get? s.heap.objs.size = some { cls := .type "list", dict := none, data := .seq its.toArray c', slots := #[] } → EP X pins σ Q (.ref s.heap.objs.size) { s with heap := h' } := fun its r' hz h' c' kp e =>
    ⟨.ref s.heap.objs.size, _, I.laid (t' := s.toks) kp (Nat.le_refl _) (show ObjOk X.prog X.w _ h' _ (.lst ys) from ⟨hz, its, c', r', e⟩), rfl, q _ (I.hok.fresh (Nat.le_refl _))⟩
  rcases hq with hq | hq
  · obtain ⟨its, r', pl, hz⟩ := I.list hq
    have hlen := r'.length
    obtain ⟨o, ho, hc, n, hd⟩ := pl.isList
    exact call_list_seq p (.inl rfl) ho hc hd (fun h' c' kp e => fin its r' hz h' c' kp e) (by simp only [List.size_toArray] <;> omega)
  · obtain ⟨its, r', pl, hz⟩ := I.tuple hq
    have hlen := r'.length
    obtain ⟨o, ho, hc, n, hd⟩ := pl
    exact call_list_seq p (.inr rfl) ho hc hd (fun h' c' kp e => fin its r' hz h' c' kp e) (by simp only [List.size_toArray] <;> omega)
/-! ### the call of a builtin's method: o.m(..) -/
/-- the value is of that builtin type -/
def tyV (K : PySem.W.Frag) (T : String) (x : V) (H : Hp) : Prop := match x with
  | .str _ => T = "str"
  | .int _ => T = "int"
  | .ref p => (T = "list" ∧ ∃ xs, SqL K H p xs) ∨ (T = "tuple" ∧ ∃ o, K.lookup p = some o ∧ o.cls = .type "tuple" ∧ o.dict = none) ∨
      (T = "dict" ∧ ((∃ kvs, H p = some (.dK kvs)) ∨ ∃ kvs, H p = some (.dT kvs))) ∨ (T = "set" ∧ ∃ S n, H p = some (.set S n))
  | _ => False
theorem tyV_is {pins : List (Addr × Obj)} {σ : St} {H : Hp} {s : Shared} {T : String} {x : V} {v : Value} (I : Inv X pins σ H s) (r : RelV x v) (ty : tyV X.K T x H) :
    s.TypeIs v T ∧ ∀ a, v = .ref a → ∃ ob, s.heap.get? a = some ob ∧ ob.dict = none := by
  cases x with
  | str z =>
    obtain ⟨t, rfl⟩ := r
    cases (show T = "str" from ty)
    exact ⟨typeIs_str s z t, fun _ e => nomatch e⟩
  | int i =>
    obtain ⟨t, rfl⟩ := r
    cases (show T = "int" from ty)
    exact ⟨typeIs_int s i t, fun _ e => nomatch e⟩
  | ref p =>
    cases r
    rcases ty with ⟨rfl, xs, hq⟩ | ⟨rfl, o, hk, hc, hd⟩ | ⟨rfl, hk⟩ | ⟨rfl, S, n, hk⟩
    · obtain ⟨its, _, pl, _⟩ := I.list hq
      refine ⟨pl.isList.typeIs, fun a e => ?_⟩
      cases e
      obtain ⟨o, n, e, c, hd, _⟩ := pl
      exact ⟨o, e, hd⟩
    · refine ⟨⟨o, I.kIn p o hk, hc⟩, fun a e => ?_⟩
      cases e
      exact ⟨o, I.kIn _ o hk, hd⟩
    · have z : ∃ o, s.heap.get? p = some o ∧ o.ExactDict := by
        rcases hk with ⟨kvs, hk⟩ | ⟨kvs, hk⟩
        · obtain ⟨_, _, _, _, o, _, _, e, ex, _⟩ := I.hok p _ hk
          exact ⟨o, e, ex⟩
        · obtain ⟨_, _, _, _, o, _, _, e, ex, _⟩ := I.hok p _ hk
          exact ⟨o, e, ex⟩
      obtain ⟨o, e, ex⟩ := z
      refine ⟨⟨o, e, ex.1⟩, fun a e2 => ?_⟩
      cases e2
      exact ⟨o, e, ex.2.1⟩
    · obtain ⟨o, _, _, _, e, ex, _⟩ := I.hok p _ hk
      refine ⟨⟨o, e, ex.1⟩, fun a e2 => ?_⟩
      cases e2
      exact ⟨o, e, ex.2.1⟩
  | _ => exact False.elim ty
def tBM (K : PySem.W.Frag) (T : String) (r : V → List V → Hp → VK → Prop) (to : TE) (t : TA) : TE := fun σ H Q => to σ H fun x H1 => tyV K T x H1 ∧ t σ H1 fun xs H2 => r x xs H2 Q
variable {o e : Expr} {es : List Expr} {to : TE} {t : TA} {name : Str} {apos cpos : Pos} {T id : String} {r : V → List V → Hp → VK → Prop}
theorem pe_bm (pa : PlainAttrs T) (slot : Slot T name id) (hty : typeOf (.builtin id) = pure (.type "method_descriptor")) (hm : MtR X id r) (ho : PE X o to) (ha : PA X (e :: es) t)
    (hbase : attributeBase o name X.env (eval o X.env) = eval o X.env := by rfl)
    (hfew : ((backTo cpos (starEach (e :: es) X.env)).all (fun x => !x.1) && (backToKw cpos (keywordEach [] X.env)).all (fun x => x.1.isSome)
      && decide ((e :: es).length + ([] : List Keyword).length + (if ([] : List Keyword).isEmpty then 0 else 1) < 30)) = true := by rfl)
    (hline : (apos.endLine == cpos.line) = true := by rfl) (hs : starEach (e :: es) X.env = (false, eval e X.env) :: starEach es X.env := by rfl) (hplain : (backTo cpos (starEach es X.env)).any (·.1) = false := by rfl) :
    PE X (.Call (.Attribute o name apos) (e :: es) [] cpos) (tBM X.K T r to t) := by
  intro pins s σ H Q I h
  refine wpAny_Call_method_late hbase hfew hline rfl (thn (ho pins s σ H _ I h) fun v s1 ⟨x, H1, I1, r1, ty, q1⟩ => ?_)
  obtain ⟨h1, h2⟩ := tyV_is I1 r1 ty
  refine ⟨T, id, pa, slot, hty, h1, h2, ?_⟩
  have hA := ha cpos pins s1 σ H1 _ I1 q1
  rw [hs] at hA ⊢
  refine Calls.callWith_builtin (by show (false || (backTo cpos (starEach es X.env)).any (·.1)) = false; rw [hplain] <;> rfl) (Calls.evalArgs_plain ?_)
  exact thn hA fun us s2 ⟨vs, H2, I2, r2, q2⟩ => hm pins s2 σ H2 x vs v us Q I2 r1 r2 q2
/- xs.append(e), list.index on a module's tuple .. are MtR facts of 06m -/
end
end L2

namespace L2
open PySem PySem.Spec PyProof.Rows

def MtM (X : Cx) (id : String) (r : V → List V → Hp → VK → Prop) : Prop :=
  ∀ (pins : List (Addr × Obj)) (s : Shared) (σ : St) (H : Hp) (x : V) (xs : List V) (v : Value) (us : List Value) (Q : VK), Inv X pins σ H s → RelV x v → Vals xs us → r x xs H Q →
    wpAny (model X.prog X.w) X.A (call (.builtin id) (v :: us)) (EP X pins σ Q) X.xe s

/-! ### lists of values -/
theorem Vals.one : ∀ {x : V} {us : List Value}, Vals [x] us → ∃ u, us = [u] ∧ RelV x u
  | _, _, .cons r .nil => ⟨_, rfl, r⟩
theorem Vals.reverse {xs : List V} {us : List Value} (h : Vals xs us) : Vals xs.reverse us.reverse := by
  induction h with
  | nil => exact .nil
  | cons r t ih => rw [List.reverse_cons, List.reverse_cons]; exact Vals.append ih (.cons r .nil)
section
variable {X : Cx} {pins : List (Addr × Obj)} {σ : St} {H : Hp} {s : Shared} {l b : Addr} {xs ys zs : List V}

/-! ### the two steps: a tracked list is rewritten, a new list is laid -/
theorem Inv.lset {its its' : List Value} {n : Nat} {f : Array Value → Array Value} {t' : Nat} (I : Inv X pins σ H s) (hH : H l = some (.lst xs))
    (e : s.heap.get? l = some { cls := .type "list", data := .seq its.toArray n }) (hf : f its.toArray = its'.toArray) (hv : Vals ys its') (hz : ys.length ≤ sizeLine) :
    Inv X pins σ (upd H l (.lst ys)) { s with heap := s.heap.update l (Obj.mapSeq f), toks := t' } := by
  have q := PySem.IsL.update e f
  rw [hf] at q
  refine I.write (x := l) (e := l) (by rw [hH]; exact trivial) (.inl rfl) (fun b' u hb hu => (Heap.get?_update_other s.heap (Obj.mapSeq f) (Ne.symm hb)).trans hu) ⟨_, q⟩ ?_
  exact ⟨hz, its', _, hv, q⟩
theorem Inv.lnew {its : List Value} {t' : Nat} (I : Inv X pins σ H s) (hv : Vals ys its) (hz : ys.length ≤ sizeLine) :
    Inv X pins σ (upd H s.heap.objs.size (.lst ys)) { s with heap := s.heap.push { cls := .type "list", data := .seq its.toArray }, toks := t' } :=
  I.laid (fun _ _ q => Heap.get?_push_of_some _ q) (Nat.le_refl _) ⟨hz, its, 0, hv, Heap.get?_push_size _ rfl⟩
theorem Inv.fresh (I : Inv X pins σ H s) : H s.heap.objs.size = none := I.hok.fresh (Nat.le_refl _)
theorem Inv.lstM (I : Inv X pins σ H s) (hH : H l = some (.lst xs)) : xs.length ≤ sizeLine ∧ ∃ (its : List Value) (n : Nat), Vals xs its ∧ xs.length = its.length ∧ s.heap.get? l = some { cls := .type "list", data := .seq its.toArray n } := by
  obtain ⟨z, its, n, r, e⟩ := I.hok l _ hH
  exact ⟨z, its, n, r, r.length, e⟩

end

section
variable {X : Cx}

/-! ### methods -/
def rAppend : V → List V → Hp → VK → Prop := fun x vs H Q => ∃ l xs y, x = .ref l ∧ vs = [y] ∧ H l = some (.lst xs) ∧ xs.length < sizeLine ∧ Q .non (upd H l (.lst (xs ++ [y])))
theorem mt_append : MtM X "list.append" rAppend := by
  intro pins s σ H x vs v us Q I rx rv h
  obtain ⟨l, xs, y, rfl, rfl, hH, hz, q⟩ := h
  cases rx
  obtain ⟨u, rfl, ru⟩ := rv.one
  obtain ⟨z, its, n, r, hl, e⟩ := I.lstM hH
  refine call_meets F.slot_list_append ⟨_, e, rfl⟩ F.entry_list_append (F.args_list_append_2 _ _) (PySem.list_append l its.toArray n u (by rw [List.size_toArray]; omega)) ⟨e, ?_⟩
  refine ⟨.non, _, I.lset (its' := its ++ [u]) hH e (by simp) (r.append (.cons ru .nil)) ?_, rfl, q⟩
  rw [List.length_append, List.length_singleton]
  omega

/-! ### list + list, list += list, list * int -/
def rCat : R2 := fun x y H Q => ∃ l b xs zs, x = .ref l ∧ y = .ref b ∧ H l = some (.lst xs) ∧ H b = some (.lst zs) ∧ xs.length + zs.length ≤ sizeLine ∧ ∀ p, H p = none → Q (.ref p) (upd H p (.lst (xs ++ zs)))
theorem op_cat : OpR X (binaryOp .Add) rCat := by
  intro pins s σ H x y v u Q I rx ry h
  obtain ⟨l, b, xs, zs, rfl, rfl, hH, hB, hz, q⟩ := h
  cases rx
  cases ry
  obtain ⟨z, its, n, r, hl, e⟩ := I.lstM hH
  obtain ⟨z2, its2, n2, r2, hl2, e2⟩ := I.lstM hB
  refine PySem.P.add_list e e2 ?_ (by rw [List.size_toArray, List.size_toArray]; omega)
  have ea : its.toArray ++ its2.toArray = (its ++ its2).toArray := by simp
  rw [ea]
  exact ⟨.ref _, _, I.lnew (t' := s.toks) (r.append r2) (by rw [List.length_append]; omega), rfl, q _ I.fresh⟩
/-! ### del xs[i] -/
end

/-! ### xs[a:b] = ys -/
section
variable {prog : Program} {w : World} {A : Around} {E : Value → Shared → Prop} {s : Shared}
end

section
variable {X : Cx}
end
end L2

namespace Att
open PySem PySem.W PySem.Calls PyProof.Rows

/-! ### the script -/
theorem ints_of_wellAll {P : Params} {h : Heap} : ∀ (ns : List Int) (vs : List Value), WellAll P h vs (ns.map WData.int) → IntsAre vs ns := by
  intro ns
  induction ns with
  | nil =>
    intro vs w
    rw [List.map_nil] at w
    cases w
    exact .nil
  | cons n ns ih =>
    intro vs w
    rw [List.map_cons] at w
    cases w with
    | cons a b =>
      cases a
      exact .cons _ _ (ih _ b)

theorem script_of {l : OpenLaw} {n : Nat} (hn : l.most = some n) {P : Params} {h : Heap} {args : List WData} {vals : List Value}
    (hpre : l.row.toRowW.claim.pre args = true) (hwl : WellAll P h vals args) :
    ∃ a vs ns, vals = [Value.ref a] ∧ args = [WData.list (ns.map WData.int)] ∧ h.get? a = some { cls := .type "list", data := .seq vs.toArray } ∧ IntsAre vs ns ∧ ns.length ≤ n := by
  have hsh : WShape.hasAll [] args [.list .int] = true := (pre_splitW hpre).1
  have hc : l.pre.holds [] { args := args } = true := (pre_splitW hpre).2
  obtain ⟨d, r, rfl, h1, h2⟩ := hasAllW_cons hsh
  obtain rfl := hasAllW_nil h2
  obtain ⟨xs, rfl, h3⟩ := hasW_list h1
  obtain ⟨ns, rfl⟩ := items_int h3
  have hlen : ns.length ≤ n := by
    unfold OpenLaw.pre at hc
    have h4 : (WTm.not (.lt (.lit (.int (n : Int))) (.len (.arg 0)))).holds [] { args := [.list (ns.map .int)] } = true := by
      have h4 := (holds_andW hc).1
      rw [hn] at h4
      exact h4
    have h5 := condW_of h4 (w_not (w_lt w_lit (w_len_list (w_arg rfl))))
    rw [List.length_map] at h5
    refine Nat.le_of_not_lt fun q => ?_
    have q' : (n : Int) < ((ns.length : Nat) : Int) := by omega
    first
      | (rw [decide_eq_true q'] at h5; exact absurd h5 (by decide))
      | (simp at h5; omega)
  cases hwl with
  | cons w1 w2 =>
    cases w2
    cases w1 with
    | list ho hall => exact ⟨_, _, ns, rfl, rfl, ho, ints_of_wellAll ns _ hall, hlen⟩

theorem post_true (l : OpenLaw) (args : List WData) : l.row.toRowW.claim.post args (.bool true) args = true :=
  postW_of (r := l.row.toRowW) (X := (true == true))
    (show WShape.has [] (.bool true) .bool = true by first | rfl | decide | simp [WShape.has, WShape.arms, WShape.armsAll])
    (show (WTm.eq .res (.lit (.bool true))).value [] { args := args, res := some (.bool true), after := args } = some (.bool (true == true)) from w_eq_bool (w_res rfl) w_lit) rfl

/-! ### the attachment: holds_open's last premise (the goal 'hc' behind k_head) from a wpAny of the law's body -/
/-- the same from a codeAny of the CALL (for a layer whose function contracts speak of calls) -/
theorem attach_call {l : OpenLaw} {n : Nat} {q : Program} {loose : List Str} {XP : (Str → Option Value) → Heap → Prop} {YP : World → Heap → Prop} {d : DefRec}
    (hn : l.most = some n) (hdf : d.params.defaults = [])
    (call : ∀ (w : World) (s₀ s₁ : Shared) (mg mb : Str → Option Value) (fa : Addr) (o : Obj) (pm cd doc : Value) (a : Addr) (vs : List Value) (ns : List Int),
      Ground q loose [] XP w s₀ mg mb s₁.heap → YP w s₁.heap →
      s₁.heap.get? fa = some o → o.data = .func (docDef d.name d.params d.body d.scope pm cd doc) → s₁.heap.CodeRec cd d.name → mg d.name = some (.ref fa) →
      s₁.heap.get? a = some { cls := .type "list", data := .seq vs.toArray } → IntsAre vs ns → ns.length ≤ n → s₁.gens = #[] →
      codeAny (model l.prog w) callerA (.call (.ref fa) ⟨[.ref a], []⟩) (fun r s' => r = .ok (.ret (.bool true)) ∧ OldK s₁.heap s'.heap ∧ s'.os = s₁.os ∧ AllBare s'.gens) s₁) :
    WalkO q loose XP YP l.row.toRowW d [] (fun f vs => PySem.call f vs) := by
  intro w s₀ s₁ mg mb G Y fa o pm cd doc dV kV ho hd hcd hD hmg hg args vals as hpre hlay hrd hwl hlo
  obtain rfl : dV = .none := Dflts.none hD hdf
  obtain rfl : kV = .none := Dflts.noKw hD
  obtain ⟨a, vs, ns, rfl, rfl, hobj, hints, hlen⟩ := script_of hn hpre hwl
  refine enter_call (codeAny_mono (call w s₀ s₁ mg mb fa o pm cd doc a vs ns G Y ho (fd_plain hd) hcd hmg hobj hints hlen hg) fun r s' hq => ?_)
  obtain ⟨rfl, h2, h3, h4⟩ := hq
  exact ⟨.inl ⟨.bool true, .bool true, [], rfl, fun _ => rfl, .bool true, post_true l _, fun _ => ⟨List.Pairwise.nil, fun _ hm => (nomatch hm)⟩⟩, h2, h3, h4⟩

/-! ### rules over ANY heap (no ledger) from facts about the written part K: the library's own take a ledger (News) for what they write -/
section
variable {prog : Program} {w : World} {A : Around} {E : Value → Shared → Prop} {s : Shared} {K : Frag}

/-! the whole heap as the ledger: makes every rule that writes through a ledger a rule over any heap -/
end
end Att

namespace L2
open PySem PySem.Spec PyProof.Rows

theorem vals_ints : ∀ {vs : List Value} {ns : List Int}, IntsAre vs ns → Vals (ns.map V.int) vs
  | _, _, .nil => .nil
  | _, _, .cons n t h => .cons ⟨t, rfl⟩ (vals_ints h)

/-- nothing is tracked but the script, known to the object (or it is an object of the module) -/
def Only (H : Hp) : Prop := ∀ b, H b = none ∨ ∃ o xs, H b = some (.frz o (.lst xs))

/-- THE HEAD: the law's promise, at the heap behind the top. F, the promise of the law's def, may use that base is part of the heap (so K.In base, base.Ns mainGlobals mg stand in Mod) -/
theorem law_call {P : Program} {w : World} {K : PySem.W.Frag} {mg mb : Str → Option Value} {CX : CXT} {k : Nat} {fa a : Addr} {fd : FuncData} {x : Str} {sp : Sp} {s₁ : Shared} {vs : List Value} {ns : List Int}
    (KX : K.In s₁.heap) (hns : s₁.heap.Ns mainGlobals mg) (hb : s₁.heap.Ns builtinsNs mb) (hbb : ∀ x : Str, x ≠ "__name__" → mb x = bootBuiltins x) (hlim : s₁.heap.NoLimit) (hg : s₁.gens = #[])
    (ha : s₁.heap.get? a = some { cls := .type "list", data := .seq vs.toArray }) (hi : IntsAre vs ns) (hl : ns.length ≤ sizeLine) (hr : Room k callerA)
    (F : ∀ base : Heap, K.In base → base.Ns mainGlobals mg → FnOk P w K mg base CX k fa fd [x] sp) (hbind : ∀ (s : Shared) (u : Value), BindsTo s fd ⟨[u], []⟩ [(x, u)])
    (hsp : ∀ H : Hp, Only H → SqL K H a (ns.map V.int) → sp [.ref a] H (fun v _ => v = .bl true) fun _ _ _ => False)
    (hCX : ∀ H e s', CX [] H s₁ (fun _ _ _ => False) e s' → False) :
    codeAny (model P w) callerA (.call (.ref fa) ⟨[.ref a], []⟩) (fun r s' => r = .ok (.ret (.bool true)) ∧ OldK s₁.heap s'.heap ∧ s'.os = s₁.os ∧ AllBare s'.gens) s₁ := by
  have rv := vals_ints hi
  have lenV := hi.length
  -- from an abstract heap in which nothing but the script may be tracked
  have core : ∀ H : Hp, Only H → SqL K H a (ns.map V.int) → HOk P w H s₁.heap → (∀ b, H b ≠ none → b = a) → (H a ≠ none → K.lookup a = none) →
      codeAny (model P w) callerA (.call (.ref fa) ⟨[.ref a], []⟩) (fun r s' => r = .ok (.ret (.bool true)) ∧ OldK s₁.heap s'.heap ∧ s'.os = s₁.os ∧ AllBare s'.gens) s₁ := by
    intro H hO hS hok hA hK
    have base_of : ∀ {b : Addr} {o : Obj}, s₁.heap.get? b = some o → H b = none → (hidT s₁.heap H).get? b = some o := fun e n => hidT_get e n
    have noA : ∀ {b : Addr} {o : Obj} {es : Array DictEntry} {ep : Nat}, s₁.heap.get? b = some o → o.data = .dict es ep → H b = none := fun {b o es ep} e d => by
      cases q : H b with
      | none => rfl
      | some u =>
        have e' : b = a := hA b (by rw [q]; simp)
        subst e'
        rw [ha] at e; cases e
        have d' : Data.seq vs.toArray _ = Data.dict es ep := d
        cases d'
    have nsK : ∀ {b : Addr} {m : Str → Option Value}, s₁.heap.Ns b m → (hidT s₁.heap H).Ns b m := fun {b m} ⟨o, es, ep, e, d, r⟩ => ⟨o, es, ep, base_of e (noA e d), d, r⟩
    have hKb : K.In (hidT s₁.heap H) := fun b o e => base_of (KX b o e) (by
      cases q : H b with
      | none => rfl
      | some u =>
        have e' : b = a := hA b (by rw [q]; simp)
        subst e'
        rw [hK (by rw [q]; simp)] at e; cases e)
    have hM : Mod K mg (hidT s₁.heap H) := ⟨hKb, nsK hns, ⟨mb, nsK hb, hbb⟩, let ⟨mc, h1, h2⟩ := hlim; ⟨mc, nsK h1, h2⟩⟩
    have e0 : Env0 P w K mg (hidT s₁.heap H) callerA [] s₁ H := ⟨rfl, hM, fun b o e => of_hidT e, Nat.le_of_eq (hidT_size _ _), trivial, fun b hb => absurd (show b ∈ ([] : List Addr) from hb) (by simp), hok, .of_eq hg⟩
    refine codeAny_mono ((F _ hKb (nsK hns)).run callerA [] s₁ H ⟨[.ref a], []⟩ [.ref a] [.ref a] _ _ hr e0 (hbind s₁ (.ref a)) (.cons rfl .nil) (hsp H hO hS)) fun r s' h => ?_
    cases r with
    | error e => exact (hCX H e s' h).elim
    | ok fl =>
      cases fl with
      | next => exact False.elim h
      | brk => exact False.elim h
      | cont => exact False.elim h
      | ret u =>
        obtain ⟨v, H', os, bare, un, hok', r', q⟩ := h
        have q' : v = .bl true := q
        subst q'
        obtain rfl : u = Value.bool true := r'
        refine ⟨rfl, OldK.of_keep fun b o e => ?_, os, bare⟩
        cases q : H b with
        | none => exact un.keep b o e q (by intro z; exact absurd (show b ∈ ([] : List Addr) from z) (by simp)) (by simp)
        | some u =>
          rcases hO b with z | ⟨ob, xs, z⟩
          · rw [q] at z; cases z
          · have z2 := un.frzs b ob _ z
            obtain ⟨e1, _⟩ := hok b _ z
            obtain ⟨e2, _⟩ := hok' b _ z2
            rw [e] at e1; cases e1
            exact e2
  cases hk : K.lookup a with
  | some o =>
    -- the script is one of the module's own objects
    have e := KX a o hk
    rw [ha] at e
    cases e
    refine core (fun _ => none) (fun _ => .inl rfl) (.inr ⟨_, vs.toArray, _, hk, rfl, rfl, rfl, by rw [List.size_toArray, lenV]; exact hl, by simpa using rv⟩) (fun b u z => by have z' : (none : Option HO) = some u := z; cases z') (fun b z => absurd rfl z) fun z => absurd rfl z
  | none =>
    refine core (fun b => if b = a then some (.frz { cls := .type "list", data := .seq vs.toArray } (.lst (ns.map V.int))) else none) (fun b => ?_) (.inl (.inr ⟨{ cls := .type "list", data := .seq vs.toArray }, if_pos rfl⟩)) (fun b u z => ?_) (fun b z => ?_) fun _ => hk
    · by_cases hb : b = a
      · exact .inr ⟨_, _, if_pos hb⟩
      · exact .inl (if_neg hb)
    · by_cases hb : b = a
      · have z' := (if_pos hb).symm.trans z
        cases z'
        subst hb
        exact ⟨ha, by rw [List.length_map]; exact hl, vs, _, rv, ha⟩
      · have z' := (if_neg hb).symm.trans z
        cases z'
    · by_cases hb : b = a
      · exact hb
      · exact absurd (if_neg hb) z
end L2

namespace L2
open PySem PySem.Spec PyProof.Rows

/-- the goal that k_head leaves (case hc), from the law's promise. F gives the function object fd (K's own) once, then the promise over every base -/
theorem walk_of {l : PySem.W.OpenLaw} {n k : Nat} {q : Program} {loose : List Str} {XP : (Str → Option Value) → Heap → Prop} {YP : World → Heap → Prop} {d : DefRec} {K : Params → PySem.W.Frag} {CX : World → CXT} {sp : World → Sp} {x : Str}
    (hn : l.most = some n) (hn2 : n ≤ sizeLine) (hdf : d.params.defaults = []) (hr : Room k callerA)
    (hY : ∀ (w : World) (h : Heap), YP w h → (K w.params).In h)
    (F : ∀ (w : World) (mg : Str → Option Value) (fa : Addr) (h : Heap), (K w.params).In h → h.Ns mainGlobals mg → mg d.name = some (.ref fa) →
      ∃ fd : FuncData, (∀ (s : Shared) (u : Value), BindsTo s fd ⟨[u], []⟩ [(x, u)]) ∧
        ∀ base : Heap, (K w.params).In base → base.Ns mainGlobals mg → FnOk l.prog w (K w.params) mg base (CX w) k fa fd [x] (sp w))
    (hsp : ∀ (w : World) (H : Hp) (a : Addr) (ns : List Int), ns.length ≤ n → Only H → SqL (K w.params) H a (ns.map V.int) → sp w [.ref a] H (fun v _ => v = .bl true) fun _ _ _ => False)
    (hCX : ∀ (w : World) (H : Hp) (s : Shared) (e : Value) (s' : Shared), CX w [] H s (fun _ _ _ => False) e s' → False) :
    PySem.W.WalkO q loose XP YP l.row.toRowW d [] (fun f vs => PySem.call f vs) := by
  refine Att.attach_call hn hdf fun w s₀ s₁ mg mb fa o pm cd doc a vs ns G Y ho hd hcd hmg hobj hints hlen hg => ?_
  have KX := hY w _ Y
  obtain ⟨fd, hb, hF⟩ := F w mg fa _ KX G.T.g hmg
  exact law_call KX G.T.g G.T.b G.T.builtins G.T.nolimit hg hobj hints (Nat.le_trans hlen hn2) hr hF hb (fun H hO hS => hsp w H a ns hlen hO hS) fun H e s' => hCX w H s₁ e s'
end L2

/- THE LAST THEOREM (shape; LID, My.* are yours):
   My.Adr: a structure of the addresses that your layer names (classes, functions); My.Txt K t: a structure (Prop) of the equations over K;
   My.txt_mk : {K} {implicit addresses ..} (e1 : nsIn K mainGlobals "law" = some (some (.ref f))) (e2 : K.lookup f = some ⟨oc, od, .func (fnOf "law" "law" params body scope dV kV doc pm an cdv ct), sl⟩) (e3 : codeIn K cdv "law" = true) .. : ∃ t, My.Txt K t

(the tactic k_is has no namespace: write k_is) -/

/-! SHORT WORDS over the layer: a def of the text, its body, what a loop and a test want. -/
namespace L2
open PySem PySem.Spec PyProof.Rows

/-! ### the text by places -/
/-- the j-th statement of a class's body -/
def inClass (s : Stmt) (j : Nat) : Stmt := match s with
  | .ClassDef _ _ _ body _ _ _ _ _ _ _ => body.getD j (.Pass ⟨0, 0, 0, 0⟩)
  | _ => .Pass ⟨0, 0, 0, 0⟩
def defArgs (s : Stmt) : Arguments := match s with
  | .FunctionDef _ a _ _ _ _ _ _ _ _ => a
  | _ => { posonlyargs := [], args := [], vararg := none, kwonlyargs := [], kw_defaults := [], kwarg := none, defaults := [] }
def defBody (s : Stmt) : List Stmt := match s with
  | .FunctionDef _ _ b _ _ _ _ _ _ _ => b
  | _ => []
def defScope (s : Stmt) : Scope := match s with
  | .FunctionDef _ _ _ _ _ _ sc _ _ _ => sc
  | _ => { kind := .function, names := [], isGenerator := false, isCoroutine := false }

/-! ### no exception leaves a def -/
abbrev E0 : XK := fun _ _ _ => False
/-! ### a def (or method) of the text as it stands behind the top -/
structure Fun (K : PySem.W.Frag) (x qual : Str) (st : Stmt) (f : Addr) (fd : FuncData) : Prop where
  ex : ∃ (oc : Value) (od : Option Addr) (kV doc pm : Value) (an : Option Addr) (cdv ct : Value) (osl : Array (Option Value)),
    fd = PySem.W.fnOf x qual (defArgs st) (defBody st) (defScope st) .none kV doc pm an cdv ct ∧ K.lookup f = some ⟨oc, od, .func fd, osl⟩ ∧ PySem.W.codeIn K cdv qual = true
  kp : PySem.W.keepIn K (.ref f) = true
section
variable {P : Program} {w : World} {K : PySem.W.Frag} {mg : Str → Option Value} {base : Heap}
/-- how its arguments bind (no defaults): h is «fun _ _ _ _ _ _ us hl => match us, hl with | [_, _], _ => rfl», one _ a parameter -/
theorem Fun.binds {x qual : Str} {st : Stmt} {f : Addr} {fd : FuncData} {ps : List Str} (F : Fun K x qual st f fd)
    (h : ∀ (kV doc pm : Value) (an : Option Addr) (cdv ct : Value) (us : List Value), us.length = ps.length → bindArgs (PySem.W.fnOf x qual (defArgs st) (defBody st) (defScope st) .none kV doc pm an cdv ct) ⟨us, []⟩ = pure (ps.zip us)) : Binds K fd ps [] := by
  obtain ⟨oc, od, kV, doc, pm, an, cdv, ct, osl, rfl, lk, hcd⟩ := F.ex
  exact .all (h kV doc pm an cdv ct)
theorem fun_mk {x qual : Str} {st : Stmt} {f : Addr} {oc : Value} {od an : Option Addr} {osl : Array (Option Value)} {kV doc pm cdv ct : Value} (l : K.lookup f = some ⟨oc, od, .func (PySem.W.fnOf x qual (defArgs st) (defBody st) (defScope st) .none kV doc pm an cdv ct), osl⟩)
    (c : PySem.W.codeIn K cdv qual = true) (k : PySem.W.keepIn K (.ref f) = true) : Fun K x qual st f (PySem.W.fnOf x qual (defArgs st) (defBody st) (defScope st) .none kV doc pm an cdv ct) := ⟨⟨oc, od, kV, doc, pm, an, cdv, ct, osl, rfl, l, c⟩, k⟩
end
theorem hu_of {A : Around} {k : Nat} (hr : Room k A) : A.units + 1 < cLine := Nat.lt_of_le_of_lt (Nat.add_le_add_left (by decide : 1 ≤ 64) _) hr.units
theorem small1000 {n : Nat} (h : n ≤ 1000) : n < sizeLine := Nat.lt_of_le_of_lt h (by decide)

/-! ### expressions in short: the name that stands in the i-th slot -/
section
variable {X : Cx}
theorem pv (i : Nat) {x : Str} {pos : Pos} (hN : X.N[i]? = some x := by rfl) (hv : Vis X.env.scope x := by first | exact Or.inl rfl | exact Or.inr (Or.inl rfl) | exact Or.inr (Or.inr rfl)) (hd : (x == ("__debug__" : Str)) = false := by decide)
    (hcd : (x == ("__classdict__" : Str)) = false := by decide) : PE X (.Name x pos) (tVar i) := pe_var hN hv hd hcd
end

/-! ### tests -/
theorem iteF {A B : Prop} (h : B) : if false = true then A else B := by
  rw [if_neg Bool.false_ne_true]
  exact h
theorem iteT {A B : Prop} (h : A) : if true = true then A else B := by
  rw [if_pos rfl]
  exact h
/-! ### heaps -/
/-- all that was tracked is as it was -/
def Same (H H' : Hp) : Prop := ∀ b o, H b = some o → H' b = some o
theorem Same.refl (H : Hp) : Same H H := fun _ _ h => h
theorem Same.trans {H H1 H2 : Hp} (a : Same H H1) (b : Same H1 H2) : Same H H2 := fun c o h => b c o (a c o h)
theorem Same.seq {K : PySem.W.Frag} {H H' : Hp} {a : Addr} {xs : List V} (e : Same H H') (h : SqL K H a xs) : SqL K H' a xs := by
  rcases h with (h | ⟨o, h⟩) | h
  · exact .inl (.inl (e _ _ h))
  · exact .inl (.inr ⟨o, e _ _ h⟩)
  · exact .inr h

end L2

set_option Elab.async false
set_option linter.all false
set_option maxRecDepth 100000
set_option maxHeartbeats 4000000
/-! Exceptions over the hand layer: a raise of an own class, a call that may raise, try with one handler. -/
namespace L2
open PySem PySem.Spec PyProof.Rows

theorem nin {b : Addr} : b ∉ ([] : List Addr) := fun z => nomatch z
/-- an own exception class, as the written part has it -/
theorem exc_obj {K : PySem.W.Frag} {h : Heap} {C : Addr} {bmB : List Value} {newId : String} (X : K.In h) (q : PySem.W.excIn K C bmB newId = true) :
    ∃ tl N a1 a2 a3 a4 a5 a6 a7 a8 a9 b0 b1 b2 b3 b5 mN, h.get? C = some (excClassObj a1 a2 C N a3 tl a4 a5 a6 a7 a8 a9 b0 b1 b2 b3 b5 newId) ∧
      h.Ns N mN ∧ mN "__init__" = none ∧ OwnTail h bmB tl := by
  unfold PySem.W.excIn at q
  split at q
  · next dd cd sl ho =>
    split at q
    · next C1 tl x0 x1 x2 x3 nn x5 hm hs =>
      rw [Bool.and_eq_true, Bool.and_eq_true, Bool.and_eq_true, Bool.and_eq_true, Bool.and_eq_true] at q
      obtain ⟨⟨⟨⟨⟨p1, p2⟩, p3⟩, p4⟩, p5⟩, p6⟩ := q
      have p1' := eq_of_beq p1
      have p2' := eq_of_beq p2
      have p6' := eq_of_beq p6
      have p3' : cd.hasDel = false := by simpa using p3
      subst p1' p2'
      obtain ⟨f1, f2, f3, f4, f5, f6, f7, f8, f9, f10, f11⟩ := cd
      have hm' : f3 = Value.ref C1 :: tl := hm
      have p3'' : f11 = false := p3'
      subst hm' p3''
      have hsl : sl = #[x0, x1, x2, x3, some (.builtin nn), x5] := by
        cases sl with
        | mk l =>
          have : l = [x0, x1, x2, x3, some (.builtin nn), x5] := hs
          rw [this]
      subst hsl
      have nsok := PySem.W.isNs_of_in X p5
      exact ⟨tl, f4, f1, f5, f2, f6, f7, f8, f9, f10, dd, x0, x1, x2, x3, x5, _, X _ _ ho, .of_isNs nsok, PySem.W.nsMap_none_of_in X p5 p6', PySem.W.tail_of_in X p4⟩
    · exact absurd q (by decide)
  · exact absurd q (by decide)

/-- how an exception lies behind a call -/
def CXE (P : Program) (w : World) : CXT := fun outer H s E e s' =>
  ∃ (a C : Addr) (a0 : Value) (B : Heap) (H' : Hp), e = .ref a ∧ s'.os = s.os ∧ AllBare s'.gens ∧ Un (frs outer) [] H H' s.heap s'.heap ∧ HOk P w H' B ∧
    Heap.FlyingW B outer a (.ref C) a0 s'.heap ∧ (∀ b o, s.heap.get? b = some o → b ∉ frs outer → ∃ o', B.get? b = some o' ∧ (H b = none → o' = o)) ∧ E (.ref C) none H'

theorem CXE.no {P : Program} {w : World} {outer : List Env} {H : Hp} {s s' : Shared} {e : Value} (h : CXE P w outer H s E0 e s') : False := by
  obtain ⟨_, _, _, _, _, _, _, _, _, _, _, _, q⟩ := h
  exact q

/-- an exception of a callee reaches what is wanted here -/
def PassE (X : Cx) (E : St → XK) : Prop := ∀ (pins : List (Addr × Obj)) (σ : St) (H : Hp) (s : Shared) (e : Value) (s' : Shared), Inv X pins σ H s → CXE X.prog X.w X.stack H s (E σ) e s' → X.xe e s'
theorem passE0 {X : Cx} : PassE X (fun _ => E0) := fun _ _ _ _ _ _ _ h => h.no.elim
/-- one that is made here -/
def RaiseE (X : Cx) (E : St → XK) : Prop := ∀ (pins : List (Addr × Obj)) (σ : St) (H : Hp) (s : Shared) (h' : Heap) (e C : Addr) (vs : List Value), Inv X pins σ H s → Heap.MadeExcOf s.heap h' e (.ref C) vs → E σ (.ref C) none H → X.xe (.ref e) { s with heap := h' }

theorem frs_cons {env : Env} {L : Addr} {outer : List Env} (h : env.frame = some L) : frs (env :: outer) = L :: frs outer := by
  unfold frs
  rw [List.filterMap_cons, h]

section
variable {P : Program} {w : World} {K : PySem.W.Frag} {mg : Str → Option Value} {base : Heap} {N : List Str} {qual : Str} {scope : Scope} {f : Addr} {cdv : Value} {A : Around} {outer : List Env} {s0 : Shared} {H0 : Hp} {E : XK}

theorem passE_def : PassE (cxOf (CXE P w) P w K mg base N qual scope f cdv A outer s0 H0 E) (fun _ => E) := by
  intro pins σ H s e s' I hx
  obtain ⟨a, C, a0, B, H', rfl, hos, hba, un, hokB, hfl, old, q⟩ := hx
  have ub := I.base
  have hL : ∀ b o, s0.heap.get? b = some o → b ≠ s0.heap.objs.size := fun b o e z => Nat.lt_irrefl _ (z ▸ Heap.lt_size e)
  have hfs : frs (envOfC qual scope s0.heap.objs.size f cdv :: outer) = s0.heap.objs.size :: frs outer := frs_cons rfl
  have hmem : ∀ b o, s0.heap.get? b = some o → b ∉ frs outer → b ∉ frs (envOfC qual scope s0.heap.objs.size f cdv :: outer) := fun b o e n => by
    rw [hfs]
    intro z
    rcases List.mem_cons.mp z with z | z
    · exact hL b o e z
    · exact n z
  have hold : ∀ b o, s0.heap.get? b = some o → b ∉ frs outer → ∃ o', B.get? b = some o' ∧ (H0 b = none → o' = o) := fun b o e n => by
    obtain ⟨o1, e1⟩ := ub.there b o e nin
    obtain ⟨o2, e2, e3⟩ := old b o1 e1 (hmem b o e n)
    refine ⟨o2, e2, fun z => ?_⟩
    have e4 := ub.keep b o e z n nin
    have e5 := ub.free b o e z nin
    rw [e1] at e4
    rw [e3 e5]
    exact Option.some.inj e4
  refine wpAny_leaves_onW I.ok.frames rfl hfl fun h' hf' hup => ?_
  have toH : ∀ b, b ∈ frs outer → ∀ o, s0.heap.get? b = some o → H0 b = none → ∃ sl, h'.get? b = some { o with slots := sl } := fun b hb o e n => by
    obtain ⟨sl, e1⟩ := ub.slot b o e n hb nin
    obtain ⟨sl2, e2⟩ := un.slot b _ e1 (ub.free b o e n nin) (by show b ∈ frs (envOfC qual scope s0.heap.objs.size f cdv :: outer); rw [hfs]; exact .tail _ hb) nin
    obtain ⟨_, o3, e3, nf⟩ := hfl.2.2.1.mem (b := b) (by show b ∈ frs (envOfC qual scope s0.heap.objs.size f cdv :: outer); rw [hfs]; exact .tail _ hb)
    obtain ⟨sl4, e4⟩ := hup b o3 e3 nf
    rw [e2] at e3
    have e5 := Option.some.inj e3
    exact ⟨sl4, by rw [e4, ← e5]⟩
  refine ⟨a, C, a0, B, H', rfl, hos.trans I.os, hba, ⟨fun b o e n nb _ => ?_, fun b o e n hb _ => toH b hb o e n, fun b o e n _ => ?_, fun b o e _ => ?_, fun b xs e => un.tups b xs (ub.tups b xs e), fun b o u e => un.frzs b o u (ub.frzs b o u e), fun b ps e => ?_⟩, hokB, hf', hold, q⟩
  · obtain ⟨o', e1, e2⟩ := hold b o e nb
    rw [e2 n] at e1
    exact hf'.1 b o e1
  · obtain ⟨o1, e1⟩ := ub.there b o e nin
    exact un.free b o1 e1 (ub.free b o e n nin) nin
  · by_cases hb : b ∈ frs outer
    · obtain ⟨o1, e1⟩ := ub.there b o e nin
      obtain ⟨o2, e2⟩ := un.there b o1 e1 nin
      obtain ⟨_, o3, e3, nf⟩ := hfl.2.2.1.mem (b := b) (by show b ∈ frs (envOfC qual scope s0.heap.objs.size f cdv :: outer); rw [hfs]; exact .tail _ hb)
      obtain ⟨sl4, e4⟩ := hup b o3 e3 nf
      exact ⟨_, e4⟩
    · obtain ⟨o', e1, _⟩ := hold b o e hb
      exact ⟨o', hf'.1 b o' e1⟩
  · obtain ⟨m1, e1⟩ := ub.tbls b ps e
    obtain ⟨m2, e2⟩ := un.tbls b _ e1
    exact ⟨m1 ++ m2, by rw [e2, Array.append_assoc]⟩

theorem raiseE_def : RaiseE (cxOf (CXE P w) P w K mg base N qual scope f cdv A outer s0 H0 E) (fun _ => E) := by
  intro pins σ H s h' e C vs I hx q
  have ub := I.base
  have hfs : frs (envOfC qual scope s0.heap.objs.size f cdv :: outer) = s0.heap.objs.size :: frs outer := frs_cons rfl
  have hmem : ∀ b o, s0.heap.get? b = some o → b ∉ frs outer → b ∉ frs (envOfC qual scope s0.heap.objs.size f cdv :: outer) := fun b o e n => by
    rw [hfs]
    intro z
    rcases List.mem_cons.mp z with z | z
    · exact Nat.lt_irrefl _ (z ▸ Heap.lt_size e)
    · exact n z
  have hfree : ∀ b ∈ frs (envOfC qual scope s0.heap.objs.size f cdv :: outer), H b = none := I.stkFree
  have hB : ∀ b o, s.heap.get? b = some o → b ∉ frs (envOfC qual scope s0.heap.objs.size f cdv :: outer) → (PySem.W.hideAll s.heap (frs (envOfC qual scope s0.heap.objs.size f cdv :: outer))).get? b = some o := fun b o e n => PySem.W.hideAll_get _ e n
  have hokB : HOk P w H (PySem.W.hideAll s.heap (frs (envOfC qual scope s0.heap.objs.size f cdv :: outer))) := fun b u hb => by
    refine (I.hok b u hb).stay (fun c v hc ec => hB c v ec fun hm => ?_) (fun _ z => z) (fun _ _ z => z)
    have hn := hfree c hm
    rcases hc with rfl | hc
    · rw [hn] at hb; cases hb
    · rw [hn] at hc; cases hc
  have hold : ∀ b o, s0.heap.get? b = some o → b ∉ frs outer → ∃ o', (PySem.W.hideAll s.heap (frs (envOfC qual scope s0.heap.objs.size f cdv :: outer))).get? b = some o' ∧ (H0 b = none → o' = o) := fun b o e n => by
    obtain ⟨o1, e1⟩ := ub.there b o e nin
    refine ⟨o1, hB b o1 e1 (hmem b o e n), fun z => ?_⟩
    have e4 := ub.keep b o e z n nin
    rw [e1] at e4
    exact Option.some.inj e4
  have hst : s.heap.FunFrames base (envOfC qual scope s0.heap.objs.size f cdv :: outer) := I.stack
  have hff := PySem.W.funFrames_hide (as := frs (envOfC qual scope s0.heap.objs.size f cdv :: outer)) hst (fun env he b hb => List.mem_filterMap.mpr ⟨env, he, hb⟩)
  refine wpAny_leaves_madeW (base := PySem.W.hideAll s.heap (frs (envOfC qual scope s0.heap.objs.size f cdv :: outer))) (h := s.heap) I.ok.frames rfl (fun b o e => PySem.W.of_hideAll _ e) hff hx fun h'' t hf' _ _ hup => ?_
  have toF : ∀ b, b ∈ frs outer → ∃ o, s.heap.get? b = some o ∧ ∃ sl, h''.get? b = some { o with slots := sl } := fun b hb => by
    obtain ⟨_, o3, e3, nf⟩ := hst.mem (b := b) (by show b ∈ frs (envOfC qual scope s0.heap.objs.size f cdv :: outer); rw [hfs]; exact .tail _ hb)
    exact ⟨o3, e3, hup b o3 (hx.keeps b o3 e3) nf⟩
  refine ⟨e, C, .ref t, _, H, rfl, I.os, I.bare, ⟨fun b o e1 n nb _ => ?_, fun b o e1 n hb _ => ?_, fun b o e1 n _ => ub.free b o e1 n nin, fun b o e1 _ => ?_, ub.tups, ub.frzs, ub.tbls⟩, hokB, hf', hold, q⟩
  · obtain ⟨o', e2, e3⟩ := hold b o e1 nb
    rw [e3 n] at e2
    exact hf'.1 b o e2
  · obtain ⟨sl, e2⟩ := ub.slot b o e1 n hb nin
    obtain ⟨o3, e3, sl3, e4⟩ := toF b hb
    rw [e2] at e3
    have e5 := Option.some.inj e3
    exact ⟨sl3, by rw [e4, ← e5]⟩
  · by_cases hb : b ∈ frs outer
    · obtain ⟨o3, e3, sl3, e4⟩ := toF b hb
      exact ⟨_, e4⟩
    · obtain ⟨o', e2, _⟩ := hold b o e1 hb
      exact ⟨o', hf'.1 b o' e2⟩
end

/-! ### defs and calls -/
section
variable {P : Program} {w : World} {K : PySem.W.Frag} {mg : Str → Option Value} {base : Heap}
end

def tCallE (sp : Sp) (E : St → XK) (t : TA) : TE := fun σ H Q => t σ H fun vs H1 => sp vs H1 Q (E σ)
def tMethE (C : Addr) (m : Str) (sp : Sp) (E : St → XK) (ta : TE) (t : TA) : TE := fun σ H Q => ta σ H fun x H1 => ∃ a dx fs, x = .ref a ∧ H1 a = some (.ins C dx fs) ∧ fs.lookup m = none ∧
  t σ H1 fun vs H2 => sp (x :: vs) H2 Q (E σ)
def tMakeE (C : Addr) (sp : Sp) (E : St → XK) (t : TA) : TE := fun σ H Q => t σ H fun vs H1 => ∀ x dx, H1 x = none → H1 dx = none → dx ≠ x →
  sp (.ref x :: vs) (upd (upd H1 dx (.own x)) x (.ins C dx [])) (fun v H2 => v = .non ∧ Q (.ref x) H2) (E σ)
section
variable {X : Cx} {k : Nat} {f C : Addr} {fd : FuncData} {ps : List Str} {sp : Sp} {E : St → XK} {x m : Str} {p pos apos : Pos} {e o : Expr} {es : List Expr} {ta : TE} {t : TA}
theorem run_fnE {pins : List (Addr × Obj)} {σ : St} {H : Hp} {s : Shared} {Q : VK} {us : List Value} {vs : List V} (F : FnOk X.prog X.w X.K X.mg X.base (CXE X.prog X.w) k f fd ps sp) (hr : Room k X.A) (hb : Binds X.K fd ps []) (hx : PassE X E)
    (I : Inv X pins σ H s) (r : Vals vs us) (h : sp vs H Q (E σ)) : wpAny (model X.prog X.w) X.A (call (.ref f) us) (EP X pins σ Q) X.xe s := by
  have hl : (us ++ []).length = ps.length := by rw [List.append_nil, ← r.length]; exact F.len _ _ _ _ h
  have hb' := hb s us I.kIn hl
  rw [List.append_nil] at hb'
  refine wpAny_call (codeAny_mono (F.run X.A X.stack s H ⟨us, []⟩ us vs Q (E σ) hr I.env0 hb' r h) fun r s' hq => ?_)
  cases r with
  | error e => exact hx pins σ H s e s' I hq
  | ok fl =>
    cases fl with
    | ret u => exact I.after hq
    | next => exact False.elim hq
    | brk => exact False.elim hq
    | cont => exact False.elim hq
theorem pe_callE (F : FnOk X.prog X.w X.K X.mg X.base (CXE X.prog X.w) k f fd ps sp) (hr : Room k X.A) (hg : Gl X x) (hm : X.mg x = some (.ref f)) (hk : PySem.W.keepIn X.K (.ref f) = true) (hb : Binds X.K fd ps []) (hx : PassE X E)
    (ha : PA X (e :: es) t) (hdb : (x == ("__debug__" : Str)) = false := by decide) (he : starEach (e :: es) X.env = (false, eval e X.env) :: starEach es X.env := by rfl) (hpl : (backTo pos (starEach es X.env)).any (·.1) = false := by rfl) :
    PE X (.Call (.Name x p) (e :: es) [] pos) (tCallE sp E t) := by
  intro pins s σ H Q I h
  refine wpAny_Call_Name_kw (ld_glob I hg hm ?_ hdb)
  refine PySem.W.callWith_K (h₀ := X.base) I.ok.mod.kin hk (thn (ha pos pins s σ H _ I h) fun us s1 ⟨vs, H1, I1, r, q⟩ => ⟨I1.kIn, ?_⟩) he hpl
  exact run_fnE F hr hb hx I1 r q
theorem pe_methE {pl : Sem Bool} (he : PE X o ta) (c : Cls X.K C) (hm : Meth X.K C m f) (F : FnOk X.prog X.w X.K X.mg X.base (CXE X.prog X.w) k f fd ps sp) (hr : Room k X.A) (hb : Binds X.K fd ps []) (hx : PassE X E) (ha : PA X (e :: es) t)
    (hst : starEach (e :: es) X.env = (false, eval e X.env) :: starEach es X.env := by rfl) (hpl : (backTo pos (starEach es X.env)).any (·.1) = false := by rfl)
    (ht : eval (.Call (.Attribute o m apos) (e :: es) [] pos) X.env = (do
      let ov ← eval o X.env
      standAt apos.atName
      let (f, first) ← holding [ov] (getMethod ov m pl)
      callWith pos f first (backTo pos (starEach (e :: es) X.env)) (backToKw pos (keywordEach [] X.env))) := by rfl) :
    PE X (.Call (.Attribute o m apos) (e :: es) [] pos) (tMethE C m sp E ta t) := by
  intro pins s σ H Q I h
  refine PySem.W.methodCall_KW (pl := pl) (thn (he pins s σ H _ I h) fun u s1 ⟨x, H1, I1, rx, a, dx, fs, ex, ea, l, q⟩ => ?_) ht
  subst ex
  obtain rfl : u = Value.ref a := rx
  refine getmeth_ok I1 ea c hm l ?_
  refine PySem.W.callWith_K (first := [.ref a]) (h₀ := X.base) I.ok.mod.kin hm.kp (thn (ha pos pins s1 σ H1 _ I1 q) fun us s2 ⟨vs, H2, I2, r, q2⟩ => ⟨I2.kIn, ?_⟩) hst hpl
  exact run_fnE (us := .ref a :: us) (vs := .ref a :: vs) F hr hb hx I2 (.cons rfl r) q2
theorem pe_meth0E {pl : Sem Bool} (he : PE X o ta) (c : Cls X.K C) (hm : Meth X.K C m f) (F : FnOk X.prog X.w X.K X.mg X.base (CXE X.prog X.w) k f fd ps sp) (hr : Room k X.A) (hb : Binds X.K fd ps []) (hx : PassE X E)
    (ht : eval (.Call (.Attribute o m apos) [] [] pos) X.env = (do
      let ov ← eval o X.env
      standAt apos.atName
      let (f, first) ← holding [ov] (getMethod ov m pl)
      callWith pos f first (backTo pos (starEach [] X.env)) (backToKw pos (keywordEach [] X.env))) := by rfl) :
    PE X (.Call (.Attribute o m apos) [] [] pos) (tMethE C m sp E ta tNil) := by
  intro pins s σ H Q I h
  refine PySem.W.methodCall_KW (pl := pl) (thn (he pins s σ H _ I h) fun u s1 ⟨x, H1, I1, rx, a, dx, fs, ex, ea, l, q⟩ => ?_) ht
  subst ex
  obtain rfl : u = Value.ref a := rx
  refine getmeth_ok I1 ea c hm l ?_
  exact PySem.W.callWith_K0 (first := [.ref a]) I1.kIn hm.kp (run_fnE (us := [.ref a]) (vs := [.ref a]) F hr hb hx I1 (.cons rfl .nil) q)
theorem run_makeE {pins : List (Addr × Obj)} {σ : St} {H : Hp} {s : Shared} {Q : VK} {us : List Value} {vs : List V} (M : Mk X.K C f) (F : FnOk X.prog X.w X.K X.mg X.base (CXE X.prog X.w) k f fd ps sp) (hr : Room (k + 1) X.A) (hb : Binds X.K fd ps [])
    (hx : PassE X E) (I : Inv X pins σ H s) (r : Vals vs us)
    (h : ∀ x dx, H x = none → H dx = none → dx ≠ x → sp (.ref x :: vs) (upd (upd H dx (.own x)) x (.ins C dx [])) (fun v H2 => v = .non ∧ Q (.ref x) H2) (E σ)) :
    wpAny (model X.prog X.w) X.A (call (.ref C) us) (EP X pins σ Q) X.xe s := by
  have hq := h (s.heap.objs.size + 1) s.heap.objs.size (I.hok.fresh (Nat.le_succ _)) (I.hok.fresh (Nat.le_refl _)) (Nat.ne_of_lt (Nat.lt_succ_self _))
  have I2 := Inv.made (C := C) I
  have r2 : Vals (V.ref (s.heap.objs.size + 1) :: vs) (Value.ref (s.heap.objs.size + 1) :: us) := .cons rfl r
  have hl : ((Value.ref (s.heap.objs.size + 1) :: us) ++ []).length = ps.length := by
    rw [List.append_nil, ← r2.length]
    exact F.len _ _ _ _ hq
  have hb' := hb _ (Value.ref (s.heap.objs.size + 1) :: us) I2.kIn hl
  rw [List.append_nil] at hb'
  refine wpAny_call (make_map (f := f) I.kIn M.makes M.init (beq_iff_eq.mp M.fn) (codeAny_mono (F.run _ X.stack _ _ ⟨Value.ref (s.heap.objs.size + 1) :: us, []⟩ (Value.ref (s.heap.objs.size + 1) :: us) _ _ (E σ) (hr.make C us [])
    (I2.env0.make C us []) hb' r2 hq) fun r s' hq' => ?_))
  cases r with
  | error e => exact hx pins σ _ _ e s' I2 hq'
  | ok fl =>
    cases fl with
    | ret u =>
      obtain ⟨v, H', I3, rv, ev, q3⟩ := I2.after hq'
      subst ev
      exact ⟨rv, ⟨V.ref (s.heap.objs.size + 1), H', I3, rfl, q3⟩⟩
    | next => exact False.elim hq'
    | brk => exact False.elim hq'
    | cont => exact False.elim hq'
theorem pe_makeE (M : Mk X.K C f) (F : FnOk X.prog X.w X.K X.mg X.base (CXE X.prog X.w) k f fd ps sp) (hr : Room (k + 1) X.A) (hg : Gl X x) (hm : X.mg x = some (.ref C)) (hb : Binds X.K fd ps []) (hx : PassE X E)
    (ha : PA X (e :: es) t) (hdb : (x == ("__debug__" : Str)) = false := by decide) (he : starEach (e :: es) X.env = (false, eval e X.env) :: starEach es X.env := by rfl) (hpl : (backTo pos (starEach es X.env)).any (·.1) = false := by rfl) :
    PE X (.Call (.Name x p) (e :: es) [] pos) (tMakeE C sp E t) := by
  intro pins s σ H Q I h
  refine wpAny_Call_Name_kw (ld_glob I hg hm ?_ hdb)
  refine PySem.W.callWith_K (h₀ := X.base) I.ok.mod.kin M.kp (thn (ha pos pins s σ H _ I h) fun us s1 ⟨vs, H1, I1, r, q⟩ => ⟨I1.kIn, ?_⟩) he hpl
  exact run_makeE M F hr hb hx I1 r q
end

/-! ### raise -/
/-- an own exception class under ValueError -/
structure ExcC (K : PySem.W.Frag) (C : Addr) : Prop where
  q : PySem.W.excIn K C [.type "ValueError", .type "Exception", .type "BaseException", .type "object"] "ValueError.__new__" = true
def tRaise (C : Addr) (E : St → XK) (t : TA) : TS := fun D σ H => t σ H fun vs H1 => vs.length ≤ sizeLine ∧ E σ (.ref C) none H1
section
variable {X : Cx} {C : Addr} {E : St → XK} {x : Str} {np cpos pos : Pos} {e : Expr} {es : List Expr} {t : TA}
theorem ps_raise (hc : X.calm = true) (c : ExcC X.K C) (hR : RaiseE X E) (hg : Gl X x) (hm : X.mg x = some (.ref C)) (ha : PA X (e :: es) t) (hdb : (x == ("__debug__" : Str)) = false := by decide)
    (he : starEach (e :: es) X.env = (false, eval e X.env) :: starEach es X.env := by rfl) (hpl : (backTo cpos (starEach es X.env)).any (·.1) = false := by rfl) :
    PS X (.Raise (some (.Call (.Name x np) (e :: es) [] cpos)) none pos) (tRaise C E t) := by
  intro pins s σ H D I h
  obtain ⟨tl, N, a1, a2, a3, a4, a5, a6, a7, a8, a9, b0, b1, b2, b3, b5, mN, hC, hN, hni, T⟩ := exc_obj I.ok.mod.kin c.q
  refine wpAny_Raise_call_subT (C := C) (nm := a1) (q := a2) (N := N) (bs := a3) (bm := tl) (hdct := a4) (sn := a5) (sub := a6) (ab := a7) (col := a8) (dd := a9) (k0 := b0) (k1 := b1) (k2 := b2) (k3 := b3) (k5 := b5)
    PySem.F.excBase_ValueError (mN := mN) (T.hasType PySem.F.excBase_ValueError.hasBase) (I.ok.hd hc) (by rw [he]; show (false || (backTo cpos (starEach es X.env)).any (·.1)) = false; rw [hpl]; rfl) hni (ld_glob I hg hm ⟨rfl, ?_⟩ hdb)
  have hw := ha cpos pins s σ H _ I h
  rw [he] at hw ⊢
  refine Calls.evalArgs_plain (wpAny_mono hw (fun us s1 ⟨vs, H1, I1, r, hl, q⟩ => ⟨rfl, by rw [← r.length]; exact hl, I1.bk _ _ hC, hN.keeps I1.bk, T.keeps I1.bk, fun h' e hx => hR pins σ H1 s1 h' e C us I1 hx q⟩) fun _ _ z => z)
end
end L2

set_option Elab.async false
set_option linter.all false
set_option maxRecDepth 100000
set_option maxHeartbeats 4000000
/-! more operations: products and quotients of larger ints, isinstance, == and != of data -/
namespace L2
open PySem PySem.Spec PyProof.Rows

/-- at most n bits -/
def Sm (n : Nat) (i : Int) : Prop := i.natAbs < 2 ^ n
theorem Sm.mono {n m : Nat} {i : Int} (h : Sm n i) (hm : n ≤ m) : Sm m i := Nat.lt_of_lt_of_le h (Nat.pow_le_pow_right (by decide) hm)
theorem Sm.of_le {n : Nat} {i j : Int} (h : Sm n j) (e : i.natAbs ≤ j.natAbs) : Sm n i := Nat.lt_of_le_of_lt e h
theorem Sm.log {n : Nat} {i : Int} (h : Sm n i) (hn : n ≤ 9000) : i.natAbs.log2 < 9000 := by
  by_cases h0 : i.natAbs = 0
  · rw [h0]
    decide
  · exact Nat.lt_of_lt_of_le ((Nat.log2_lt h0).mpr h) hn
theorem Sm.noPl {n : Nat} {i j : Int} (h : Sm n j) (hn : n ≤ 9000) : Builtin.divisionGoesByPylong i j = false := PyProof.noPylong_of_log2 (h.log hn)

section
variable {X : Cx}
/-- a product; asked: IntMulOk (Sm.ok) -/
theorem op_mulX : OpR X (binaryOp .Mult) (rI IntMulOk fun i j => .int (i * j)) := opI fun _ _ _ _ _ _ _ hc q => mul_int q hc
/-- // by a positive divisor of at most 9000 bits -/
theorem op_fdivX : OpR X (binaryOp .FloorDiv) (rI (fun _ j => 0 < j ∧ Sm 9000 j) fun i j => .int (i / j)) := opI fun i j _ _ _ _ _ hc q =>
  floordiv_int (by omega) (by rw [Int.fdiv_eq_ediv_of_nonneg i (Int.le_of_lt hc.1)]; exact q) (.inl (hc.2.noPl (Nat.le_refl _)))
/-- isinstance(x, T) for a built-in type -/
theorem call_isinst : CallR X (.builtin "isinstance") (fun xs H Q => ∃ x T t b, xs = [x, .ty T] ∧ TyOf X.K H x t ∧ PySem.W.kitOne X.K t (.type T) = some b ∧ Q (.bl b) H) := by
  intro pins s σ H xs us Q I r h
  obtain ⟨x, T, t, b, rfl, ty, e, q⟩ := h
  obtain ⟨u, u', rfl, r1, r2⟩ := vals2 r
  cases r2
  exact isinst_ok I r1 ty e fun tk => ⟨.bl b, H, I.tok tk, rfl, q⟩
end

/-! ### data: what is read through the heap -/
mutual
def RD (K : PySem.W.Frag) (H : Hp) : PyData → V → Prop
  | .none, v => v = .non
  | .bool b, v => v = .bl b
  | .int i, v => v = .int i
  | .str x, v => v = .str x
  | .list ds, v => ∃ a xs, v = .ref a ∧ SqL K H a xs ∧ RDs K H ds xs
  | .tuple ds, v => ∃ a xs, v = .ref a ∧ SqT K H a xs ∧ RDs K H ds xs
  | .dict _, _ => False
def RDs (K : PySem.W.Frag) (H : Hp) : List PyData → List V → Prop
  | [], xs => xs = []
  | d :: ds, xs => ∃ y ys, xs = y :: ys ∧ RD K H d y ∧ RDs K H ds ys
end
section
variable {X : Cx} {pins : List (Addr × Obj)} {σ : St} {H : Hp} {s : Shared}
mutual
theorem reads_of (I : Inv X pins σ H s) : ∀ (d : PyData) (v : V) (u : Value), RD X.K H d v → RelV v u → ∃ as, Reads s.heap u d as
  | .none, v, u, h, r => by
    rw [RD] at h; subst h
    cases (show u = Value.none from r)
    exact ⟨_, .none⟩
  | .bool b, v, u, h, r => by
    rw [RD] at h; subst h
    cases (show u = Value.bool b from r)
    exact ⟨_, .bool b⟩
  | .int i, v, u, h, r => by
    rw [RD] at h; subst h
    obtain ⟨t, rfl⟩ := (show ∃ t, u = Value.int i t from r)
    exact ⟨_, .int i t⟩
  | .str x, v, u, h, r => by
    rw [RD] at h; subst h
    obtain ⟨t, rfl⟩ := (show ∃ t, u = Value.str x t from r)
    exact ⟨_, .str x t⟩
  | .list ds, v, u, h, r => by
    rw [RD] at h
    obtain ⟨a, xs, rfl, hs, hd⟩ := h
    cases (show u = Value.ref a from r)
    obtain ⟨its, rv, ⟨o, n, e1, e2, _, e3⟩, _⟩ := I.list hs
    obtain ⟨as, ha⟩ := reads_ofs I ds xs its hd rv
    exact ⟨_, .list e1 e2 e3 (by simpa using ha)⟩
  | .tuple ds, v, u, h, r => by
    rw [RD] at h
    obtain ⟨a, xs, rfl, hs, hd⟩ := h
    cases (show u = Value.ref a from r)
    obtain ⟨its, rv, ⟨o, e1, e2, n, e3⟩, _⟩ := I.tuple hs
    obtain ⟨as, ha⟩ := reads_ofs I ds xs its hd rv
    exact ⟨_, .tuple e1 e2 e3 (by simpa using ha)⟩
  | .dict _, _, _, h, _ => by
    rw [RD] at h
    exact h.elim
theorem reads_ofs (I : Inv X pins σ H s) : ∀ (ds : List PyData) (vs : List V) (us : List Value), RDs X.K H ds vs → Vals vs us → ∃ as, ReadsAll s.heap us ds as
  | [], vs, us, h, r => by
    rw [RDs] at h; subst h
    cases r
    exact ⟨_, .nil⟩
  | d :: ds, vs, us, h, r => by
    rw [RDs] at h
    obtain ⟨y, ys, rfl, h1, h2⟩ := h
    cases r with
    | cons r1 r2 =>
      obtain ⟨as, a1⟩ := reads_of I d y _ h1 r1
      obtain ⟨bs, a2⟩ := reads_ofs I ds ys _ h2 r2
      exact ⟨_, .cons a1 a2⟩
end
/-- two data compared -/
def rEqD (K : PySem.W.Frag) (neg : Bool) : R2 := fun x y H Q => ∃ d e, RD K H d x ∧ RD K H e y ∧ d.canLay0 = true ∧ e.canLay0 = true ∧ min d.depth e.depth ≤ 60 ∧ Q (.bl (if neg then !PyData.eqv d e else PyData.eqv d e)) H
theorem op_eqD (hu : X.A.units + 64 < cLine) : OpR X (compareOp .Eq) (rEqD X.K false) := by
  intro pins s σ H x y v u Q I rx ry h
  obtain ⟨d, e, h1, h2, c1, c2, dp, q⟩ := h
  obtain ⟨as, a1⟩ := reads_of I d x v h1 rx
  obtain ⟨bs, a2⟩ := reads_of I e y u h2 ry
  exact PySem.SeqAt.compareEq_reads a1 a2 c1 c2 (by omega) ⟨.bl _, H, I, rfl, q⟩
theorem op_neD (hu : X.A.units + 64 < cLine) : OpR X (compareOp .NotEq) (rEqD X.K true) := by
  intro pins s σ H x y v u Q I rx ry h
  obtain ⟨d, e, h1, h2, c1, c2, dp, q⟩ := h
  obtain ⟨as, a1⟩ := reads_of I d x v h1 rx
  obtain ⟨bs, a2⟩ := reads_of I e y u h2 ry
  exact PySem.SeqAt.compareNe_reads a1 a2 c1 c2 (by omega) ⟨.bl _, H, I, rfl, q⟩
end
/-! ints, points, lists of them, as data -/
def ptD (p : Int × Int) : PyData := .tuple [.int p.1, .int p.2]
theorem eqv_ints : ∀ (xs ys : List Int), PyData.eqvAll (xs.map .int) (ys.map .int) = decide (xs = ys)
  | [], [] => rfl
  | [], _ :: _ => rfl
  | _ :: _, [] => rfl
  | x :: xs, y :: ys => by
    rw [List.map_cons, List.map_cons, PyData.eqvAll, eqv_ints xs ys, PyData.eqv]
    by_cases h : x = y
    · subst h; simp
    · simp [h]
theorem eqv_pt (p q : Int × Int) : PyData.eqv (ptD p) (ptD q) = decide (p = q) := by
  obtain ⟨a, b⟩ := p
  obtain ⟨c, d⟩ := q
  unfold ptD
  rw [PyData.eqv]
  have := eqv_ints [a, b] [c, d]
  rw [List.map_cons, List.map_cons, List.map_nil, List.map_cons, List.map_cons, List.map_nil] at this
  rw [this]
  simp
theorem eqv_pts : ∀ (xs ys : List (Int × Int)), PyData.eqvAll (xs.map ptD) (ys.map ptD) = decide (xs = ys)
  | [], [] => rfl
  | [], _ :: _ => rfl
  | _ :: _, [] => rfl
  | x :: xs, y :: ys => by
    rw [List.map_cons, List.map_cons, PyData.eqvAll, eqv_pts xs ys, eqv_pt]
    by_cases h : x = y
    · subst h; simp
    · simp [h]
theorem lay_pts : ∀ (xs : List (Int × Int)), PyData.canLayAll0 (xs.map ptD) = true
  | [] => rfl
  | x :: xs => by rw [List.map_cons, PyData.canLayAll0, lay_pts xs]; rfl
theorem dep_pts : ∀ (xs : List (Int × Int)), PyData.depthAll (xs.map ptD) ≤ 2
  | [] => by simp [PyData.depthAll]
  | x :: xs => by
    have := dep_pts xs
    simp only [List.map_cons, PyData.depthAll, PyData.depth, ptD]
    omega
end L2

set_option Elab.async false
set_option linter.all false
set_option maxRecDepth 100000
set_option maxHeartbeats 4000000
/-! defs as they are called; a cut between two statements -/
namespace L2
open PySem PySem.Spec PyProof.Rows

section
variable {P : Program} {w : World} {K : PySem.W.Frag} {mg : Str → Option Value} {base : Heap}
theorem Fun.okX {x qual : Str} {st : Stmt} {f : Addr} {fd : FuncData} {N ps : List Str} {k : Nat} {sp : Sp} (F : Fun K x qual st f fd) (S : FnScope N ps (defScope st)) (len : ∀ vs H Q E, sp vs H Q E → vs.length = ps.length)
    (body : ∀ (cdv : Value) (A : Around) (outer : List Env) (s : Shared) (H : Hp) (vs : List V) (Q : VK) (E : XK), Room k (A.deeper (envOfC qual (defScope st) s.heap.objs.size f cdv)) → sp vs H Q E →
      ∃ t, PSs (cxOf (CXE P w) P w K mg base N qual (defScope st) f cdv A outer s H E) (defBody st) t ∧ t { nx := fun _ H' => Q .non H', rt := Q } (start N vs) H) : FnOk P w K mg base (CXE P w) (k + 1) f fd ps sp := by
  obtain ⟨oc, od, kV, doc, pm, an, cdv, ct, osl, rfl, lk, hcd⟩ := F.ex
  exact fn_of lk hcd S len fun A outer s H vs Q E hr hsp => body cdv A outer s H vs Q E hr hsp

/-- a def of the text, as the written part has it -/
structure DefIn (K : PySem.W.Frag) (x : Str) (st : Stmt) : Prop where
  ex : ∃ f fd, PySem.W.nsIn K mainGlobals x = some (some (.ref f)) ∧ Fun K x x st f fd
theorem def_mk {x : Str} {st : Stmt} {f : Addr} {oc : Value} {od an : Option Addr} {osl : Array (Option Value)} {kV doc pm cdv ct : Value} (a : PySem.W.nsIn K mainGlobals x = some (some (.ref f)))
    (l : K.lookup f = some ⟨oc, od, .func (PySem.W.fnOf x x (defArgs st) (defBody st) (defScope st) .none kV doc pm an cdv ct), osl⟩) (c : PySem.W.codeIn K cdv x = true) (k : PySem.W.keepIn K (.ref f) = true) : DefIn K x st := ⟨_, _, a, fun_mk l c k⟩
/-- how the arguments of a def without defaults bind -/
def BindOk (x : Str) (st : Stmt) (ps : List Str) : Prop := ∀ (kV doc pm : Value) (an : Option Addr) (cdv ct : Value) (us : List Value), us.length = ps.length → bindArgs (PySem.W.fnOf x x (defArgs st) (defBody st) (defScope st) .none kV doc pm an cdv ct) ⟨us, []⟩ = pure (ps.zip us)
/-- what may be called by its name -/
structure Cal (P : Program) (w : World) (K : PySem.W.Frag) (mg : Str → Option Value) (base : Heap) (x : Str) (k : Nat) (sp : Sp) : Prop where
  ex : ∃ f fd ps, mg x = some (.ref f) ∧ FnOk P w K mg base (CXE P w) k f fd ps sp ∧ PySem.W.keepIn K (.ref f) = true ∧ Binds K fd ps []
theorem DefIn.cal {x : Str} {st : Stmt} {ps : List Str} {k : Nat} {sp : Sp} {h : Heap} (d : DefIn K x st) (KX : K.In h) (G : h.Ns mainGlobals mg) (b : BindOk x st ps) (ok : ∀ f fd, Fun K x x st f fd → FnOk P w K mg base (CXE P w) k f fd ps sp) : Cal P w K mg base x k sp := by
  obtain ⟨f, fd, a, F⟩ := d.ex
  exact ⟨f, fd, ps, PySem.W.mg_of KX G a, ok f fd F, F.kp, F.binds b⟩
end
section
variable {X : Cx} {x : Str} {k : Nat} {sp : Sp} {E : St → XK} {p pos : Pos} {e : Expr} {es : List Expr} {t : TA}
theorem pe_callC (c : Cal X.prog X.w X.K X.mg X.base x k sp) (hr : Room k X.A) (hg : Gl X x) (hx : PassE X E)
    (ha : PA X (e :: es) t) (hdb : (x == ("__debug__" : Str)) = false := by decide) (he : starEach (e :: es) X.env = (false, eval e X.env) :: starEach es X.env := by rfl) (hpl : (backTo pos (starEach es X.env)).any (·.1) = false := by rfl) :
    PE X (.Call (.Name x p) (e :: es) [] pos) (tCallE sp E t) := by
  obtain ⟨f, fd, ps, hm, F, kp, b⟩ := c.ex
  exact pe_callE F hr hg hm kp b hx ha hdb he hpl
end
/-- a word between two statements -/
def tCut (t u : TS) : TS := fun D σ H => ∃ R : St → Hp → Prop, t { D with nx := R } σ H ∧ ∀ σ' H', R σ' H' → u D σ' H'
theorem pss_cut {X : Cx} {st : Stmt} {rest : List Stmt} {t u : TS} (h1 : PS X st t) (h2 : PSs X rest u) : PSs X (st :: rest) (tCut t u) := by
  intro pins s σ H D I ⟨R, h, hR⟩
  refine wpAny_execs_cons (thn (h1 pins s σ H { D with nx := R } I h) fun f s1 q => ?_)
  cases f with
  | next =>
    obtain ⟨σ1, H1, I1, q1⟩ := q
    exact h2 pins s1 σ1 H1 D I1 (hR σ1 H1 q1)
  | brk => exact q
  | cont => exact q
  | ret u => exact q
theorem iteD {c A B : Prop} [Decidable c] (h1 : c → A) (h2 : ¬ c → B) : if decide c = true then A else B := by
  by_cases h : c
  · rw [decide_eq_true h]
    exact iteT (h1 h)
  · rw [decide_eq_false h]
    exact iteF (h2 h)
theorem iteND {c A B : Prop} [Decidable c] (h1 : ¬ c → A) (h2 : c → B) : if (!decide c) = true then A else B := by
  by_cases h : c
  · rw [decide_eq_true h]
    exact iteF (h2 h)
  · rw [decide_eq_false h]
    exact iteT (h1 h)
/-! two ints compared by == -/
theorem deqI {i j : Int} : decide (V.int i = V.int j) = decide (i = j) := by
  by_cases h : i = j
  · subst h; simp
  · simp [h]
theorem iteDV {i j : Int} {A B : Prop} (h1 : i = j → A) (h2 : i ≠ j → B) : if decide (V.int i = V.int j) = true then A else B := by
  rw [deqI]
  exact iteD h1 h2
theorem iteNDV {i j : Int} {A B : Prop} (h1 : i ≠ j → A) (h2 : i = j → B) : if (!decide (V.int i = V.int j)) = true then A else B := by
  rw [deqI]
  exact iteND h1 h2
/-! reading through a heap that has grown -/
theorem Same.upd {H : Hp} {p : Addr} {o : HO} (n : H p = none) : Same H (upd H p o) := fun b u e => by
  rw [upd_ne (ne_of_none e n)]
  exact e
theorem Same.sql {K : PySem.W.Frag} {H H' : Hp} {a : Addr} {xs : List V} (h : Same H H') (s : SqL K H a xs) : SqL K H' a xs := h.seq s
theorem SqT.new {K : PySem.W.Frag} {H : Hp} {p : Addr} {xs : List V} : SqT K (upd H p (.tup xs)) p xs := SqT.of upd_same
theorem SqL.new {K : PySem.W.Frag} {H : Hp} {p : Addr} {xs : List V} : SqL K (upd H p (.lst xs)) p xs := SqL.of upd_same
theorem boot_abs : bootBuiltins "abs" = some (.builtin "abs") := by decide +kernel
theorem boot_all : bootBuiltins "all" = some (.builtin "all") := by decide +kernel
/-- a place that is in the list -/
theorem at_ints {ns : List Int} {i : Int} (h0 : 0 ≤ i) (h1 : i < ns.length) : atI (ns.map V.int) i = some (V.int (ns.getD i.toNat 0)) := by
  have hl : i.toNat < ns.length := by omega
  have e : (ns.map V.int)[i.toNat]? = some (V.int (ns.getD i.toNat 0)) := by
    rw [List.getElem?_map, List.getD_eq_getElem?_getD, List.getElem?_eq_getElem hl]
    rfl
  have := atI_nat e
  rwa [Int.toNat_of_nonneg h0] at this
/-- the cells of a script -/
def cellF (ns : List Int) (i : Int) : Int := if i < ns.length then ns.getD i.toNat 0 else if (ns.length : Int) = 0 then 7 * i + 3 else ns.getD (i % ns.length).toNat 0 + 1009 * i
def divs (c : Int) : Nat → Int
  | 0 => c
  | n + 1 => divs c n / 1000
def spCell (K : PySem.W.Frag) : Sp := fun vs H Q _ => ∃ (a : Addr) (ns : List Int) (i : Int), vs = [.ref a, .int i] ∧ SqL K H a (ns.map V.int) ∧ 0 ≤ i ∧ ∀ r, r = cellF ns i → Q (.int r) H
def absI (c : Int) : Int := if c < 0 then -c else c
def oneF (c t : Int) : Int := (c % 1000003 * 48271 + t * 7919 + 101) % 999983
def twoF (c t : Int) : Int := (oneF c t * oneF c t + c % 1000003 * 31 + t * 104729) % 1000033
def rawF (c t : Int) : Int := if 10 ^ 18 ≤ absI c then (if c < 0 then divs (absI c) t.toNat % 1000 else divs (absI c) t.toNat) else (twoF c t * twoF c t + oneF c t * 17 + t * 30011) % 999979
def pickF (ns : List Int) (i t m : Int) : Int := rawF (cellF ns i) t % m
theorem pickF_nn (ns : List Int) (i t m : Int) (h : 0 < m) : 0 ≤ pickF ns i t m := Int.emod_nonneg _ (by omega)
theorem pickF_lt (ns : List Int) (i t m : Int) (h : 0 < m) : pickF ns i t m < m := Int.emod_lt_of_pos _ h
theorem rawF_big {c t : Int} (h : 10 ^ 18 ≤ absI c) (n : c < 0) : rawF c t = divs (absI c) t.toNat % 1000 := by rw [rawF, if_pos h, if_pos n]
theorem rawF_bigp {c t : Int} (h : 10 ^ 18 ≤ absI c) (n : ¬ c < 0) : rawF c t = divs (absI c) t.toNat := by rw [rawF, if_pos h, if_neg n]
theorem rawF_low {c t : Int} (h : ¬ 10 ^ 18 ≤ absI c) : rawF c t = (twoF c t * twoF c t + oneF c t * 17 + t * 30011) % 999979 := by rw [rawF, if_neg h]
def spPick (K : PySem.W.Frag) : Sp := fun vs H Q _ => ∃ (a : Addr) (ns : List Int) (i t m : Int), vs = [.ref a, .int i, .int t, .int m] ∧ SqL K H a (ns.map V.int) ∧ 0 ≤ i ∧ 0 ≤ t ∧ t < 1000000 ∧ 0 < m ∧
  ∀ r, r = pickF ns i t m → 0 ≤ r → r < m → Q (.int r) H
theorem Sm.small {n : Nat} {i : Int} (h1 : -(2 ^ 64) ≤ i) (h2 : i ≤ 2 ^ 64) (hn : 65 ≤ n) : Sm n i := by
  refine Sm.mono (n := 65) ?_ hn
  unfold Sm
  omega
def spLaw (K : PySem.W.Frag) : Sp := fun vs H Q _ => ∃ (a : Addr) (ns : List Int), vs = [.ref a] ∧ SqL K H a (ns.map V.int) ∧ ns.length ≤ 63 ∧ ∀ H', Q (.bl true) H'
theorem sz1 {x : V} : [x].length ≤ sizeLine := by show 1 ≤ sizeLine; decide
theorem sz2 {x y : V} : [x, y].length ≤ sizeLine := by show 2 ≤ sizeLine; decide
end L2

set_option Elab.async false
set_option linter.all false
/-! greatest common divisors, lowest terms -/
namespace L2
open PySem

def gcdI (x y : Int) : Int := ((Nat.gcd x.toNat y.toNat : Nat) : Int)
theorem gcdI_zero {x : Int} (h : 0 ≤ x) : gcdI x 0 = x := by
  unfold gcdI
  have : (0 : Int).toNat = 0 := rfl
  rw [this, Nat.gcd_zero_right]
  omega
theorem gcdI_step {x y : Int} (hx : 0 ≤ x) (hy : 0 < y) : gcdI y (x % y) = gcdI x y := by
  unfold gcdI
  have e : (x % y).toNat = x.toNat % y.toNat := by
    have h1 : x = (x.toNat : Int) := by omega
    have h2 : y = (y.toNat : Int) := by omega
    have h3 : x % y = ((x.toNat % y.toNat : Nat) : Int) := by
      conv => lhs; rw [h1, h2]
      exact (Int.natCast_emod _ _).symm
    rw [h3]
    exact Int.toNat_natCast _
  rw [e, Nat.gcd_comm y.toNat, ← Nat.gcd_rec, Nat.gcd_comm]
theorem absI_eq (t : Int) : absI t = (t.natAbs : Int) := by
  unfold absI
  split <;> omega
theorem absI_nn (t : Int) : 0 ≤ absI t := by
  rw [absI_eq]
  omega
theorem gcdI_abs (t b : Int) : gcdI (absI t) b = ((Nat.gcd t.natAbs b.toNat : Nat) : Int) := by
  unfold gcdI
  rw [absI_eq, Int.toNat_natCast]
/-- the divisor of a point -/
def gOf (t b : Int) : Int := gcdI (absI t) b
def lowF (t b : Int) : Int × Int := (t / gOf t b, b / gOf t b)
theorem gOf_pos {t b : Int} (h : 1 ≤ b) : 1 ≤ gOf t b := by
  unfold gOf
  rw [gcdI_abs]
  have : 0 < Nat.gcd t.natAbs b.toNat := Nat.gcd_pos_of_pos_right _ (by omega)
  omega
theorem gOf_le {t b : Int} (h : 1 ≤ b) : gOf t b ≤ b := by
  unfold gOf
  rw [gcdI_abs]
  have : Nat.gcd t.natAbs b.toNat ≤ b.toNat := Nat.gcd_le_right _ (by omega)
  omega
theorem gOf_dvd_b {t b : Int} (h : 1 ≤ b) : gOf t b ∣ b := by
  unfold gOf
  rw [gcdI_abs]
  have h1 : ((Nat.gcd t.natAbs b.toNat : Nat) : Int) ∣ (b.toNat : Int) := Int.natCast_dvd_natCast.mpr (Nat.gcd_dvd_right _ _)
  have h2 : (b.toNat : Int) = b := by omega
  rwa [h2] at h1
theorem gOf_dvd_t {t b : Int} : gOf t b ∣ t := by
  unfold gOf
  rw [gcdI_abs]
  have h1 : ((Nat.gcd t.natAbs b.toNat : Nat) : Int) ∣ (t.natAbs : Int) := Int.natCast_dvd_natCast.mpr (Nat.gcd_dvd_left _ _)
  exact Int.dvd_natAbs.mp h1
theorem low_t {t b : Int} : gOf t b * (t / gOf t b) = t := Int.mul_ediv_cancel' gOf_dvd_t
theorem low_b {t b : Int} (h : 1 ≤ b) : gOf t b * (b / gOf t b) = b := Int.mul_ediv_cancel' (gOf_dvd_b h)
theorem low_cross {t b : Int} (h : 1 ≤ b) : (lowF t b).1 * b = t * (lowF t b).2 := by
  unfold lowF
  dsimp only
  have h1 := low_t (t := t) (b := b)
  have h2 := low_b (t := t) (b := b) h
  conv => lhs; rw [← h2]
  conv => rhs; rw [← h1]
  rw [h1, h2]
  have e1 : t / gOf t b * b = t / gOf t b * (gOf t b * (b / gOf t b)) := by rw [h2]
  have e2 : t * (b / gOf t b) = gOf t b * (t / gOf t b) * (b / gOf t b) := by rw [h1]
  rw [e1, e2, ← Int.mul_assoc, Int.mul_comm (t / gOf t b)]
theorem low_bot {t b : Int} (h : 1 ≤ b) : 1 ≤ (lowF t b).2 := by
  show 1 ≤ b / gOf t b
  have h2 := low_b (t := t) (b := b) h
  have h3 := gOf_pos (t := t) h
  have : 0 < b / gOf t b := by
    rcases Int.lt_or_le 0 (b / gOf t b) with z | z
    · exact z
    · have := Int.mul_le_mul_of_nonneg_left z (show 0 ≤ gOf t b by omega)
      rw [h2, Int.mul_zero] at this
      omega
  omega
theorem low_le {t b : Int} (h : 1 ≤ b) : (lowF t b).2 ≤ b := Int.ediv_le_self _ (by omega)
theorem low_co {t b : Int} (h : 1 ≤ b) : gOf (lowF t b).1 (lowF t b).2 = 1 := by
  have h3 := gOf_pos (t := t) h
  have hb := low_bot (t := t) h
  obtain ⟨g, hg⟩ : ∃ g : Nat, gOf t b = (g : Int) := ⟨_, by unfold gOf; exact gcdI_abs t b⟩
  have g1 : 0 < g := by omega
  have hgg : g = Nat.gcd t.natAbs b.toNat := by
    have : (g : Int) = ((Nat.gcd t.natAbs b.toNat : Nat) : Int) := by rw [← hg]; unfold gOf; exact gcdI_abs t b
    omega
  have et : g * (lowF t b).1.natAbs = t.natAbs := by
    have := low_t (t := t) (b := b)
    have e := congrArg Int.natAbs this
    rw [Int.natAbs_mul, hg] at e
    simpa [lowF, hg] using e
  have eb : g * (lowF t b).2.toNat = b.toNat := by
    have := low_b (t := t) (b := b) h
    rw [hg] at this
    have q : (lowF t b).2 = b / (g : Int) := by unfold lowF; rw [hg]
    have q2 : b / (g : Int) = ((b / (g : Int)).toNat : Int) := by rw [← q]; omega
    rw [q]
    rw [q2] at this
    have : ((g * (b / (g : Int)).toNat : Nat) : Int) = b := by rw [Int.natCast_mul]; exact this
    omega
  unfold gOf
  rw [gcdI_abs]
  have key : g * Nat.gcd (lowF t b).1.natAbs (lowF t b).2.toNat = g * 1 := by
    rw [← Nat.gcd_mul_left, et, eb, ← hgg, Nat.mul_one]
  have := Nat.eq_of_mul_eq_mul_left g1 key
  rw [this]
  rfl
theorem gOf_mul {t b c : Int} (h : 1 ≤ b) (hc : 1 ≤ c) : gOf (t * c) (b * c) = gOf t b * c := by
  unfold gOf
  rw [gcdI_abs, gcdI_abs]
  have e1 : (t * c).natAbs = t.natAbs * c.toNat := by
    rw [Int.natAbs_mul]
    have : c.natAbs = c.toNat := by omega
    rw [this]
  have e2 : (b * c).toNat = b.toNat * c.toNat := by
    have hb : b = (b.toNat : Int) := by omega
    have hc' : c = (c.toNat : Int) := by omega
    have : b * c = ((b.toNat * c.toNat : Nat) : Int) := by
      rw [Int.natCast_mul, ← hb, ← hc']
    omega
  rw [e1, e2, Nat.gcd_mul_right, Int.natCast_mul]
  have : (c.toNat : Int) = c := by omega
  rw [this]
theorem low_mul {t b c : Int} (h : 1 ≤ b) (hc : 1 ≤ c) : lowF (t * c) (b * c) = lowF t b := by
  unfold lowF
  rw [gOf_mul h hc]
  have hg := gOf_pos (t := t) h
  rw [Int.mul_ediv_mul_of_pos_left _ _ (show 0 < c by omega), Int.mul_ediv_mul_of_pos_left _ _ (show 0 < c by omega)]
end L2

set_option Elab.async false
set_option linter.all false
set_option maxRecDepth 100000
set_option maxHeartbeats 4000000
/-! list comprehensions of one clause, without a test, in which nothing raises -/
namespace L2
open PySem PySem.Spec PyProof.Rows

def CapAll (env : Env) : List (Str × Addr) → Prop
  | [] => True
  | (y, c) :: r => env.cells.lookup y = some c ∧ CapAll env r
theorem CapAll.look {env : Env} : ∀ {cl : List (Str × Addr)}, CapAll env cl → ∀ {y : Str} {c : Addr}, cl.lookup y = some c → env.cells.lookup y = some c
  | [], _, _, _, e => by cases e
  | (z, d) :: r, h, y, c, e => by
    rw [List.lookup_cons] at e
    cases hb : y == z with
    | true =>
      rw [hb] at e
      rw [eq_of_beq hb]
      exact h.1.trans e
    | false =>
      rw [hb] at e
      exact CapAll.look h.2 e
def HasAll (cl : List (Str × Addr)) : List (Str × NameKind) → Prop
  | [] => True
  | (n, k) :: r => (k = .free → ∃ c, cl.lookup n = some c) ∧ k ≠ .cell ∧ HasAll cl r
theorem HasAll.nocell {cl : List (Str × Addr)} : ∀ {ns : List (Str × NameKind)}, HasAll cl ns → ∀ y ∈ ns, y.2 ≠ .cell
  | (n, k) :: r, h, y, hy => by
    rcases List.mem_cons.mp hy with rfl | hy
    · exact h.2.1
    · exact HasAll.nocell h.2.2 y hy
theorem HasAll.has {cl : List (Str × Addr)} {env : Env} : ∀ {ns : List (Str × NameKind)}, HasAll cl ns → ∀ {x : Str} {q : NameKind}, q = .cell ∨ q = .free →
    (ns.map fun (n, k) => if (k == NameKind.free && env.scope.kind == .function && env.kindOf n == some .cell) then (n, NameKind.cell) else (n, k)).lookup x = some q → ∃ c, cl.lookup x = some c
  | [], _, _, _, _, e => by cases e
  | (n, k) :: r, h, x, q, hq, e => by
    have ih := HasAll.has (env := env) h.2.2 (x := x) hq
    rw [List.map_cons] at e
    by_cases hc : (k == NameKind.free && env.scope.kind == .function && env.kindOf n == some .cell) = true
    · have e' := e
      dsimp only at e'
      rw [if_pos hc, List.lookup_cons] at e'
      cases hb : x == n with
      | true =>
        rw [Bool.and_eq_true, Bool.and_eq_true] at hc
        obtain ⟨c, hcc⟩ := h.1 (eq_of_beq hc.1.1)
        exact ⟨c, by rw [eq_of_beq hb]; exact hcc⟩
      | false =>
        rw [hb] at e'
        exact ih e'
    · have e' := e
      dsimp only at e'
      rw [if_neg hc, List.lookup_cons] at e'
      cases hb : x == n with
      | true =>
        rw [hb] at e'
        have ek : k = q := Option.some.inj e'
        rcases hq with rfl | rfl
        · exact absurd ek h.2.1
        · obtain ⟨c, hcc⟩ := h.1 ek
          exact ⟨c, by rw [eq_of_beq hb]; exact hcc⟩
      | false =>
        rw [hb] at e'
        exact ih e'
/-- the names that the element reads, by their places -/
def CapIx (X : Cx) (scope : Scope) (cl : List (Str × Addr)) : List Nat → Prop
  | [] => True
  | j :: r => (∃ y c, X.N[j]? = some y ∧ X.env.scope.names.lookup y = some .cell ∧ (relabel scope X.env).names.lookup y = some .cell ∧ cl.lookup y = some c) ∧ CapIx X scope cl r
theorem CapIx.get {X : Cx} {scope : Scope} {cl : List (Str × Addr)} : ∀ {M : List Nat}, CapIx X scope cl M → ∀ {k j : Nat}, M[k]? = some j →
    ∃ y c, X.N[j]? = some y ∧ X.env.scope.names.lookup y = some .cell ∧ (relabel scope X.env).names.lookup y = some .cell ∧ cl.lookup y = some c
  | [], _, k, j, e => by cases e
  | i :: r, h, 0, j, e => by
    cases e
    exact h.1
  | i :: r, h, k + 1, j, e => CapIx.get h.2 (k := k) e
def compN (X : Cx) (x : Str) (M : List Nat) : List Str := x :: M.map fun j => X.N.getD j Str.empty
def compS (M : List Nat) (σ : St) (o : Option V) : St := o :: M.map fun j => (σ[j]?).join
/-- the context of the block -/
abbrev compCx (X : Cx) (scope : Scope) (cl : List (Str × Addr)) (x : Str) (M : List Nat) (C : Addr) (s2 : Shared) (H2 : Hp) (fp : List Addr) (pn : List (Addr × Obj)) : Cx :=
  { X with N := compN X x M, s₀ := s2, H₀ := H2, env := compEnvC scope cl C X.env, outer := X.stack, ex := fp, fn := fun _ => false, pn := pn, xe := fun _ _ => False }

section
variable {X : Cx} {pins : List (Addr × Obj)} {σ : St} {H : Hp} {s2 : Shared} {scope : Scope} {cl : List (Str × Addr)} {x : Str} {M : List Nat} {fp : List Addr} {C : Addr} {h1 : Heap} {tk : Nat}
theorem Inv.comp (I : Inv X pins σ H s2) (hc : CapAll X.env cl) (hh : HasAll cl scope.names) (hm : CapIx X scope cl M) (hk : scope.kind = .function) (hC : s2.heap.objs.size < C)
    (keep : ∀ b o, s2.heap.get? b = some o → h1.get? b = some o) (hn : h1.Ns C fun _ => none) (hD : h1.get? s2.heap.objs.size = some { cls := .type "list", data := .seq #[] 0 })
    (hfp : ∀ b ∈ fp, FpOk X pins H b) (hob : ∀ b ∈ fp, ∃ o, s2.heap.get? b = some o) :
    Inv (compCx X scope cl x M C s2 H fp (X.pn ++ pins)) [] (compS M σ none) (upd H s2.heap.objs.size (.lst [])) { s2 with heap := h1, toks := tk } := by
  have hfr := I.hok.fresh (a := s2.heap.objs.size) (Nat.le_refl _)
  have o := I.ok
  have hcc : ∀ y c, cl.lookup y = some c → X.env.cells.lookup y = some c := fun y c e => hc.look e
  have hlt : ∀ b ∈ fp, b < s2.heap.objs.size := fun b hb => by
    obtain ⟨ob, e⟩ := hob b hb
    exact Heap.lt_size e
  have hstk : ∀ b ∈ fp, b ∉ frs X.stack := fun b hb z => by
    rcases List.mem_cons.mp (I.stkSub b z) with z | z
    · exact (hfp b hb).2.1 z
    · exact (hfp b hb).2.2.1 z
  have hCn : H C = none := I.hok.fresh (Nat.le_of_lt hC)
  refine ⟨⟨o.mod, hk, o.glob, o.blt, Nat.le_of_lt hC, fun y z c e1 e2 => o.inj y z c (hcc y c e1) (hcc z c e2), fun y hy => ?_, fun y c z => (Bool.false_ne_true z).elim, o.hd, o.frames, .inl rfl, fun b hb => ⟨Nat.ne_of_lt (Nat.lt_trans (hlt b hb) hC), fun y c e => (hfp b hb).2.2.2.2.1 y c (hcc y c e)⟩,
    fun b ob e => I.bs b ob e, Nat.le_trans o.bsz I.sz, fun b ob e z => ?_, hstk, I.stack, I.stkFree⟩, rfl, I.bare, ?_, ?_, fun y c e => ?_, ?_, fun y c e => ?_, fun p hp => ?_, ?_, ?_⟩
  · rcases hy with hy | hy
    · exact hh.has (.inl rfl) hy
    · exact hh.has (.inr rfl) hy
  · obtain ⟨e1, e2⟩ := I.bs b ob e
    exact (hfp b z).2.2.2.1.elim (fun q => o.noex b ob e q) fun q => by
      have := o.bs b ob e
      exact Nat.lt_irrefl _ (Nat.lt_of_lt_of_le (Heap.lt_size this.1) q)
  · exact (Un.laid (fs := frs X.stack) (ex := fp) (o := .lst []) keep (Nat.le_refl _) hfr)
  · refine ⟨_, hn, fun i z v e1 e2 e3 => ?_⟩
    cases i with
    | zero => cases e2
    | succ k =>
      have e1' : (M.map fun j => X.N.getD j Str.empty)[k]? = some z := e1
      have e2' : (M.map fun j => (σ[j]?).join)[k]? = some (some v) := e2
      rw [List.getElem?_map] at e1' e2'
      cases hj : M[k]? with
      | none => rw [hj] at e1'; cases e1'
      | some j =>
        rw [hj] at e1' e2'
        obtain ⟨y, c, f1, f2, f3, f4⟩ := hm.get hj
        have ez : X.N.getD j Str.empty = z := Option.some.inj e1'
        rw [List.getD_eq_getElem?_getD, f1] at ez
        have ez' : y = z := ez
        subst ez'
        have ev : (σ[j]?).join = some v := Option.some.inj e2'
        have ev' : σ[j]? = some (some v) := by
          cases hs : σ[j]? with
          | none => rw [hs] at ev; cases ev
          | some w' =>
            rw [hs] at ev
            have : w' = some v := ev
            rw [this]
        obtain ⟨m, hns, hl⟩ := I.loc
        obtain ⟨u, r, l⟩ := hl j y v f1 ev' (.inr (.inl f2))
        refine ⟨u, r, .inr ⟨.inl f3, c, f4, ?_⟩⟩
        rcases l with ⟨lk, _⟩ | ⟨_, c', lc, li⟩
        · have : X.env.scope.names.lookup y = some .local := lk
          rw [f2] at this
          cases this
        · rw [hcc y c f4] at lc
          have := Option.some.inj lc
          subst this
          exact li.keeps keep
  · obtain ⟨v, hv⟩ := I.cell y c (hcc y c e)
    exact ⟨v, hv.keeps keep⟩
  · show upd H s2.heap.objs.size (.lst []) C = none
    rw [upd_ne (Nat.ne_of_gt hC)]
    exact hCn
  · show upd H s2.heap.objs.size (.lst []) c = none
    obtain ⟨v, ob, e1, e2⟩ := I.cell y c (hcc y c e)
    rw [upd_ne (Nat.ne_of_lt (Heap.lt_size e1))]
    exact I.freeC y c (hcc y c e)
  · have hp' : p ∈ X.pn ++ pins := (List.mem_append.mp hp).elim (fun z => z) fun z => nomatch z
    obtain ⟨e1, e2, e3, e4, e5⟩ := I.pin p hp'
    refine ⟨keep _ _ e1, ?_, Nat.ne_of_lt (Nat.lt_trans (Heap.lt_size e1) hC), fun z => ?_, e5⟩
    · rw [upd_ne (Nat.ne_of_lt (Heap.lt_size e1))]
      exact e2
    · rcases List.mem_cons.mp (I.stkSub p.1 z) with z | z
      · exact e3 z
      · exact e4 z
  · exact I.hok.laid keep (Nat.le_refl _) ⟨Nat.zero_le _, [], 0, .nil, hD⟩
  · show (none :: M.map fun j => (σ[j]?).join).length = (x :: M.map fun j => X.N.getD j Str.empty).length
    rw [List.length_cons, List.length_cons, List.length_map, List.length_map]

theorem Inv.uncomp {pins' : List (Addr × Obj)} {σ' : St} {H' : Hp} {s' : Shared} {h' : Heap} (I : Inv X pins σ H s2) (hC : s2.heap.objs.size ≤ C) (hfp : ∀ b ∈ fp, FpOk X pins H b)
    (J : Inv (compCx X scope cl x M C s2 H fp (X.pn ++ pins)) pins' σ' H' s') (hs : Heap.SameBut C s'.heap h') : Inv X pins σ H' { s' with heap := h' } := by
  have hb := J.base
  have nC : ∀ b o, s2.heap.get? b = some o → b ≠ C := fun b o e => Nat.ne_of_lt (Nat.lt_of_lt_of_le (Heap.lt_size e) hC)
  have st : ∀ b o, b ≠ C → s'.heap.get? b = some o → h'.get? b = some o := fun b o n e => (hs.2 b n).trans e
  refine I.call' (s' := { s' with heap := h' }) (ch := fp) J.os ⟨fun b o e n nb nx => st b o (nC b o e) (hb.keep b o e n nb nx), fun b o e n hb' nx => ?_, hb.free, fun b o e nx => ?_, hb.tups, hb.frzs, hb.tbls⟩ ?_ J.bare fun b hbf => ?_
  · obtain ⟨sl, e1⟩ := hb.slot b o e n hb' nx
    exact ⟨sl, st b _ (nC b o e) e1⟩
  · obtain ⟨o', e1⟩ := hb.there b o e nx
    exact ⟨o', st b _ (nC b o e) e1⟩
  · intro b u hu
    have fr : H' C = none := J.free
    refine (J.hok b u hu).stay (fun c v hc e => st c v ?_ e) (fun _ z => z) fun _ _ z => z
    rcases hc with rfl | hc
    · intro z; rw [z, fr] at hu; cases hu
    · intro z; rw [z, fr] at hc; cases hc
  · obtain ⟨q1, q2, q3, q4, q5, q6⟩ := hfp b hbf
    exact ⟨q4, q2, q5, q6⟩
end

/-- W: what holds ahead of turn i, the items so far, the heap (the new list stands in it) -/
def CompR (J : It) (M : List Nat) (te : TE) (σ : St) (H1 : Hp) (Q : VK) : Prop := ∀ p, H1 p = none → ∃ W : Nat → Nat → List V → Hp → Prop, (∃ m, W 0 m [] (upd H1 p (.lst []))) ∧
  ∀ i m ys H2, W i m ys H2 → H2 p = some (.lst ys) ∧ ys.length < sizeLine ∧ ((J.stop i H2 ∧ Q (.ref p) H2) ∨ (J.go i H2 ∧ ∀ v H3, J.yld i H2 v H3 →
    te (compS M σ (some v)) H3 fun y H4 => H4 p = some (.lst ys) ∧ ∃ m', m' < m ∧ W (i + 1) m' (ys ++ [y]) (upd H4 p (.lst (ys ++ [y])))))
def tComp (M : List Nat) (wi : TI) (te : TE) : TE := fun σ H Q => wi σ H fun J H1 => CompR J M te σ H1 Q
section
variable {X : Cx} {elt iter : Expr} {x : Str} {px pos : Pos} {scope : Scope} {cl : List (Str × Addr)} {M : List Nat} {wi : TI} {te : TE}
theorem comp_run (hc : X.calm = true) (hclos : closureFor scope X.env = pure cl) (hcap : CapAll X.env cl) (hhas : HasAll cl scope.names) (hix : CapIx X scope cl M) (hk : scope.kind = .function)
    (hnames : ∀ y ∈ scope.names, y.2 = .local → scope.names.lookup y.1 = some .local) (hx : scope.names.lookup x = some .local) (hnd : (compN X x M).Nodup) (hi : PI X (.Name x px) iter wi)
    (he : ∀ C s2 H2 fp pn, PE (compCx X scope cl x M C s2 H2 fp pn) elt te) (hs : ∀ z, foldedSetIterable iter X.env z = pure z)
    {use : Option (Value → Sem Unit)} {QQ : Value → Shared → Prop} {pins : List (Addr × Obj)} {s : Shared} {σ : St} {H : Hp} {Q : VK} {ps : Pos} (I : Inv X pins σ H s) (h : wi σ H fun J H1 => CompR J M te σ H1 Q)
    (fin : ∀ (C : Addr) (s2 s4 : Shared) (H1 H2 : Hp) (fp : List Addr), Inv X pins σ H1 s2 → s2.heap.objs.size < C → (∀ b ∈ fp, FpOk X pins H1 b) → Inv (compCx X scope cl x M C s2 H1 fp (X.pn ++ pins)) [] (compS M σ none) H2 s4 → Q (.ref s2.heap.objs.size) H2 →
      compPost (model X.prog X.w) X.A X.xe use QQ (.ref s2.heap.objs.size) C (.ok .next) s4) :
    wpAny (model X.prog X.w) X.A (comprehension (.ListComp elt [⟨.Name x px, iter, [], 0⟩] scope pos) scope X.env ps (newList []) false (eval iter X.env) use) QQ X.xe s := by
  refine wpAny_comprehension_free (use := use) rfl hs hclos hk hnames ?_
  refine thn (hi pins s σ H _ I h) fun v s1 h1 => thn h1 fun itv s2 h2 => ?_
  obtain ⟨it, fp, tn, J, H1, rfl, I2, T, t0, hfp, hR⟩ := h2
  have hob : ∀ b ∈ fp, ∃ o, s2.heap.get? b = some o ∧ ∀ v, o.data ≠ .cell v := T.obj 0 _ t0
  obtain ⟨W, ⟨m0, w0⟩, hW⟩ := hR s2.heap.objs.size (I2.hok.fresh (Nat.le_refl _))
  refine wpAny_newObj_type ?_
  refine wpAny_newFunctionEnv hhas.nocell (by intro y hy; cases hy) (fun h3 hns hsb => ?_) hk
  dsimp only at hns hsb ⊢
  generalize hH2 : s2.heap.push { cls := .type "list", dict := none, data := .seq ([] : List Value).toArray } = G2 at hns hsb ⊢
  have hC : G2.objs.size = s2.heap.objs.size + 1 := by rw [← hH2, Heap.size_push]
  have hlt : s2.heap.objs.size < G2.objs.size := by omega
  have keep : ∀ b o, s2.heap.get? b = some o → h3.get? b = some o := fun b o e => by
    have hb : b ≠ G2.objs.size := Nat.ne_of_lt (Nat.lt_trans (Heap.lt_size e) hlt)
    rw [hsb.2 b hb]
    exact Heap.get?_push_of_some _ (hH2 ▸ Heap.get?_push_of_some _ e)
  have hD : h3.get? s2.heap.objs.size = some { cls := .type "list", data := .seq #[] 0 } := by
    rw [hsb.2 _ (Nat.ne_of_lt hlt)]
    exact Heap.get?_push_of_some _ (hH2 ▸ Heap.get?_push_size _ rfl)
  have hns' : h3.Ns G2.objs.size fun _ => none := hns
  have J0 : ∀ tk, Inv (compCx X scope cl x M G2.objs.size s2 H1 fp (X.pn ++ pins)) [] (compS M σ none) (upd H1 s2.heap.objs.size (.lst [])) { s2 with heap := h3, toks := tk } := fun tk =>
    I2.comp hcap hhas hix hk hlt keep hns' hD hfp fun b hb => let ⟨o, e, _⟩ := hob b hb; ⟨o, e⟩
  have hbl : ∀ b ∈ fp, b < s2.heap.objs.size := fun b hb => let ⟨o, e, _⟩ := hob b hb; Heap.lt_size e
  have fok : ∀ (H2 : Hp), (∀ b ∈ fp, H2 b = none) → ∀ b ∈ fp, FpOk (compCx X scope cl x M G2.objs.size s2 H1 fp (X.pn ++ pins)) [] H2 b := fun H2 hn b hb => by
    obtain ⟨q1, q2, q3, q4, q5, q6⟩ := hfp b hb
    refine ⟨hn b hb, Nat.ne_of_lt (Nat.lt_trans (hbl b hb) hlt), fun z => ?_, .inl hb, fun y c e => q5 y c (hcap.look e), fun p hp => q6 p ((List.mem_append.mp hp).elim (fun z => z) fun z => nomatch z)⟩
    rcases List.mem_cons.mp (I2.stkSub b z) with z | z
    · exact q2 z
    · exact q3 z
  have hxl : (relabel scope X.env).names.lookup x = some .local := lookup_relabel_local hx
  have loop : ∀ tk, codeAny (model X.prog X.w) X.A (.compLoop (.ListComp elt [⟨.Name x px, iter, [], 0⟩] scope pos) 0 (.ref it) (.ref s2.heap.objs.size) (compEnvC scope cl G2.objs.size X.env))
      (compPost (model X.prog X.w) X.A X.xe use QQ (.ref s2.heap.objs.size) G2.objs.size) { s2 with heap := h3, toks := tk } := fun tk => by
    refine codeAny_loop rfl (fun n s3 => ∃ i ys H2, W i n ys H2 ∧ Inv (compCx X scope cl x M G2.objs.size s2 H1 fp (X.pn ++ pins)) [] (compS M σ none) H2 s3 ∧ tn i s3.heap ∧ ∀ b ∈ fp, H2 b = none) (fun n s3 hI => ?_) m0
      ⟨0, [], _, w0, J0 tk, T.keep 0 _ _ t0 fun b _ o e => keep b o e, fun b hb => by rw [upd_ne (Nat.ne_of_lt (hbl b hb))]; exact (hfp b hb).1⟩
    obtain ⟨i, ys, H2, w, J2, t, nf2⟩ := hI
    show wpAny _ _ ((compTurn (.ListComp elt [⟨.Name x px, iter, [], 0⟩] scope pos) 0 (.ref it) (.ref s2.heap.objs.size) (compEnvC scope cl G2.objs.size X.env)).onRaise fun z => do noteFrame z (compEnvC scope cl G2.objs.size X.env); theTreesLotGoes z) _ _ s3
    refine wpAny_noted ?_
    rw [compTurn_list1]
    refine wpAny_bind (wpAny_standAt (wpAny_bind ?_))
    obtain ⟨hp, hz, hcase⟩ := hW i n ys H2 w
    rcases hcase with ⟨hst, hq⟩ | ⟨hgo, hy⟩
    · refine wpAny_mono (T.done (compCx X scope cl x M G2.objs.size s2 H1 fp (X.pn ++ pins)) rfl rfl rfl hc i [] s3 _ H2 (fun _ _ => False) J2 (fok H2 nf2) t hst) (fun r s4 hr => ?_) fun _ _ z => z.elim
      obtain ⟨rfl, J4⟩ := hr
      refine wpAny_pure ?_
      exact fin G2.objs.size s2 s4 H1 H2 fp I2 hlt hfp J4 hq
    · refine wpAny_mono (T.item (compCx X scope cl x M G2.objs.size s2 H1 fp (X.pn ++ pins)) rfl rfl rfl hc i [] s3 _ H2 (fun _ _ => False) J2 (fok H2 nf2) t hgo) (fun r s4 hr => ?_) fun _ _ z => z.elim
      obtain ⟨u, rfl, hw⟩ := hr
      refine wpAny_bind (wpAny_mono hw (fun _ s5 hr5 => ?_) fun _ _ z => z.elim)
      obtain ⟨v, H3, J5, rv, yl, t5, nf⟩ := hr5
      have J5p := J5.pinned (fok H3 nf) (T.obj _ _ t5)
      refine wpAny_bind (wpAny_mono (pg_name (X := compCx X scope cl x M G2.objs.size s2 H1 fp (X.pn ++ pins)) (i := 0) hnd rfl (.inl hxl) (.inr hxl) _ s5 _ H3 v u (fun σ' H' => σ' = compS M σ (some v) ∧ H' = H3) J5p rv ⟨rfl, rfl⟩) (fun _ s6 hr6 => ?_) fun _ _ z => z.elim)
      obtain ⟨σ6, H6, J6, rfl, rfl⟩ := hr6
      refine wpAny_bind (wpAny_bind (wpAny_mono (he _ _ _ _ _ _ s6 _ H6 _ J6 (hy v H6 yl)) (fun yv s7 hr7 => ?_) fun _ _ z => z.elim))
      obtain ⟨y, H4, J7, ry, hp4, m', hm', w'⟩ := hr7
      refine wpAny_bind (wpAny_mono (mt_append (X := compCx X scope cl x M G2.objs.size s2 H1 fp (X.pn ++ pins)) _ s7 _ H4 (.ref s2.heap.objs.size) [y] (.ref s2.heap.objs.size) [yv] (fun _ H8 => H8 = upd H4 s2.heap.objs.size (.lst (ys ++ [y]))) J7 rfl (.cons ry .nil) ⟨_, ys, y, rfl, rfl, hp4, hz, rfl⟩) (fun _ s8 hr8 => ?_) fun _ _ z => z.elim)
      obtain ⟨_, H8, J8, _, rfl⟩ := hr8
      refine wpAny_pure (wpAny_pure ⟨rfl, m', hm', i + 1, ys ++ [y], _, w', ?_, ?_, ?_⟩)
      · refine (J8.unpinned (pins := [])).weak rfl fun k z ez => ?_
        cases k with
        | zero => cases ez
        | succ k => exact ez
      · exact T.keep _ _ _ t5 fun b hb o e => (J8.pin (b, o) (List.mem_append_right _ (List.mem_append_right _ (mem_pinsAt hb e)))).1
      · intro b hb
        obtain ⟨o, e, _⟩ := T.obj _ _ t5 b hb
        exact (J8.pin (b, o) (List.mem_append_right _ (List.mem_append_right _ (mem_pinsAt hb e)))).2.1
  exact codeAny_compStart_list (loop _) (T.self _ 0 _ _ _ (T.keep 0 _ _ t0 fun b _ o e => keep b o e) (loop _))

theorem pe_comp (hc : X.calm = true) (hclos : closureFor scope X.env = pure cl) (hcap : CapAll X.env cl) (hhas : HasAll cl scope.names) (hix : CapIx X scope cl M) (hk : scope.kind = .function)
    (hnames : ∀ y ∈ scope.names, y.2 = .local → scope.names.lookup y.1 = some .local) (hx : scope.names.lookup x = some .local) (hnd : (compN X x M).Nodup) (hi : PI X (.Name x px) iter wi)
    (he : ∀ C s2 H2 fp pn, PE (compCx X scope cl x M C s2 H2 fp pn) elt te) (hs : ∀ z, foldedSetIterable iter X.env z = pure z := by intro _; rfl) :
    PE X (.ListComp elt [⟨.Name x px, iter, [], 0⟩] scope pos) (tComp M wi te) := by
  intro pins s σ H Q I h
  rw [eval_ListComp]
  refine comp_run hc hclos hcap hhas hix hk hnames hx hnd hi he hs (use := none) I h fun C s2 s4 H1 H2 fp I2 hlt hfp J4 hq => ?_
  obtain ⟨m, hn, _⟩ := J4.loc
  exact ⟨m, hn, fun h' hs' => ⟨.ref s2.heap.objs.size, H2, I2.uncomp (Nat.le_of_lt hlt) hfp J4 hs', rfl, hq⟩⟩
end
/-- over a range, the element leaving the heap as it is -/
theorem comp_range {M : List Nat} {lo : Int} {n : Nat} {te : TE} {σ : St} {H : Hp} {Q : VK} (f : Nat → V) (hn : n ≤ 1000000) (he : ∀ (i : Nat) (H' : Hp) (R : VK), i < n → Same H H' → R (f i) H' → te (compS M σ (some (.int (lo + i)))) H' R)
    (k : ∀ p, H p = none → Q (.ref p) (upd H p (.lst ((List.range n).map f)))) : CompR (Itr lo n) M te σ H Q := by
  intro p np
  refine ⟨fun i m ys H2 => i ≤ n ∧ m = n - i ∧ ys = (List.range i).map f ∧ H2 = upd H p (.lst ys), ⟨n, Nat.zero_le _, rfl, rfl, rfl⟩, ?_⟩
  rintro i m ys H2 ⟨hi, rfl, rfl, rfl⟩
  refine ⟨upd_same, ?_, ?_⟩
  · rw [List.length_map, List.length_range]
    have : (1000000 : Nat) < sizeLine := by decide
    omega
  · by_cases hlt : i < n
    · refine .inr ⟨hlt, ?_⟩
      rintro v H3 ⟨rfl, rfl⟩
      refine he i (upd H p (.lst ((List.range i).map f))) _ hlt (Same.upd np) ⟨upd_same, n - (i + 1), by omega, by omega, rfl, ?_, ?_⟩
      · rw [List.range_succ, List.map_append]
        rfl
      · rw [upd_upd]
    · have : i = n := by omega
      subst this
      exact .inl ⟨Nat.le_refl _, k p np⟩
/-- over a list, the element leaving the heap as it is -/
theorem comp_list {K : PySem.W.Frag} {M : List Nat} {a : Addr} {xs : List V} {te : TE} {σ : St} {H : Hp} {Q : VK} (f : V → V) (hS : SqL K H a xs) (hn : xs.length ≤ 1000000) (he : ∀ (x : V) (H' : Hp) (R : VK), x ∈ xs → Same H H' → R (f x) H' → te (compS M σ (some x)) H' R)
    (k : ∀ p, H p = none → Q (.ref p) (upd H p (.lst (xs.map f)))) : CompR (Itl K a) M te σ H Q := by
  intro p np
  refine ⟨fun i m ys H2 => i ≤ xs.length ∧ m = xs.length - i ∧ ys = (xs.take i).map f ∧ H2 = upd H p (.lst ys), ⟨xs.length, Nat.zero_le _, rfl, rfl, rfl⟩, ?_⟩
  rintro i m ys H2 ⟨hi, rfl, rfl, rfl⟩
  have hS' : SqL K (upd H p (.lst ((xs.take i).map f))) a xs := Same.sql (Same.upd np) hS
  refine ⟨upd_same, ?_, ?_⟩
  · rw [List.length_map, List.length_take]
    have : (1000000 : Nat) < sizeLine := by decide
    omega
  · by_cases hlt : i < xs.length
    · have hx : xs[i]? = some xs[i] := List.getElem?_eq_getElem hlt
      refine .inr ⟨⟨xs, _, hS', hx⟩, ?_⟩
      rintro v H3 ⟨rfl, hv⟩
      have e := hv xs hS'
      rw [hx] at e
      have e' := Option.some.inj e
      subst e'
      refine he _ _ _ (List.getElem_mem hlt) (Same.upd np) ⟨upd_same, xs.length - (i + 1), by omega, by omega, rfl, ?_, ?_⟩
      · rw [List.take_succ, hx, List.map_append]
        rfl
      · rw [upd_upd]
    · have hi' : i = xs.length := by omega
      subst hi'
      refine .inl ⟨⟨xs, hS', Nat.le_refl _⟩, ?_⟩
      rw [List.take_length]
      exact k p np
end L2

set_option Elab.async false
set_option linter.all false
set_option maxRecDepth 100000
set_option maxHeartbeats 4000000
/-! min, max, all of a list; own classes and methods as they are called -/
namespace L2
open PySem PySem.Spec PyProof.Rows

section
variable {X : Cx}
theorem list_ints {pins : List (Addr × Obj)} {σ : St} {H : Hp} {s : Shared} {p : Addr} {ns : List Int} (I : Inv X pins σ H s) (hS : SqL X.K H p (ns.map V.int)) :
    ∃ ts : Array (Int × Tok), s.heap.IsList p (intItems ts) ∧ ns = ts.toList.map (·.1) := by
  obtain ⟨its, rv, ⟨o, n, e1, e2, e3, e4⟩, hz⟩ := I.list hS
  have hi := intsAre_of rv
  obtain ⟨ts, ht⟩ := hi.allInts.items
  refine ⟨ts, ⟨o, e1, e2, n, by rw [← ht]; exact e4⟩, ?_⟩
  have a1 := hi.numsOf
  have a2 := nums_intItems (xs := ts)
  rw [← ht] at a2
  exact a1.symm.trans a2
theorem call_min_list (hc : X.calm = true) : CallR X (.builtin "min") (fun xs H Q => ∃ (p : Addr) (ns : List Int), xs = [.ref p] ∧ SqL X.K H p (ns.map V.int) ∧ 0 < ns.length ∧ ∀ m, m ∈ ns → (∀ a ∈ ns, m ≤ a) → Q (.int m) H) := by
  intro pins s σ H xs us Q I r h
  obtain ⟨p, ns, rfl, hS, hne, q⟩ := h
  obtain ⟨u, rfl, ru⟩ := vals1 r
  cases (show u = Value.ref p from ru)
  obtain ⟨ts, hl, he⟩ := list_ints I hS
  have hsz : ts.size = ns.length := by rw [he, List.length_map, Array.length_toList]
  refine min_intList (I.ok.hd hc) hl (by omega) fun v h' tk hv hk => ?_
  obtain ⟨t, rfl⟩ := intItems_at hv
  obtain ⟨b1, b2⟩ := argBest_lt (numAt ts) (ts.size - 1)
  refine ⟨.int _, H, I.kept hk, ⟨t, rfl⟩, q _ ?_ fun a ha => ?_⟩
  · rw [he, numAt_eq]
    refine getD_mem ?_
    rw [← he, ← hsz]
    omega
  · rw [he] at ha
    obtain ⟨j, hj, rfl⟩ := mem_getD ha
    rw [← he, ← hsz] at hj
    rw [← numAt_eq]
    exact b2 j (by omega)
theorem call_max_list (hc : X.calm = true) : CallR X (.builtin "max") (fun xs H Q => ∃ (p : Addr) (ns : List Int), xs = [.ref p] ∧ SqL X.K H p (ns.map V.int) ∧ 0 < ns.length ∧ ∀ m, m ∈ ns → (∀ a ∈ ns, a ≤ m) → Q (.int m) H) := by
  intro pins s σ H xs us Q I r h
  obtain ⟨p, ns, rfl, hS, hne, q⟩ := h
  obtain ⟨u, rfl, ru⟩ := vals1 r
  cases (show u = Value.ref p from ru)
  obtain ⟨ts, hl, he⟩ := list_ints I hS
  have hsz : ts.size = ns.length := by rw [he, List.length_map, Array.length_toList]
  refine max_intList (I.ok.hd hc) hl (by omega) fun v h' tk hv hk => ?_
  obtain ⟨t, rfl⟩ := intItems_at hv
  obtain ⟨b1, b2⟩ := argBest_gt (numAt ts) (ts.size - 1)
  refine ⟨.int _, H, I.kept hk, ⟨t, rfl⟩, q _ ?_ fun a ha => ?_⟩
  · rw [he, numAt_eq]
    refine getD_mem ?_
    rw [← he, ← hsz]
    omega
  · rw [he] at ha
    obtain ⟨j, hj, rfl⟩ := mem_getD ha
    rw [← he, ← hsz] at hj
    rw [← numAt_eq]
    exact b2 j (by omega)
theorem vals_bls : ∀ {bs : List Bool} {its : List Value}, Vals (bs.map V.bl) its → its = bs.map Value.bool
  | [], _, .nil => rfl
  | b :: bs, _, .cons r t => by
    have e : _ = Value.bool b := r
    rw [List.map_cons, ← vals_bls t, e]
theorem range_all (bs : List Bool) : (List.range bs.length).all (fun i => bs.getD i true) = bs.all id := by
  rw [Bool.eq_iff_iff, List.all_eq_true, List.all_eq_true]
  constructor
  · intro h b hb
    obtain ⟨i, hi, rfl⟩ := List.getElem_of_mem hb
    have := h i (List.mem_range.mpr hi)
    rw [List.getD_eq_getElem?_getD, List.getElem?_eq_getElem hi] at this
    exact this
  · intro h i hi
    have hi' := List.mem_range.mp hi
    rw [List.getD_eq_getElem?_getD, List.getElem?_eq_getElem hi']
    exact h _ (List.getElem_mem hi')
/-- all of a list of bools -/
theorem call_all_list (hc : X.calm = true) : CallR X (.builtin "all") (fun xs H Q => ∃ (p : Addr) (bs : List Bool), xs = [.ref p] ∧ SqL X.K H p (bs.map V.bl) ∧ Q (.bl (bs.all id)) H) := by
  intro pins s σ H xs us Q I r h
  obtain ⟨p, bs, rfl, hS, q⟩ := h
  obtain ⟨u, rfl, ru⟩ := vals1 r
  cases (show u = Value.ref p from ru)
  obtain ⟨its, rv, ⟨o, n, e1, e2, e3, e4⟩, hz⟩ := I.list hS
  have hits := vals_bls rv
  have hl : s.heap.IsList p its.toArray := ⟨o, e1, e2, n, e4⟩
  have hlt : p < s.heap.objs.size := Heap.lt_size e1
  refine call_all_walk (wpAny_pyIter_list hl ?_)
  refine ⟨s.heap.objs.size, _, _, _, _, _, fun i => bs.getD i true, rfl, Walks.list (A := X.A.in1) (I.ok.hd hc) _ p (Nat.ne_of_lt hlt) its.toArray, ⟨⟨_, Heap.get?_push_size _ rfl, rfl, rfl⟩, hl.push _⟩, fun i v s' Q' E' hP hQ => ?_, fun h' tk hk => ?_⟩
  · have hv : its[i]? = some v := by simpa using hP
    rw [hits, List.getElem?_map] at hv
    cases hb : bs[i]? with
    | none => rw [hb] at hv; cases hv
    | some b =>
      rw [hb] at hv
      have ev : Value.bool b = v := Option.some.inj hv
      subst ev
      refine wpAny_truthy_bool ?_
      have e2 : bs.getD i true = b := by rw [List.getD_eq_getElem?_getD, hb]; rfl
      have hQ' : Q' (bs.getD i true) s' := hQ
      rw [e2] at hQ'
      exact hQ'
  · have hlen : its.toArray.size = bs.length := by rw [hits]; simp
    rw [hlen, range_all]
    refine ⟨.bl _, H, I.kept fun b ob e => hk b ob (fun hm => ?_) (Heap.get?_push_of_some _ e), rfl, q⟩
    have z : b = s.heap.objs.size := by simpa using hm
    exact Nat.lt_irrefl _ (z ▸ Heap.lt_size e)
end

/-! ### methods, classes -/
structure MCal (P : Program) (w : World) (K : PySem.W.Frag) (mg : Str → Option Value) (base : Heap) (C : Addr) (m : Str) (k : Nat) (sp : Sp) : Prop where
  ex : ∃ f fd ps, Meth K C m f ∧ FnOk P w K mg base (CXE P w) k f fd ps sp ∧ Binds K fd ps []
structure CCal (P : Program) (w : World) (K : PySem.W.Frag) (mg : Str → Option Value) (base : Heap) (x : Str) (C : Addr) (k : Nat) (sp : Sp) : Prop where
  ex : ∃ f fd ps, mg x = some (.ref C) ∧ Mk K C f ∧ FnOk P w K mg base (CXE P w) k f fd ps sp ∧ Binds K fd ps []
/-- a method of the text -/
structure MethIn (K : PySem.W.Frag) (C : Addr) (m qual : Str) (st : Stmt) : Prop where
  ex : ∃ f fd, PySem.W.findIn K (.ref C) m = some (some (.ref f)) ∧ PySem.W.isFn K (.ref f) = true ∧ Fun K m qual st f fd
theorem meth_mk {K : PySem.W.Frag} {C : Addr} {m qual : Str} {st : Stmt} {f : Addr} {oc : Value} {od an : Option Addr} {osl : Array (Option Value)} {kV doc pm cdv ct : Value} (a : PySem.W.findIn K (.ref C) m = some (some (.ref f))) (i : PySem.W.isFn K (.ref f) = true)
    (l : K.lookup f = some ⟨oc, od, .func (PySem.W.fnOf m qual (defArgs st) (defBody st) (defScope st) .none kV doc pm an cdv ct), osl⟩) (c : PySem.W.codeIn K cdv qual = true) (k : PySem.W.keepIn K (.ref f) = true) : MethIn K C m qual st := ⟨_, _, a, i, fun_mk l c k⟩
def BindOkM (x qual : Str) (st : Stmt) (ps : List Str) : Prop := ∀ (kV doc pm : Value) (an : Option Addr) (cdv ct : Value) (us : List Value), us.length = ps.length → bindArgs (PySem.W.fnOf x qual (defArgs st) (defBody st) (defScope st) .none kV doc pm an cdv ct) ⟨us, []⟩ = pure (ps.zip us)
section
variable {P : Program} {w : World} {K : PySem.W.Frag} {mg : Str → Option Value} {base : Heap} {C : Addr}
theorem MethIn.cal {m qual : Str} {st : Stmt} {ps : List Str} {k : Nat} {sp : Sp} (d : MethIn K C m qual st) (b : BindOkM m qual st ps) (ok : ∀ f fd, Fun K m qual st f fd → FnOk P w K mg base (CXE P w) k f fd ps sp) : MCal P w K mg base C m k sp := by
  obtain ⟨f, fd, a, i, F⟩ := d.ex
  exact ⟨f, fd, ps, ⟨a, i, F.kp⟩, ok f fd F, F.binds b⟩
theorem MethIn.ccal {x qual : Str} {st : Stmt} {ps : List Str} {k : Nat} {sp : Sp} (d : MethIn K C "__init__" qual st) (hm : mg x = some (.ref C)) (mk : PySem.W.makesIn K C = true) (kc : PySem.W.keepIn K (.ref C) = true) (b : BindOkM "__init__" qual st ps)
    (ok : ∀ f fd, Fun K "__init__" qual st f fd → FnOk P w K mg base (CXE P w) k f fd ps sp) : CCal P w K mg base x C k sp := by
  obtain ⟨f, fd, a, i, F⟩ := d.ex
  exact ⟨f, fd, ps, hm, ⟨mk, a, i, kc⟩, ok f fd F, F.binds b⟩
end
section
variable {X : Cx} {C : Addr} {x m : Str} {k : Nat} {sp : Sp} {E : St → XK} {p pos apos : Pos} {e o : Expr} {es : List Expr} {ta : TE} {t : TA}
theorem pe_makeC (c : CCal X.prog X.w X.K X.mg X.base x C k sp) (hr : Room (k + 1) X.A) (hg : Gl X x) (hx : PassE X E)
    (ha : PA X (e :: es) t) (hdb : (x == ("__debug__" : Str)) = false := by decide) (he : starEach (e :: es) X.env = (false, eval e X.env) :: starEach es X.env := by rfl) (hpl : (backTo pos (starEach es X.env)).any (·.1) = false := by rfl) :
    PE X (.Call (.Name x p) (e :: es) [] pos) (tMakeE C sp E t) := by
  obtain ⟨f, fd, ps, hm, M, F, b⟩ := c.ex
  exact pe_makeE M F hr hg hm b hx ha hdb he hpl
theorem pe_methC {pl : Sem Bool} (he : PE X o ta) (cl : Cls X.K C) (c : MCal X.prog X.w X.K X.mg X.base C m k sp) (hr : Room k X.A) (hx : PassE X E) (ha : PA X (e :: es) t)
    (hst : starEach (e :: es) X.env = (false, eval e X.env) :: starEach es X.env := by rfl) (hpl : (backTo pos (starEach es X.env)).any (·.1) = false := by rfl)
    (ht : eval (.Call (.Attribute o m apos) (e :: es) [] pos) X.env = (do
      let ov ← eval o X.env
      standAt apos.atName
      let (f, first) ← holding [ov] (getMethod ov m pl)
      callWith pos f first (backTo pos (starEach (e :: es) X.env)) (backToKw pos (keywordEach [] X.env))) := by rfl) :
    PE X (.Call (.Attribute o m apos) (e :: es) [] pos) (tMethE C m sp E ta t) := by
  obtain ⟨f, fd, ps, hm, F, b⟩ := c.ex
  exact pe_methE he cl hm F hr b hx ha hst hpl ht
theorem pe_meth0C {pl : Sem Bool} (he : PE X o ta) (cl : Cls X.K C) (c : MCal X.prog X.w X.K X.mg X.base C m k sp) (hr : Room k X.A) (hx : PassE X E)
    (ht : eval (.Call (.Attribute o m apos) [] [] pos) X.env = (do
      let ov ← eval o X.env
      standAt apos.atName
      let (f, first) ← holding [ov] (getMethod ov m pl)
      callWith pos f first (backTo pos (starEach [] X.env)) (backToKw pos (keywordEach [] X.env))) := by rfl) :
    PE X (.Call (.Attribute o m apos) [] [] pos) (tMethE C m sp E ta tNil) := by
  obtain ⟨f, fd, ps, hm, F, b⟩ := c.ex
  exact pe_meth0E he cl hm F hr b hx ht
end
end L2

set_option Elab.async false
set_option linter.all false
/-! the bent line over a point -/
namespace L2
open PySem

def hAt (hs : List Int) (k : Int) : Int := hs.getD k.toNat 0
/-- the stretch of a point -/
def kF (hs : List Int) (t b : Int) : Int := if (hs.length : Int) - 1 - 1 < t / b then (hs.length : Int) - 1 - 1 else t / b
/-- the line's height over t / b, times b -/
def lineF (hs : List Int) (t b : Int) : Int := hAt hs (kF hs t b) * b + (hAt hs (kF hs t b + 1) - hAt hs (kF hs t b)) * (t - kF hs t b * b)
theorem kF_rng {hs : List Int} {t b : Int} (hl : 2 ≤ hs.length) (hb : 1 ≤ b) (h0 : 0 ≤ t) : 0 ≤ kF hs t b ∧ kF hs t b < (hs.length : Int) - 1 := by
  have h := Int.ediv_nonneg h0 (show (0 : Int) ≤ b by omega)
  unfold kF
  split <;> omega
theorem kF_scale {hs : List Int} {t b c : Int} (hc : 1 ≤ c) : kF hs (t * c) (b * c) = kF hs t b := by
  unfold kF
  rw [Int.mul_ediv_mul_of_pos_left _ _ (show 0 < c by omega)]
theorem lineF_scale {hs : List Int} {t b c : Int} (hc : 1 ≤ c) : lineF hs (t * c) (b * c) = lineF hs t b * c := by
  unfold lineF
  rw [kF_scale hc]
  generalize hAt hs (kF hs t b) = u
  generalize hAt hs (kF hs t b + 1) = v
  generalize kF hs t b = k
  grind
theorem div_in {k t b : Int} (hb : 1 ≤ b) (h1 : k * b ≤ t) (h2 : t < (k + 1) * b) : t / b = k := by
  have a1 : k ≤ t / b := (Int.le_ediv_iff_mul_le (by omega)).mpr h1
  have a2 : t / b < k + 1 := (Int.ediv_lt_iff_lt_mul (by omega)).mpr h2
  omega
theorem lineF_on {hs : List Int} {k t b : Int} (hk : 0 ≤ k) (hk2 : k < (hs.length : Int) - 1) (hb : 1 ≤ b) (h1 : k * b ≤ t) (h2 : t ≤ (k + 1) * b) :
    lineF hs t b = hAt hs k * b + (hAt hs (k + 1) - hAt hs k) * (t - k * b) := by
  by_cases hlt : t < (k + 1) * b
  · have e := div_in hb h1 hlt
    have ek : kF hs t b = k := by
      unfold kF
      rw [e]
      split <;> omega
    unfold lineF
    rw [ek]
  · have et : t = (k + 1) * b := by omega
    have e : t / b = k + 1 := by
      rw [et]
      exact Int.mul_ediv_cancel _ (by omega)
    by_cases hn : (hs.length : Int) - 1 - 1 < k + 1
    · have ek : kF hs t b = k := by
        unfold kF
        rw [e, if_pos hn]
        omega
      unfold lineF
      rw [ek]
    · have ek : kF hs t b = k + 1 := by
        unfold kF
        rw [e, if_neg hn]
      unfold lineF
      rw [ek, et]
      generalize hAt hs k = u
      generalize hAt hs (k + 1) = v
      generalize hAt hs (k + 1 + 1) = z
      grind
/-- one step: the point, in lowest terms -/
def stepP (hs : List Int) (t b : Int) : Int × Int := lowF (lineF hs t b) b
theorem stepP_low {hs : List Int} {t b : Int} (hb : 1 ≤ b) : stepP hs (lowF t b).1 (lowF t b).2 = stepP hs t b := by
  unfold stepP
  have hg := gOf_pos (t := t) hb
  have e1 : (lowF t b).1 * gOf t b = t := by rw [Int.mul_comm]; exact low_t
  have e2 : (lowF t b).2 * gOf t b = b := by rw [Int.mul_comm]; exact low_b hb
  have h := lineF_scale (hs := hs) (t := (lowF t b).1) (b := (lowF t b).2) hg
  rw [e1, e2] at h
  rw [h]
  conv => rhs; rw [← e2]
  rw [e2]
  have := low_mul (t := lineF hs (lowF t b).1 (lowF t b).2) (b := (lowF t b).2) (low_bot hb) hg
  rw [e2] at this
  exact this.symm
theorem low_neg {t b : Int} (hb : 1 ≤ b) : (lowF t b).1 < 0 ↔ t < 0 := by
  have hg := gOf_pos (t := t) hb
  have e1 : gOf t b * (lowF t b).1 = t := low_t
  constructor
  · intro h
    have := Int.mul_lt_mul_of_pos_left h (show 0 < gOf t b by omega)
    rw [e1, Int.mul_zero] at this
    exact this
  · intro h
    rcases Int.lt_or_le (lowF t b).1 0 with z | z
    · exact z
    · have := Int.mul_le_mul_of_nonneg_left z (show 0 ≤ gOf t b by omega)
      rw [e1, Int.mul_zero] at this
      omega
theorem low_gt {t b n : Int} (hb : 1 ≤ b) : n * (lowF t b).2 < (lowF t b).1 ↔ n * b < t := by
  have hg := gOf_pos (t := t) hb
  have e1 : gOf t b * (lowF t b).1 = t := low_t
  have e2 : gOf t b * (lowF t b).2 = b := low_b hb
  have e3 : gOf t b * (n * (lowF t b).2) = n * b := by
    generalize gOf t b = g at *
    generalize (lowF t b).2 = y at *
    grind
  constructor
  · intro h
    have := Int.mul_lt_mul_of_pos_left h (show 0 < gOf t b by omega)
    rw [e1, e3] at this
    exact this
  · intro h
    rcases Int.lt_or_le (n * (lowF t b).2) (lowF t b).1 with z | z
    · exact z
    · have := Int.mul_le_mul_of_nonneg_left z (show 0 ≤ gOf t b by omega)
      rw [e1, e3] at this
      omega
/-- the told point, brought back to the bottom -/
theorem step_back {N b : Int} (hb : 1 ≤ b) : b % (lowF N b).2 = 0 ∧ (lowF N b).1 * (b / (lowF N b).2) = N := by
  have hy := low_bot (t := N) hb
  have cr := low_cross (t := N) hb
  have hd : (lowF N b).2 ∣ b := ⟨gOf N b, by rw [Int.mul_comm]; exact (low_b hb).symm⟩
  refine ⟨Int.emod_eq_zero_of_dvd hd, ?_⟩
  have e := Int.mul_ediv_cancel' hd
  generalize b / (lowF N b).2 = q at *
  generalize (lowF N b).1 = x at *
  generalize (lowF N b).2 = y at *
  have : y * (x * q - N) = 0 := by grind
  rcases Int.mul_eq_zero.mp this with h | h <;> omega
def stepF (hs : List Int) (t b : Int) : Int := if t / b * b = t then hAt hs (t / b) * b else hAt hs (t / b) * b + (hAt hs (t / b + 1) - hAt hs (t / b)) * (t - t / b * b)
theorem stepF_eq {hs : List Int} {t b : Int} (hl : 2 ≤ hs.length) (hb : 1 ≤ b) (h0 : 0 ≤ t) (h1 : t ≤ ((hs.length : Int) - 1) * b) : stepF hs t b = lineF hs t b := by
  have k0 := Int.ediv_nonneg h0 (show (0 : Int) ≤ b by omega)
  have k1 : t / b * b ≤ t := Int.ediv_mul_le t (by omega)
  have k2 : t < (t / b + 1) * b := by
    have := Int.lt_ediv_add_one_mul_self t (show 0 < b by omega)
    exact this
  unfold stepF
  by_cases hlt : t / b < (hs.length : Int) - 1
  · rw [lineF_on k0 hlt hb k1 (Int.le_of_lt k2)]
    split
    · next e => rw [e]; simp
    · rfl
  · have ge : (hs.length : Int) - 1 ≤ t / b := by omega
    have m1 := Int.mul_le_mul_of_nonneg_right ge (show 0 ≤ b by omega)
    have et : t / b * b = t := by omega
    have ek : t / b = (hs.length : Int) - 1 := by
      have : t / b * b = ((hs.length : Int) - 1) * b := by omega
      exact Int.eq_of_mul_eq_mul_right (by omega) this
    rw [if_pos et]
    have et2 : t = ((hs.length : Int) - 1) * b := by rw [← ek]; exact et.symm
    rw [lineF_on (k := (hs.length : Int) - 1 - 1) (by omega) (by omega) hb (by rw [et2]; exact Int.mul_le_mul_of_nonneg_right (by omega) (by omega)) (by rw [et2]; exact Int.mul_le_mul_of_nonneg_right (by omega) (by omega)), ek]
    have e5 : (hs.length : Int) - 1 - 1 + 1 = (hs.length : Int) - 1 := by omega
    rw [e5, et2]
    generalize hAt hs ((hs.length : Int) - 1) = u
    generalize hAt hs ((hs.length : Int) - 1 - 1) = v
    generalize (hs.length : Int) - 1 = n
    grind
/-- within the reach -/
theorem in_reach {u v b d : Int} (hb : 0 ≤ d) (hd : d ≤ b) : (if v < u then v else u) * b ≤ u * b + (v - u) * d ∧ u * b + (v - u) * d ≤ (if v > u then v else u) * b := by
  by_cases h : v < u
  · rw [if_pos h, if_neg (by omega)]
    have a1 := Int.mul_le_mul_of_nonneg_left hd (show 0 ≤ u - v by omega)
    have a2 := Int.mul_nonneg (show 0 ≤ u - v by omega) hb
    constructor <;> grind
  · rw [if_neg h]
    have a1 := Int.mul_le_mul_of_nonneg_left hd (show 0 ≤ v - u by omega)
    have a2 := Int.mul_nonneg (show 0 ≤ v - u by omega) hb
    by_cases h2 : v > u
    · rw [if_pos h2]
      constructor <;> grind
    · rw [if_neg h2]
      have : v = u := by omega
      subst this
      constructor <;> grind
end L2

set_option Elab.async false
set_option linter.all false
set_option maxRecDepth 100000
set_option maxHeartbeats 4000000
/-! xs[::-1] -/
namespace L2
open PySem PySem.Spec PyProof.Rows
def tRev (K : PySem.W.Frag) (te : TE) (ts : TE) : TE := fun σ H Q => te σ H fun x H1 => ts σ H1 fun y H2 => y = .int (-1) ∧ ∃ a xs, x = .ref a ∧ SqL K H2 a xs ∧ ∀ p, H2 p = none → Q (.ref p) (upd H2 p (.lst xs.reverse))
theorem pe_rev {X : Cx} {e st : Expr} {te ts : TE} {p2 pos : Pos} {ops : Value → Value → List Value} (he : PE X e te) (hs : PE X st ts) (hsub : ∀ ov iv, subscripted (.Slice none none (some st) p2) false ov iv = operate (ops ov iv) (getItem ov iv) := by intros; rfl) : PE X (.Subscript e (.Slice none none (some st) p2) pos) (tRev X.K te ts) := by
  intro pins s σ H Q I h
  refine Subscript_ (thn (he pins s σ H _ I h) fun v s1 ⟨x, H1, I1, r1, q1⟩ => ?_)
  refine wpAny_Slice ?_
  rw [evalPart_none]
  refine wpAny_pure (wpAny_pure ?_)
  rw [evalPart_some]
  refine thn (hs pins s1 σ H1 _ I1 q1) fun vs s3 ⟨y, H3, I3, r3, e3, a, xs, ex, hq, q⟩ => ?_
  subst e3 ex
  cases r1
  obtain ⟨t, rfl⟩ := r3
  have I4 : Inv X pins σ H3 { s3 with heap := s3.heap.push { cls := .type "slice", data := .fields #[.none, .none, .int (-1) t] } } := I3.kept (t' := s3.toks) fun b ob q => Heap.get?_push_of_some _ q
  obtain ⟨its, r, ht, hz⟩ := I4.list hq
  have hlen := r.length
  show wpAny (model X.prog X.w) X.A (subscriptTail e (.Slice none none (some st) p2) (.ref a) (.ref s3.heap.objs.size)) (EP X pins σ Q) X.xe { s3 with heap := s3.heap.push { cls := .type "slice", data := .fields #[.none, .none, .int (-1) t] } }
  refine tail_any (ops := ops (.ref a) (.ref s3.heap.objs.size)) ht.isList.typeIs slot_list_getitem.lookup ?_ (hsub _ _)
  refine wpAny_getItem_list_slice ht.isList (Heap.IsSliceOf.new ..) .none .none (.int (-1) t) (by simp) ?_ (by rw [List.size_toArray] <;> omega)
  rw [PySem.W.krv_pick]
  refine ⟨.ref _, _, I4.laid (t' := s3.toks) (o := .lst xs.reverse) (fun b ob q => Heap.get?_push_of_some _ q) (Nat.le_refl _) ?_, rfl, q _ (I4.hok.fresh (Nat.le_refl _))⟩
  exact ⟨by rw [List.length_reverse]; exact hz, _, 0, r.reverse, Heap.get?_push_size _ rfl⟩
end L2

set_option Elab.async false
set_option linter.all false
set_option maxRecDepth 100000
set_option maxHeartbeats 4000000
namespace L2
open PySem PySem.Spec PyProof.Rows

/-! ### lists of pairs as tables -/
section
variable {κ : Type} [DecidableEq κ]
def valV (kvs : List (κ × V)) (k : κ) : Option V := (kvs.find? fun kv => decide (kv.1 = k)).map (·.2)
/-- in its place, or at the end -/
def putK (kvs : List (κ × V)) (k : κ) (v : V) : List (κ × V) :=
  if (kvs.any fun kv => decide (kv.1 = k)) = true then kvs.map (fun kv => if kv.1 = k then (kv.1, v) else kv) else kvs ++ [(k, v)]
theorem valV_pos {p : κ × V} {r : List (κ × V)} {k : κ} (e : p.1 = k) : valV (p :: r) k = some p.2 := by simp [valV, List.find?_cons, e]
theorem valV_neg {p : κ × V} {r : List (κ × V)} {k : κ} (e : ¬ p.1 = k) : valV (p :: r) k = valV r k := by simp [valV, List.find?_cons, e]
theorem valV_any (k : κ) : ∀ kvs : List (κ × V), (kvs.any fun kv => decide (kv.1 = k)) = (valV kvs k).isSome
  | [] => rfl
  | p :: r => by
    rw [List.any_cons]
    by_cases e : p.1 = k
    · simp only [valV_pos e, decide_eq_true e, Bool.true_or, Option.isSome_some]
    · rw [valV_neg e, decide_eq_false e, Bool.false_or]; exact valV_any k r
theorem valV_snoc (k j : κ) (y : V) : ∀ kvs : List (κ × V), valV kvs k = none → valV (kvs ++ [(k, y)]) j = if j = k then some y else valV kvs j
  | [], _ => by
    by_cases e : k = j
    · rw [if_pos e.symm]; exact valV_pos (p := (k, y)) e
    · rw [if_neg (fun z => e z.symm)]; exact valV_neg (p := (k, y)) e
  | p :: r, hn => by
    rw [List.cons_append]
    have hk : ¬ p.1 = k := fun z => by rw [valV_pos z] at hn; cases hn
    rw [valV_neg hk] at hn
    have ih := valV_snoc k j y r hn
    by_cases e : p.1 = j
    · rw [valV_pos e, valV_pos e, if_neg (fun z => hk (e.trans z))]
    · rw [valV_neg e, valV_neg e, ih]
theorem length_putK (kvs : List (κ × V)) (k : κ) (v : V) : (putK kvs k v).length ≤ kvs.length + 1 := by
  unfold putK
  split
  · rw [List.length_map]; omega
  · rw [List.length_append, List.length_cons, List.length_nil]; omega
theorem putK_new {kvs : List (κ × V)} {k : κ} (v : V) (h : valV kvs k = none) : putK kvs k v = kvs ++ [(k, v)] := by
  unfold putK
  rw [valV_any, h]
  exact if_neg (by decide)

theorem RelO.isSome_eq {o : Option V} {u : Option Value} (r : RelO o u) : o.isSome = u.isSome := by
  cases o with
  | none => cases u with
    | none => rfl
    | some _ => exact (show False from r).elim
  | some _ => cases u with
    | none => exact (show False from r).elim
    | some _ => rfl
/-- raw tables of the same keys -/
theorem KV.val {kvs : List (κ × V)} {vs : List (κ × Value)} (r : KV kvs vs) (k : κ) : RelO (valV kvs k) (valueAt vs k) := by
  unfold KV at r
  induction r with
  | nil => exact True.intro
  | @cons p q ps qs h t ih =>
    obtain ⟨h1, h2⟩ := h
    by_cases e : p.1 = k
    · have e' : q.1 = k := h1.symm.trans e
      have b : valueAt (q :: qs) k = some q.2 := by simp [valueAt, List.find?_cons, e']
      rw [valV_pos e, b]; exact h2
    · have e' : ¬ q.1 = k := fun z => e (h1.trans z)
      have b : valueAt (q :: qs) k = valueAt qs k := by simp [valueAt, List.find?_cons, e']
      rw [valV_neg e, b]; exact ih
theorem KV.any {kvs : List (κ × V)} {vs : List (κ × Value)} (r : KV kvs vs) (k : κ) : (kvs.any fun kv => decide (kv.1 = k)) = vs.any fun kv => decide (kv.1 = k) := by
  unfold KV at r
  induction r with
  | nil => rfl
  | cons h t ih => rw [List.any_cons, List.any_cons, ih, h.1]
theorem KV.repl {kvs : List (κ × V)} {vs : List (κ × Value)} (r : KV kvs vs) (k : κ) {y : V} {u : Value} (ry : RelV y u) :
    KV (kvs.map fun kv => if kv.1 = k then (kv.1, y) else kv) (vs.map fun kv => if kv.1 = k then (kv.1, u) else kv) := by
  unfold KV at r ⊢
  induction r with
  | nil => exact .nil
  | @cons p q ps qs h t ih =>
    rw [List.map_cons, List.map_cons]
    refine .cons ?_ ih
    obtain ⟨h1, h2⟩ := h
    by_cases e : p.1 = k
    · rw [if_pos e, if_pos (h1.symm.trans e)]; exact ⟨h1, ry⟩
    · rw [if_neg e, if_neg (fun z => e (h1.trans z))]; exact ⟨h1, h2⟩
theorem KV.put {kvs : List (κ × V)} {vs : List (κ × Value)} (r : KV kvs vs) (k : κ) {y : V} {u : Value} (ry : RelV y u) : KV (putK kvs k y) (stored vs k u) := by
  unfold putK stored
  rw [r.any k]
  by_cases e : (vs.any fun kv => decide (kv.1 = k)) = true
  · rw [if_pos e, if_pos e]; exact r.repl k ry
  · rw [if_neg e, if_neg e]; exact Paired.snoc r ⟨rfl, ry⟩
theorem KV.length {kvs : List (κ × V)} {vs : List (κ × Value)} (r : KV kvs vs) : kvs.length = vs.length := Paired.length r
end


/-! ### a tracked dict, its keys ints and texts or tuples of these -/
theorem kV_is {P : Program} {w : World} {k : Key} {u : Value} (r : RelV (kV k) u) : (mixKind P w).is k u = true := by
  cases k with
  | inl i => obtain ⟨t, e⟩ := (show ∃ t, u = Value.int i t from r); subst e; exact mixKind_int P w i t
  | inr x => obtain ⟨t, e⟩ := (show ∃ t, u = Value.str x t from r); subst e; exact mixKind_str P w x t
theorem items_are {P : Program} {w : World} : ∀ {ks : List Key} {us : List Value}, Vals (ks.map kV) us → ItemsAre (mixKind P w) ks us
  | [], _, r => by rw [List.map_nil] at r; cases r; exact .nil
  | k :: ks, _, r => by
    rw [List.map_cons] at r
    cases r with
    | cons h t => exact .cons (kV_is h) (items_are t)

/-- raw entries of a dict with tuple keys -/
abbrev KT (H : Hp) : List (List Key × V) → List (List Key × Addr × Value) → Prop := Paired fun p q => p.1 = q.1 ∧ H q.2.1 = some (.tup (p.1.map kV)) ∧ RelV p.2 q.2.2
theorem KT.val {H : Hp} {kvs : List (List Key × V)} {xs : List (List Key × Addr × Value)} (r : KT H kvs xs) (k : List Key) : RelO (valV kvs k) ((atKey xs k).map (·.2)) := by
  induction r with
  | nil => exact True.intro
  | @cons p q ps qs h t ih =>
    obtain ⟨h1, _, h2⟩ := h
    by_cases e : p.1 = k
    · have e' : q.1 = k := h1.symm.trans e
      have b : atKey (q :: qs) k = some q.2 := by simp [atKey, List.find?_cons, e']
      rw [valV_pos e, b]; exact h2
    · have e' : ¬ q.1 = k := fun z => e (h1.trans z)
      have b : atKey (q :: qs) k = atKey qs k := by simp [atKey, List.find?_cons, e']
      rw [valV_neg e, b]; exact ih
theorem KT.repl {H : Hp} {kvs : List (List Key × V)} {xs : List (List Key × Addr × Value)} (r : KT H kvs xs) (k : List Key) {y : V} {u : Value} (ry : RelV y u) :
    KT H (kvs.map fun kv => if kv.1 = k then (kv.1, y) else kv) (xs.map (putAt k u)) := by
  induction r with
  | nil => exact .nil
  | @cons p q ps qs h t ih =>
    rw [List.map_cons, List.map_cons]
    refine .cons ?_ ih
    obtain ⟨h1, h2, h3⟩ := h
    unfold putAt
    by_cases e : p.1 = k
    · rw [if_pos e, if_pos (h1.symm.trans e)]; exact ⟨h1, h2, ry⟩
    · rw [if_neg e, if_neg (fun z => e (h1.trans z))]; exact ⟨h1, h2, h3⟩
theorem KT.put {H : Hp} {kvs : List (List Key × V)} {xs : List (List Key × Addr × Value)} (r : KT H kvs xs) (k : List Key) {b : Addr} {y : V} {u : Value} (hb : H b = some (.tup (k.map kV))) (ry : RelV y u) :
    KT H (putK kvs k y) (storedH xs k b u) := by
  have e : (kvs.any fun kv => decide (kv.1 = k)) = (atKey xs k).isSome := by
    rw [valV_any, (r.val k).isSome_eq, Option.isSome_map]
  unfold putK storedH
  rw [e]
  by_cases q : (atKey xs k).isSome = true
  · rw [if_pos q, if_pos q]; exact r.repl k ry
  · rw [if_neg q, if_neg q]; exact Paired.snoc r ⟨rfl, hb, ry⟩
theorem KT.keeps {H H' : Hp} {kvs : List (List Key × V)} {xs : List (List Key × Addr × Value)} (r : KT H kvs xs) (ht : ∀ b ys, H b = some (.tup ys) → H' b = some (.tup ys)) : KT H' kvs xs :=
  Paired.mapP r fun _ _ z => ⟨z.1, ht _ _ z.2.1, z.2.2⟩

section
variable {P : Program} {w : World} {H : Hp} {h : Heap} {a : Addr}
theorem rd_of {u : HO} (ok : HOk P w H h) (e : Rd H a u) : ObjOk P w H h a u := e.ok ok
theorem dk_rd {kvs : List (Key × V)} (ok : HOk P w H h) (e : Rd H a (.dK kvs)) : kvs.length ≤ sizeLine ∧ (a == sysModules) = false ∧ ∃ vs, KV kvs vs ∧ h.DictOf (mixKind P w) a vs :=
  show ObjOk P w H h a (.dK kvs) from rd_of ok e
theorem dk_of {kvs : List (Key × V)} (ok : HOk P w H h) (e : H a = some (.dK kvs)) : kvs.length ≤ sizeLine ∧ (a == sysModules) = false ∧ ∃ vs, KV kvs vs ∧ h.DictOf (mixKind P w) a vs := dk_rd ok (.inl e)
/-- a tracked tuple of ints and texts is a key -/
theorem key_of {ks : List Key} (ok : HOk P w H h) (e : H a = some (.tup (ks.map kV))) : (tupleKind (mixKind P w)).is h ks a := by
  obtain ⟨_, its, r, o, h1, h2, n, h3⟩ := (show ObjOk P w H h a (.tup (ks.map kV)) from ok a _ e)
  exact ⟨o, its.toArray, n, h1, h2, h3, by simpa using items_are r⟩
theorem dt_rd {kvs : List (List Key × V)} (ok : HOk P w H h) (e : Rd H a (.dT kvs)) : kvs.length ≤ sizeLine ∧ (a == sysModules) = false ∧
    ∃ xs, KT H kvs xs ∧ h.DictOfH (tupleKind (mixKind P w)) a xs := by
  obtain ⟨z, y, xs, r, o, es, ep, h1, h2, h3, h4, h5⟩ := (show ObjOk P w H h a (.dT kvs) from rd_of ok e)
  refine ⟨z, y, xs, r, o, es, ep, h1, h2, h3, h4, fun x hx => ?_, h5⟩
  have all : ∀ {l : List (List Key × V)} {m : List (List Key × Addr × Value)}, KT H l m → ∀ x ∈ m, (tupleKind (mixKind P w)).is h x.1 x.2.1 := by
    intro l m q
    induction q with
    | nil => intro x hx; exact nomatch hx
    | @cons p q ps qs hq t ih =>
      intro x hx
      rcases List.mem_cons.mp hx with e | hx
      · subst e
        exact key_of ok (by rw [← hq.1]; exact hq.2.1)
      · exact ih x hx
  exact all r x hx
theorem dt_of {kvs : List (List Key × V)} (ok : HOk P w H h) (e : H a = some (.dT kvs)) : kvs.length ≤ sizeLine ∧ (a == sysModules) = false ∧
    ∃ xs, KT H kvs xs ∧ h.DictOfH (tupleKind (mixKind P w)) a xs := dt_rd ok (.inl e)
end

/-- what the dict at a holds at the key y -/
def DGet (H : Hp) (a : Addr) (y : V) (r : Option V) : Prop :=
  (∃ kvs k, Rd H a (.dK kvs) ∧ y = kV k ∧ r = valV kvs k) ∨ ∃ kvs k b, Rd H a (.dT kvs) ∧ y = .ref b ∧ H b = some (.tup (k.map kV)) ∧ r = valV kvs k
/-- the heap behind a[y] = v -/
def DPut (H : Hp) (a : Addr) (y v : V) (H' : Hp) : Prop :=
  (∃ kvs k, H a = some (.dK kvs) ∧ y = kV k ∧ kvs.length < sizeLine ∧ H' = upd H a (.dK (putK kvs k v))) ∨
  ∃ kvs k b, H a = some (.dT kvs) ∧ y = .ref b ∧ H b = some (.tup (k.map kV)) ∧ kvs.length < sizeLine ∧ H' = upd H a (.dT (putK kvs k v))
theorem DGet.t {H : Hp} {a b : Addr} {kvs : List (List Key × V)} {k : List Key} (e : H a = some (.dT kvs)) (eb : H b = some (.tup (k.map kV))) : DGet H a (.ref b) (valV kvs k) := .inr ⟨kvs, k, b, .inl e, rfl, eb, rfl⟩
theorem DPut.t {H : Hp} {a b : Addr} {kvs : List (List Key × V)} {k : List Key} {v : V} (e : H a = some (.dT kvs)) (eb : H b = some (.tup (k.map kV))) (hl : kvs.length < sizeLine) :
    DPut H a (.ref b) v (upd H a (.dT (putK kvs k v))) := .inr ⟨kvs, k, b, e, rfl, eb, hl, rfl⟩


section
variable {X : Cx} {pins : List (Addr × Obj)} {σ : St} {H : Hp} {s : Shared} {a : Addr} {y v : V} {u r : Value} {o : Option V} {A : Around} {E : Value → Shared → Prop}

theorem Inv.big (I : Inv X pins σ H s) : sysModules < s.heap.objs.size := by
  have h : mainGlobals < s.heap.objs.size := (I.mod.glob.keeps I.bk).lt
  exact Nat.lt_trans (by decide) h

/-- d[y], there -/
theorem d_getItem {Q : Value → Shared → Prop} (hu : A.units + 1 < cLine) (I : Inv X pins σ H s) (g : DGet H a y (some v)) (ry : RelV y u) (h : ∀ w' s', Inv X pins σ H s' → RelV v w' → Q w' s') :
    wpAny (model X.prog X.w) A (getItem (.ref a) u) Q E s := by
  rcases g with ⟨kvs, k, e, ey, l⟩ | ⟨kvs, k, b, e, ey, eb, l⟩
  · subst ey
    obtain ⟨z, hd, vs, rel, dd⟩ := dk_rd I.hok e
    obtain ⟨w', hw, rw'⟩ := RelO.some_of (v := v) (o := valueAt vs k) (by rw [l]; exact rel.val k)
    exact wpAny_getItem_of (kV_is ry) dd.mapOf hw (h w' _ (I.tok _) rw')
  · subst ey
    cases (show u = Value.ref b from ry)
    obtain ⟨z, hd, xs, rel, dd⟩ := dt_rd I.hok e
    obtain ⟨w', hw, rw'⟩ := RelO.some_of (v := v) (o := (atKey xs k).map (·.2)) (by rw [l]; exact rel.val k)
    obtain ⟨p, hp, hp2⟩ := Option.map_eq_some_iff.mp hw
    refine wpAny_getItem_heap (tupleKind_room_in1 hu) (key_of I.hok eb) dd hp ?_
    rw [hp2]
    exact h w' _ (I.tok _) rw'
theorem d_notIn {Q : Value → Shared → Prop} (hu : A.units + 1 < cLine) (I : Inv X pins σ H s) (g : DGet H a y o) (ry : RelV y u) (h : ∀ s', Inv X pins σ H s' → Q (.bool (!o.isSome)) s') :
    wpAny (model X.prog X.w) A (compareOp .NotIn u (.ref a)) Q E s := by
  rcases g with ⟨kvs, k, e, ey, l⟩ | ⟨kvs, k, b, e, ey, eb, l⟩
  · subst ey
    obtain ⟨z, hd, vs, rel, dd⟩ := dk_rd I.hok e
    refine wpAny_notIn_of (kV_is ry) hd dd.mapOf ?_
    rw [← (rel.val k).isSome_eq, ← l]
    exact h _ (I.tok _)
  · subst ey
    cases (show u = Value.ref b from ry)
    obtain ⟨z, hd, xs, rel, dd⟩ := dt_rd I.hok e
    refine wpAny_notIn_heap (tupleKind_room_in1 hu) (key_of I.hok eb) hd dd ?_
    have q := (rel.val k).isSome_eq
    rw [Option.isSome_map] at q
    rw [← q, ← l]
    exact h _ (I.tok _)
/-- a dict's object is replaced -/
theorem d_write {h' : Heap} {t' : Nat} {ob : HO} (I : Inv X pins σ H s) (mu : Mut (H a)) (hs : Heap.SameBut a s.heap h') (he : ∃ q, h'.get? a = some q) (new : ObjOk X.prog X.w (upd H a ob) h' a ob) :
    Inv X pins σ (upd H a ob) { s with heap := h', toks := t' } :=
  I.write (x := a) (e := a) mu (.inl rfl) (fun b q hb z => (hs.2 b hb).trans z) he new
theorem dk_new {P : Program} {w : World} {H' : Hp} {h' : Heap} {kvs : List (Key × V)} {vs : List (Key × Value)} (z : kvs.length ≤ sizeLine) (hd : (a == sysModules) = false) (rel : KV kvs vs) (dd : h'.DictOf (mixKind P w) a vs) :
    ObjOk P w H' h' a (.dK kvs) := ⟨z, hd, vs, rel, dd⟩
/-- d[y] = v -/
theorem d_setItem {H' : Hp} {Q : Unit → Shared → Prop} (hu : A.units + 1 < cLine) (I : Inv X pins σ H s) (g : DPut H a y v H') (ry : RelV y u) (rv : RelV v r) (h : ∀ s', Inv X pins σ H' s' → Q () s') :
    wpAny (model X.prog X.w) A (setItem (.ref a) u r) Q E s := by
  rcases g with ⟨kvs, k, e, ey, l, eH⟩ | ⟨kvs, k, b, e, ey, eb, l, eH⟩
  · subst ey eH
    obtain ⟨z, hd, vs, rel, dd⟩ := dk_of I.hok e
    have hz : vs.length ≤ sizeLine := by rw [← rel.length]; exact z
    have hl : (putK kvs k v).length ≤ sizeLine := by have := length_putK kvs k v; omega
    refine wpAny_setItem_pairs (hsz := hz) (kV_is ry) dd fun h' dd' hs => h _ ?_
    have he : ∃ q, h'.get? a = some q := let ⟨q, _, _, hq, _⟩ := dd'; ⟨q, hq⟩
    exact d_write I (by rw [e]; exact True.intro) hs he (dk_new hl hd (rel.put k rv) dd')
  · subst ey eH
    cases (show u = Value.ref b from ry)
    obtain ⟨z, hd, xs, rel, dd⟩ := dt_of I.hok e
    have hz : xs.length ≤ sizeLine := by rw [← Paired.length rel]; exact z
    have hl : (putK kvs k v).length ≤ sizeLine := by have := length_putK kvs k v; omega
    refine wpAny_setItem_heap (hsz := hz) (tupleKind_room_in1 hu) (key_of I.hok eb) dd fun h' dd' hs => h _ ?_
    obtain ⟨q, es, ep, hq, h2, h3, h4, _, h5⟩ := dd'
    refine d_write I (by rw [e]; exact True.intro) hs ⟨q, hq⟩ ⟨hl, hd, _, (rel.put k eb rv).keeps fun c ys ec => ?_, q, es, ep, hq, h2, h3, h4, h5⟩
    rw [upd_ne (ne_of ec e (fun z => nomatch z))]
    exact ec
end

section
variable {X : Cx} {pins : List (Addr × Obj)} {σ : St} {H : Hp} {s : Shared} {a : Addr} {kvs : List (Key × V)} {k : Key} {u : Value} {A : Around} {E : Value → Shared → Prop}
end


/-! ### readings and rules -/
/-- the element of a subscription, not a slice -/
def NoSl (i : Expr) : Prop := ∀ ov iv, subscripted i false ov iv = operate [ov, iv] (getItem ov iv)
theorem subD_of {prog : Program} {w : World} {A : Around} {E : Value → Shared → Prop} {s : Shared} {env : Env} {value slice : Expr} {pos : Pos} {T id : String} {Q : Value → Shared → Prop}
    (hl : typeLookup (.type T) "__getitem__" = pure (some (.builtin id))) (hs : NoSl slice)
    (h : wpAny (model prog w) A (eval value env) (fun o s₁ => wpAny (model prog w) A (eval slice env) (fun i s₂ => s₂.TypeIs o T ∧ wpAny (model prog w) A (getItem o i) Q E s₂) E s₁) E s) :
    wpAny (model prog w) A (eval (.Subscript value slice pos) env) Q E s := by
  refine Subscript_ (wpAny_mono h (fun o s₁ h₁ => wpAny_mono h₁ (fun i s₂ h₂ => ?_) fun _ _ x => x) fun _ _ x => x)
  obtain ⟨hT, h₂⟩ := h₂
  unfold subscriptTail
  refine wpAny_bind ?_
  rw [getitemInPython_of_ne hT.not_modules]
  refine wpAny_bind (wpAny_specialOf hT hl ?_)
  have fin : wpAny (model prog w) A (subscripted slice false o i) (fun r s₃ => wpAny (model prog w) A (letTemporaryGo value o r >>= fun _ => pure r) Q E s₃) E s₂ := by
    rw [hs o i]
    exact wpAny_operating (wpAny_mono h₂ (fun r s₃ h₃ => wpAny_bind (wpAny_letTemporaryGo (wpAny_pure h₃))) fun _ _ x => x)
  first
    | exact wpAny_pure (wpAny_bind fin)
    | exact wpAny_bind (wpAny_pure (wpAny_bind fin))
    | exact wpAny_bind fin

theorem dict_typeIs {X : Cx} {pins : List (Addr × Obj)} {σ : St} {H : Hp} {s : Shared} {a : Addr} {y : V} {o : Option V} (I : Inv X pins σ H s) (g : DGet H a y o) : s.TypeIs (.ref a) "dict" := by
  rcases g with ⟨kvs, k, e, _, _⟩ | ⟨kvs, k, b, e, _, _, _⟩
  · obtain ⟨_, _, vs, _, dd⟩ := dk_rd I.hok e
    exact dd.typeIs
  · obtain ⟨_, _, xs, _, dd⟩ := dt_rd I.hok e
    exact dd.typeIs
/-- d[y] -/
def tDGet (td ty : TE) : TE := fun σ H Q => td σ H fun x H1 => ty σ H1 fun y H2 => ∃ a v, x = .ref a ∧ DGet H2 a y (some v) ∧ Q v H2
def tDNotIn (ty td : TE) : TE := fun σ H Q => ty σ H fun y H1 => td σ H1 fun x H2 => ∃ a o, x = .ref a ∧ DGet H2 a y o ∧ Q (.bl (!o.isSome)) H2
/-- d[y] = v -/
def sDPut (td ty tv : TE) : TS := fun D σ H => tv σ H fun v H1 => td σ H1 fun x H2 => ty σ H2 fun y H3 => ∃ a H4, x = .ref a ∧ DPut H3 a y v H4 ∧ D.nx σ H4
section
variable {X : Cx} {o i e value : Expr} {pos pos' tpos : Pos} {td ty tv : TE}
theorem pe_dget (hu : X.A.units + 1 < cLine) (ho : PE X o td) (hi : PE X i ty) (hs : NoSl i) : PE X (.Subscript o i pos) (tDGet td ty) := by
  intro pins s σ H Q I h
  refine subD_of PySem.F.slot_dict_getitem.lookup hs (thn (ho pins s σ H _ I h) fun u s1 ⟨x, H1, I1, rx, q1⟩ => thn (hi pins s1 σ H1 _ I1 q1) fun iv s2 ⟨y, H2, I2, ry, a, v, ex, g, q2⟩ => ?_)
  subst ex
  obtain rfl : u = Value.ref a := rx
  exact ⟨dict_typeIs I2 g, d_getItem hu I2 g ry fun w' s3 I3 rw' => ⟨v, H2, I3, rw', q2⟩⟩
theorem pc_dnotin (hu : X.A.units + 1 < cLine) (hi : PE X i ty) (ho : PE X o td) : PC X .NotIn i o (tDNotIn ty td) := by
  intro pins s σ H Q I h
  refine thn (hi pins s σ H _ I h) fun iv s1 ⟨y, H1, I1, ry, q1⟩ => thn (ho pins s1 σ H1 _ I1 q1) fun u s2 ⟨x, H2, I2, rx, a, ov, ex, g, q2⟩ => ?_
  subst ex
  obtain rfl : u = Value.ref a := rx
  exact d_notIn hu I2 g ry fun s3 I3 => ⟨.bl (!ov.isSome), H2, I3, rfl, q2⟩
theorem ps_dput (hu : X.A.units + 1 < cLine) (ho : PE X o td) (hi : PE X i ty) (hv : PE X value tv) (hs : swapsWith value (some (.Subscript o i pos')) pos.line X.env = pure false) :
    PS X (.Assign [.Subscript o i pos'] value pos) (sDPut td ty tv) := by
  intro pins s σ H D I h
  refine wpAny_Assign_Subscript (thn (hv pins s σ H _ I h) fun r s1 ⟨v, H1, I1, rv, q1⟩ => thn (ho pins s1 σ H1 _ I1 q1) fun u s2 ⟨x, H2, I2, rx, q2⟩ => thn (hi pins s2 σ H2 _ I2 q2) fun iv s3 ⟨y, H3, I3, ry, a, H4, ex, g, q3⟩ => ?_) hs
  subst ex
  obtain rfl : u = Value.ref a := rx
  exact d_setItem hu I3 g ry rv fun s4 I4 => ⟨σ, H4, I4, q3⟩
end


/-! ### displays -/
theorem dt_empty {P : Program} {w : World} {H : Hp} (h : Heap) (hb : sysModules < h.objs.size) : ObjOk P w H (h.push { cls := .type "dict", data := .dict #[] }) h.objs.size (.dT []) :=
  ⟨Nat.zero_le _, beq_eq_false_iff_ne.mpr (Ne.symm (Nat.ne_of_lt hb)), [], .nil, _, #[], 0, Heap.get?_push_size _ rfl, ⟨rfl, rfl, rfl⟩, rfl, rfl, List.nodup_nil⟩
def tDNewT : TE := fun _ H Q => ∀ p, H p = none → Q (.ref p) (upd H p (.dT []))
section
variable {X : Cx} {pos : Pos}
theorem pe_dnewT : PE X (.Dict [] [] pos) tDNewT := fun pins s σ H Q I h =>
  wpAny_Dict_empty ⟨.ref s.heap.objs.size, _, I.laid (a := s.heap.objs.size) (o := .dT []) (t' := s.toks) (fun _ _ q => Heap.get?_push_of_some _ q) (Nat.le_refl _) (dt_empty s.heap I.big), rfl, h _ (I.hok.fresh (Nat.le_refl _))⟩
end

end L2

set_option Elab.async false
set_option linter.all false
set_option maxRecDepth 100000
set_option maxHeartbeats 4000000
/-! a dict as it lies: its size, its keys as a list -/
namespace L2
open PySem PySem.Spec PyProof.Rows PySem.W
/-- the very entries of the dict at d -/
def RawD (h : Heap) (d : Addr) (es : Array DictEntry) (ep : Nat) : Prop := ∃ o, h.get? d = some o ∧ o.ExactDict ∧ o.data = .dict es ep
section
variable {prog : Program} {w : World} {A : Around} {E : Value → Shared → Prop} {s : Shared} {d : Addr} {es : Array DictEntry} {ep : Nat}
theorem RawD.ty {s : Shared} (x : RawD s.heap d es ep) : s.TypeIs (.ref d) "dict" := let ⟨o, ho, hc, _⟩ := x; ⟨o, ho, hc.1⟩
theorem RawD.lt {h : Heap} (x : RawD h d es ep) : d < h.objs.size := let ⟨_, ho, _⟩ := x; Heap.lt_size ho
theorem RawD.at {h h' : Heap} (x : RawD h d es ep) (k : ∀ o, h.get? d = some o → h'.get? d = some o) : RawD h' d es ep := let ⟨o, ho, r⟩ := x; ⟨o, k o ho, r⟩
theorem raw_iter {Q : Value → Shared → Prop} (hd : (d == sysModules) = false) (hm : RawD s.heap d es ep)
    (hQ : Q (.ref s.heap.objs.size) { s with heap := s.heap.push { cls := .type "dict_keyiterator", data := .fields #[.ref d, .int 0 0, .int es.size 0, .int ep 0] } }) : wpAny (model prog w) A (pyIter (.ref d)) Q E s := by
  obtain ⟨o, ho, hc, hdat⟩ := id hm
  (refine wpAny_pyIter_slot hm.ty F.slot_dict_iter (wpAny_call_entry F.slot_dict_iter hm.ty F.entry_dict_iter ?_ (F.args_dict_iter_1 _)) ; unfold Builtin.«dict.__iter__» ; refine wpAny_bind ?_ ; unfold Builtin.Dict.dictSlotNone ; refine wpAny_bind (wpAny_notOrdered_dict hm.ty ?_))
  (show wpAny _ _ (pure (Value.ref d)) _ _ s ; refine wpAny_pure ?_ ; show wpAny _ _ (Builtin.Dict.showsAll d >>= _) _ _ s ; unfold Builtin.Dict.showsAll ; rw [if_neg (by rw [hd]; exact Bool.false_ne_true)])
  (refine wpAny_bind (wpAny_pure ?_) ; refine wpAny_bind (wpAny_dictEntries ho hdat ?_) ; refine wpAny_bind (wpAny_dictEpoch ho hdat ?_))
  refine wpAny_bind (wpAny_newObj_type (wpAny_pure ⟨_, rfl, "dict_keyiterator", _, ⟨_, Heap.get?_push_size _ rfl, rfl⟩, F.slot_dict_keyiterator_next.lookup, ?_⟩)) ; simpa [rawInt] using hQ
theorem raw_item {it : Addr} {i : Nat} {e : DictEntry} {Q : Option Value → Shared → Prop} (hit : s.heap.IsKeyIter it d i es.size ep) (hm : RawD s.heap d es ep) (hx : es[i]? = some e)
    (hQ : ∀ h', h'.IsKeyIter it d (i + 1) es.size ep → Heap.SameBut it s.heap h' → Q (some e.key) { s with heap := h' }) : wpAny (model prog w) A (pyNext (.ref it)) Q E s := by
  obtain ⟨o, ho, hc, hd⟩ := id hit ; obtain ⟨od, hod, hcd, hdd⟩ := id hm
  (unfold pyNext ; refine wpAny_bind (wpAny_attempt (wpAny_callSpecial?_slot (name := Str.ofString "__next__") hit.typeIs F.slot_dict_keyiterator_next (wpAny_call_entry F.slot_dict_keyiterator_next hit.typeIs F.entry_dict_keyiterator_next ?_ (F.args_dict_keyiterator_next_1 _)))) ; refine wpAny_bind (wpAny_pure ?_) ; refine wpAny_bind ?_ ; refine wpAny_bind ?_)
  ((first | refine wpAny_bind (wpAny_typeNameOfWhole_keyiter hit.typeIs (wpAny_pure ?_)) | refine wpAny_bind (wpAny_typeNameOf_keyiter hit.typeIs (wpAny_pure ?_))) ; refine wpAny_bind (wpAny_fieldsOf ho hd ?_) ; simp only [show Builtin.Dict_items.ownsTuple "dict_keyiterator" = false by decide, Bool.false_eq_true, if_false] ; show wpAny _ _ (if (Value.ref d == Value.none) = true then _ else _) _ _ s ; rw [if_neg (show ¬ ((Value.ref d == Value.none) = true) from Bool.false_ne_true)] ; refine wpAny_bind (wpAny_pure ?_) ; refine wpAny_bind (wpAny_dictEntries hod hdd ?_) ; rw [if_neg (by simp)] ; refine wpAny_bind (wpAny_pure ?_) ; refine wpAny_bind (wpAny_dictEpoch hod hdd ?_) ; rw [if_neg (by simp)] ; refine wpAny_pure ?_)
  have hlt : i < es.size := (Array.getElem?_eq_some_iff.mp hx).1 ; have he : es[i] = e := (Array.getElem?_eq_some_iff.mp hx).2
  (simp only [show ¬ ((i : Int) < 0) from by omega, if_false, Int.toNat_natCast, Array.getElem?_eq_getElem hlt] ; refine wpAny_bind ?_ ; (first | refine wpAny_bind (wpAny_typeNameOfWhole_keyiter hit.typeIs (wpAny_pure ?_)) | refine wpAny_bind (wpAny_typeNameOf_keyiter hit.typeIs (wpAny_pure ?_))) ; refine wpAny_bind (wpAny_isOneOf_keyiter hit.typeIs ?_) ; show wpAny _ _ (setField (.ref it) 1 (rawInt ((i : Int) + 1)) >>= _) _ _ s ; refine wpAny_bind (wpAny_setField ho hd (by simp) ?_))
  have hit' : (s.heap.update it (Obj.mapFields (·.setIfInBounds 1 (rawInt ((i : Int) + 1))))).IsKeyIter it d (i + 1) es.size ep := ⟨_, Heap.get?_update_self _ ho (Obj.isFreed_of_fields (Obj.data_mapFields hd _)), (Obj.cls_mapFields ..).trans hc, by rw [Obj.data_mapFields hd]; simp [rawInt]⟩
  (refine wpAny_bind (wpAny_holding ?_) ; refine wpAny_bind (wpAny_isOneOf_keyiter (s := { s with heap := s.heap.update it (Obj.mapFields (·.setIfInBounds 1 (rawInt ((i : Int) + 1)))) }) hit'.typeIs ?_) ; show wpAny _ _ (pure es[i].key) _ _ _ ; rw [he])
  exact wpAny_pure (wpAny_pure ⟨_, rfl, wpAny_pure (hQ _ hit' (Heap.SameBut.update ..))⟩)
theorem raw_end {it : Addr} {i : Nat} {Q : Option Value → Shared → Prop} (hh : A.handled = none) (hit : s.heap.IsKeyIter it d i es.size ep) (hm : RawD s.heap d es ep) (hx : es.size ≤ i) (hQ : ∀ h', Heap.ExtBut it s.heap h' → Q none { s with heap := h' }) : wpAny (model prog w) A (pyNext (.ref it)) Q E s := by
  obtain ⟨o, ho, hc, hd⟩ := id hit ; obtain ⟨od, hod, hcd, hdd⟩ := id hm
  (unfold pyNext ; refine wpAny_bind (wpAny_attempt (wpAny_callSpecial?_slot (name := Str.ofString "__next__") hit.typeIs F.slot_dict_keyiterator_next (wpAny_call_entry F.slot_dict_keyiterator_next hit.typeIs F.entry_dict_keyiterator_next ?_ (F.args_dict_keyiterator_next_1 _)))) ; refine wpAny_bind (wpAny_pure ?_) ; refine wpAny_bind ?_ ; refine wpAny_bind ?_)
  ((first | refine wpAny_bind (wpAny_typeNameOfWhole_keyiter hit.typeIs (wpAny_pure ?_)) | refine wpAny_bind (wpAny_typeNameOf_keyiter hit.typeIs (wpAny_pure ?_))) ; refine wpAny_bind (wpAny_fieldsOf ho hd ?_) ; simp only [show Builtin.Dict_items.ownsTuple "dict_keyiterator" = false by decide, Bool.false_eq_true, if_false] ; show wpAny _ _ (if (Value.ref d == Value.none) = true then _ else _) _ _ s ; rw [if_neg (show ¬ ((Value.ref d == Value.none) = true) from Bool.false_ne_true)] ; refine wpAny_bind (wpAny_pure ?_) ; refine wpAny_bind (wpAny_dictEntries hod hdd ?_) ; rw [if_neg (by simp)] ; refine wpAny_bind (wpAny_pure ?_) ; refine wpAny_bind (wpAny_dictEpoch hod hdd ?_) ; rw [if_neg (by simp)] ; refine wpAny_pure ?_)
  (simp only [show ¬ ((i : Int) < 0) from by omega, if_false, Int.toNat_natCast, Array.getElem?_eq_none hx] ; refine wpAny_bind ?_ ; (first | refine wpAny_bind (wpAny_typeNameOfWhole_keyiter hit.typeIs (wpAny_pure ?_)) | refine wpAny_bind (wpAny_typeNameOf_keyiter hit.typeIs (wpAny_pure ?_))) ; show wpAny _ _ (setField (.ref it) 0 .none >>= _) _ _ s ; refine wpAny_bind (wpAny_setField ho hd (by simp) ?_) ; show wpAny _ _ (newExc (.type "StopIteration") [] >>= _) _ _ _ ; refine wpAny_bind ?_ ; simp only [newExc, newTuple])
  (refine wpAny_bind (wpAny_newObj_type ?_ (by size_fits)) ; refine wpAny_bind (m := firstArgMember _ _) (wpAny_of_eq (a := Value.none) (by first | rfl | (simp only [firstArgMember]; rfl)) ?_) ; refine wpAny_newObj_type ?_ (by size_fits) ; simp only [raiseNew] ; refine wpAny_bind (wpAny_handled ?_) ; rw [show A.in1.handled = none from hh] ; refine wpAny_bind (wpAny_pure (wpAny_throw ?_)))
  refine wpAny_bind (wpAny_isInstance (T := "StopIteration") (b := true) ⟨_, Heap.get?_push_size _ rfl, rfl⟩ isSubtype_stop (wpAny_pure (hQ _ (((Heap.SameBut.update ..).extBut.push _).push _))))
theorem raw_walks (hh : A.handled = none) (I : Addr) (hne : d ≠ I) : Walks prog w A I [I, d] [I] es.size (fun i v => ∃ e, es[i]? = some e ∧ v = e.key) (fun i h => h.IsKeyIter I d i es.size ep ∧ RawD h d es ep) where
  sub := fun b hb => by simp at hb; simp [hb]
  frame := fun _ _ _ st hk => ⟨st.1.at fun o e => hk I (by simp) o e, st.2.at fun o e => hk d (by simp) o e⟩
  item := fun i s Q E hi st hQ => raw_item st.1 st.2 (Array.getElem?_eq_getElem hi) fun h' it' sb => hQ _ h' s.toks ⟨_, Array.getElem?_eq_getElem hi, rfl⟩ ⟨it', st.2.at fun o e => sb.extBut d o hne e⟩ fun b o hb e => sb.extBut b o (fun h => hb (by simp [h])) e
  done := fun s Q E st hQ => raw_end hh st.1 st.2 (Nat.le_refl _) fun h' eb => hQ h' s.toks fun b o hb e => eb b o (fun h => hb (by simp [h])) e
  self := fun _ _ _ _ st hQ => wpAny_pyIter_keyiter st.1 hQ
theorem raw_src (lo : (d == sysModules) = false) : KdlSrc prog w "dict" d d es.size (fun i v => ∃ e, es[i]? = some e ∧ v = e.key) (fun h => RawD h d es ep) where
  type := fun _ hm => hm.ty
  there := fun _ hm => ⟨hm.lt, hm.lt⟩
  keep := fun _ _ hm hk => hm.at fun o e => hk d (.inl rfl) o e
  notList := by decide
  notTuple := by decide
  hint := fun _ _ _ _ hm hq => kdl_hint_dict hm.ty hq
  iter := fun _ _ hh hm => ⟨_, _, (fun _ _ hq => raw_iter lo hm hq), raw_walks hh _ (Nat.ne_of_lt hm.lt), ⟨⟨_, Heap.get?_push_size _ rfl, rfl, rfl⟩, hm.at fun o e => Heap.get?_push_of_some _ e⟩⟩
theorem raw_meets_len (hd : (d == sysModules) = false) : MeetsIn prog w (Builtin.«dict.__len__» ⟨[.ref d], []⟩) (fun _ R s => ∃ es ep, RawD s.heap d es ep ∧ R (.ok (.ret (.int es.size s.toks))) { s with toks := s.toks + 1 }) :=
  .of_wp fun A R s ⟨es, ep, hm, h⟩ => by
    obtain ⟨o, ho, hc, hdat⟩ := hm
    (show wpAny _ _ (dictSize d >>= _) _ _ s ; unfold dictSize ; refine wpAny_bind (wpAny_bind (wpAny_dictEntries ho hdat (wpAny_pure ?_))) ; show wpAny _ _ (Builtin.Dict.pendingCount d >>= _) _ _ s ; refine wpAny_bind (wpAny_pendingCount_other hd ?_) ; refine wpAny_ret_mkInt ?_ ; rw [Nat.add_zero] ; exact h)
theorem raw_len {Q : Value → Shared → Prop} (hd : (d == sysModules) = false) (hm : RawD s.heap d es ep) (hfit : (es.size : Int) < 2 ^ 63) (h : Q (.int es.size (s.toks + 1)) { s with toks := s.toks + 1 + 1 }) : wpAny (model prog w) A (call (.builtin "len") [.ref d]) Q E s := by
  refine Calls.call_function_entry kind_len plain_len entry_len (args_len1 _) ?_ ; unfold Builtin.«len» ; refine wpAny_bind (m := oneArg "len" _) (wpAny_pure ?_)
  refine wpAny_bind (m := callSpecial? (.ref d) (Str.ofString "__len__")) (wpAny_callSpecial?_slot (name := Str.ofString "__len__") hm.ty F.slot_dict_len (call_meetsIn F.slot_dict_len hm.ty F.entry_dict_len (F.args_dict_len_1 _) (raw_meets_len hd) ⟨es, ep, hm, ?_⟩))
  (show wpAny _ _ _ _ _ { s with toks := s.toks + 1 } ; refine wpAny_bind (wpAny_holding (wpAny_pure ?_)) ; refine wpAny_bind (wpAny_letGo ?_) ; show wpAny _ _ (if ((es.size : Nat) : Int) < 0 then _ else _) _ _ _ ; rw [if_neg (by omega)] ; show wpAny _ _ (if ((es.size : Nat) : Int) ≥ 2 ^ 63 then _ else _) _ _ _ ; rw [if_neg (by omega)])
  exact wpAny_bind (wpAny_mkInt (wpAny_pure ⟨_, rfl, h⟩))
end
section
variable {X : Cx}
/-- how a dict with tuples as keys lies -/
theorem dT_raw {P : Program} {w : World} {H : Hp} {h : Heap} {a : Addr} {kvs : List (List Key × V)} (ok : HOk P w H h) (e : H a = some (.dT kvs)) :
    kvs.length ≤ sizeLine ∧ (a == sysModules) = false ∧ ∃ (xs : List (List Key × Addr × Value)) (es : Array DictEntry) (ep : Nat), KT H kvs xs ∧ RawD h a es ep ∧ es.toList = xs.map (entryOfKey (tupleKind (mixKind P w))) := by
  obtain ⟨z, y, xs, r, o, es, ep, h1, h2, h3, h4, h5⟩ := (show ObjOk P w H h a (.dT kvs) from ok a _ e)
  exact ⟨z, y, xs, es, ep, r, ⟨o, h1, h2, h3⟩, h4⟩
theorem call_lenT : CallR X (.builtin "len") (fun xs H Q => ∃ a kvs, xs = [V.ref a] ∧ H a = some (.dT kvs) ∧ Q (.int kvs.length) H) := by
  intro pins s σ H xs us Q I r h
  obtain ⟨a, kvs, rfl, e, q⟩ := h
  obtain ⟨u, rfl, rx⟩ := vals1 r
  cases rx
  obtain ⟨z, hd, ys, es, ep, rel, raw, hes⟩ := dT_raw I.hok e
  have hl : es.size = kvs.length := by rw [← Array.length_toList, hes, List.length_map, Paired.length rel]
  have hn := line63
  exact raw_len hd raw (by rw [hl]; omega) ⟨.int kvs.length, H, I.tok _, ⟨_, by rw [hl]⟩, q⟩
/-- the keys as they lie -/
def KeysAt (H : Hp) (kvs : List (List Key × V)) (vs : List V) : Prop := Paired (fun v (p : List Key × V) => ∃ b, v = V.ref b ∧ H b = some (.tup (p.1.map kV))) vs kvs
theorem call_listT (hc : X.calm = true) : CallR X (.type "list") (fun xs H Q => ∃ a kvs, xs = [V.ref a] ∧ H a = some (.dT kvs) ∧ ∀ p vs, H p = none → KeysAt H kvs vs → Q (.ref p) (upd H p (.lst vs))) := by
  intro pins s σ H xs us Q I r h
  obtain ⟨a, kvs, rfl, e, q⟩ := h
  obtain ⟨u, rfl, rx⟩ := vals1 r
  cases rx
  obtain ⟨z, hd, ys, es, ep, rel, raw, hes⟩ := dT_raw I.hok e
  have hl : es.size = kvs.length := by rw [← Array.length_toList, hes, List.length_map, Paired.length rel]
  refine kdl_call (raw_src hd) (I.ok.hd hc) raw (by rw [hl]; exact z) fun h' tk acc' c' hk hD hacc => ?_
  have key : ∀ (l : List Value) (kvs' : List (List Key × V)) (ys' : List (List Key × Addr × Value)), KT H kvs' ys' → l.length = kvs'.length → (∀ (j : Nat) v, l[j]? = some v → ∃ y, ys'[j]? = some y ∧ v = .ref y.2.1) → ∃ vs, Vals vs l ∧ KeysAt H kvs' vs := by
    intro l kvs' ys' rr
    induction rr generalizing l with
    | nil =>
      intro hl' _
      cases l with
      | nil => exact ⟨[], .nil, .nil⟩
      | cons _ _ => simp at hl'
    | @cons p y ps yss hp t ih =>
      intro hl' hj
      cases l with
      | nil => simp at hl'
      | cons v l =>
        obtain ⟨y', ey, rfl⟩ := hj 0 v rfl
        cases ey
        obtain ⟨vs, v1, v2⟩ := ih l (by simpa using hl') fun j u hu => by
          obtain ⟨y2, e2, e3⟩ := hj (j + 1) u (by simpa using hu)
          exact ⟨y2, by simpa using e2, e3⟩
        exact ⟨.ref y.2.1 :: vs, .cons rfl v1, .cons ⟨_, rfl, hp.2.1⟩ v2⟩
  obtain ⟨vs, v1, v2⟩ := key acc'.toList kvs ys rel (by rw [Array.length_toList, hacc.1, hl]) fun j v ev => by
    obtain ⟨en, e1, rfl⟩ := hacc.2 j v (by rw [← Array.getElem?_toList]; exact ev)
    rw [← Array.getElem?_toList, hes, List.getElem?_map] at e1
    cases hy : ys[j]? with
    | none => rw [hy] at e1; cases e1
    | some y =>
      rw [hy] at e1
      have e2 := Option.some.inj e1
      exact ⟨y, rfl, by rw [← e2]; rfl⟩
  have hv : vs.length ≤ sizeLine := by rw [v1.length, Array.length_toList, hacc.1, hl]; exact z
  exact ⟨.ref _, _, I.laid (t' := tk) hk (Nat.le_refl _) (show ObjOk X.prog X.w _ h' _ (.lst vs) from ⟨hv, acc'.toList, c', v1, by simpa using hD⟩), rfl, q _ _ (I.hok.fresh (Nat.le_refl _)) v2⟩
end
end L2

set_option Elab.async false
set_option linter.all false
set_option maxRecDepth 100000
set_option maxHeartbeats 4000000
/-! a set's table of places: the search comes to an empty place -/
namespace L2
open PySem
def itF : Nat → Nat → Nat
  | 0, x => x
  | n + 1, x => itF n (5 * x + 1)
theorem itF_add (a : Nat) : ∀ b x, itF (b + a) x = itF a (itF b x)
  | 0, x => by rw [Nat.zero_add]; rfl
  | b + 1, x => by rw [Nat.add_right_comm]; exact itF_add a b (5 * x + 1)
theorem itF_four : ∀ n x, 4 * itF n x + 1 = 5 ^ n * (4 * x + 1)
  | 0, x => by simp [itF]
  | n + 1, x => by
    show 4 * itF n (5 * x + 1) + 1 = _
    rw [itF_four n, Nat.pow_succ, Nat.mul_assoc]
    congr 1
    omega
theorem five_pow : ∀ e, ∃ d, d % 2 = 1 ∧ 5 ^ (2 ^ e) = 1 + 2 ^ (e + 2) * d
  | 0 => ⟨1, rfl, rfl⟩
  | e + 1 => by
    obtain ⟨d, h1, h2⟩ := five_pow e
    refine ⟨d + 2 ^ (e + 1) * (d * d), ?_, ?_⟩
    · rw [Nat.pow_succ, show 2 ^ e * 2 * (d * d) = 2 * (2 ^ e * (d * d)) by grind]
      omega
    · have e1 : 5 ^ (2 ^ (e + 1)) = (1 + 2 ^ (e + 2) * d) ^ 2 := by
        rw [show (2 : Nat) ^ (e + 1) = 2 ^ e * 2 from Nat.pow_succ .., Nat.pow_mul, h2]
      have e2 : (2 : Nat) ^ (e + 2) = 2 * 2 ^ (e + 1) := by rw [show e + 2 = (e + 1) + 1 by omega, Nat.pow_succ 2 (e + 1)]; omega
      have e3 : (2 : Nat) ^ (e + 1 + 2) = 4 * 2 ^ (e + 1) := by rw [show e + 1 + 2 = (e + 2) + 1 by omega, Nat.pow_succ 2 (e + 2), e2]; omega
      rw [e1, e3, e2]
      generalize 2 ^ (e + 1) = X
      grind
theorem itF_half (e x : Nat) : ∃ d, d % 2 = 1 ∧ itF (2 ^ e) x = x + 2 ^ e * d := by
  obtain ⟨d, h1, h2⟩ := five_pow e
  refine ⟨d * (4 * x + 1), ?_, ?_⟩
  · rw [Nat.mul_mod, h1]; omega
  · have h := itF_four (2 ^ e) x
    rw [h2, Nat.pow_add] at h
    have e1 : (1 + 2 ^ e * 2 ^ 2 * d) * (4 * x + 1) = 4 * (x + 2 ^ e * (d * (4 * x + 1))) + 1 := by
      generalize 2 ^ e = X
      grind
    omega
theorem mod_two {P q r : Nat} (h : r < P) : (P * q + r) % (2 * P) = P * (q % 2) + r := by
  have hq : q = 2 * (q / 2) + q % 2 := by omega
  have e : P * q + r = (P * (q % 2) + r) + 2 * P * (q / 2) := by
    have : P * q = P * (2 * (q / 2) + q % 2) := by rw [← hq]
    rw [this]
    grind
  rw [e, Nat.add_mul_mod_self_left]
  refine Nat.mod_eq_of_lt ?_
  rcases Nat.mod_two_eq_zero_or_one q with z | z <;> rw [z] <;> omega
theorem itF_cover : ∀ e x j, ∃ k, k < 2 ^ e ∧ itF k x % 2 ^ e = j % 2 ^ e
  | 0, x, j => ⟨0, by decide, by rw [Nat.pow_zero, Nat.mod_one, Nat.mod_one]⟩
  | e + 1, x, j => by
    obtain ⟨k, hk, hm⟩ := itF_cover e x j
    have hP : 0 < 2 ^ e := Nat.two_pow_pos e
    have e2 : 2 ^ (e + 1) = 2 * 2 ^ e := by rw [Nat.pow_succ]; omega
    by_cases c : itF k x % 2 ^ (e + 1) = j % 2 ^ (e + 1)
    · exact ⟨k, by omega, c⟩
    · obtain ⟨d, h1, h2⟩ := itF_half e (itF k x)
      refine ⟨k + 2 ^ e, by omega, ?_⟩
      rw [itF_add, h2]
      rw [e2] at c ⊢
      generalize itF k x = a at *
      generalize 2 ^ e = P at *
      have ea := (Nat.div_add_mod a P).symm
      have ej := (Nat.div_add_mod j P).symm
      have ra : a % P < P := Nat.mod_lt _ hP
      have s1 : a % (2 * P) = P * (a / P % 2) + a % P := by
        have := mod_two (q := a / P) ra
        rwa [← ea] at this
      have s2 : j % (2 * P) = P * (j / P % 2) + a % P := by
        have := mod_two (q := j / P) ra
        rw [hm, ← ej] at this
        rw [hm]
        exact this
      have s3 : (a + P * d) % (2 * P) = P * ((a / P + d) % 2) + a % P := by
        have := mod_two (q := a / P + d) ra
        rwa [show P * (a / P + d) + a % P = a + P * d by rw [Nat.mul_add]; omega] at this
      rw [s1, s2] at c
      rw [s3, s2]
      have : (a / P + d) % 2 = j / P % 2 := by
        rcases Nat.mod_two_eq_zero_or_one (a / P) with z | z <;> rcases Nat.mod_two_eq_zero_or_one (j / P) with y | y <;> rw [z, y] at c <;> omega
      rw [this]
/-- the places where the runs of a search begin -/
def lp (mask : Nat) : Nat → Nat × Nat → Nat × Nat
  | 0, q => q
  | n + 1, q => lp mask n (SetTable.leap mask q.1 q.2)
theorem lp_add (mask b : Nat) : ∀ a q, lp mask (a + b) q = lp mask b (lp mask a q)
  | 0, q => by rw [Nat.zero_add]; rfl
  | a + 1, q => by rw [Nat.add_right_comm]; exact lp_add mask b a _
theorem lp_snd (mask : Nat) : ∀ n q, (lp mask n q).2 = q.2 / 32 ^ n
  | 0, q => by simp [lp]
  | n + 1, q => by
    show (lp mask n (SetTable.leap mask q.1 q.2)).2 = _
    rw [lp_snd mask n, Nat.pow_succ, Nat.mul_comm, ← Nat.div_div_eq_div_mul]
    rfl
theorem lp_lt {mask : Nat} : ∀ n q, q.1 ≤ mask → (lp mask n q).1 ≤ mask
  | 0, q, h => h
  | n + 1, q, h => lp_lt n _ (Nat.le_of_lt_succ (Nat.mod_lt _ (Nat.succ_pos _)))
theorem lp_zero {mask : Nat} : ∀ n i, i ≤ mask → (lp mask n (i, 0)).1 = itF n i % (mask + 1)
  | 0, i, h => (Nat.mod_eq_of_lt (Nat.lt_succ_of_le h)).symm
  | n + 1, i, h => by
    have e : SetTable.leap mask i 0 = ((5 * i + 1) % (mask + 1), 0) := by
      simp [SetTable.leap, Nat.mul_comm]
    show (lp mask n (SetTable.leap mask i 0)).1 = itF n (5 * i + 1) % (mask + 1)
    rw [e, lp_zero n _ (Nat.le_of_lt_succ (Nat.mod_lt _ (Nat.succ_pos _)))]
    have key : ∀ n x, itF n (x % (mask + 1)) % (mask + 1) = itF n x % (mask + 1) := by
      intro n
      induction n with
      | zero => intro x; exact Nat.mod_mod _ _
      | succ n ih =>
        intro x
        show itF n (5 * (x % (mask + 1)) + 1) % (mask + 1) = itF n (5 * x + 1) % (mask + 1)
        rw [← ih (5 * (x % (mask + 1)) + 1), ← ih (5 * x + 1)]
        congr 2
        rw [Nat.add_mod, Nat.mul_mod, Nat.mod_mod, ← Nat.mul_mod, ← Nat.add_mod]
    exact key n _
theorem lp_cover {e mask : Nat} (hM : mask + 1 = 2 ^ e) {q : Nat × Nat} (h1 : q.1 ≤ mask) (h2 : q.2 < 2 ^ 64) {j : Nat} (hj : j ≤ mask) : ∃ n, n ≤ mask + 13 ∧ (lp mask n q).1 = j := by
  have z : (lp mask 13 q).2 = 0 := by
    rw [lp_snd]
    exact Nat.div_eq_of_lt (Nat.lt_of_lt_of_le h2 (by decide))
  have l1 := lp_lt (mask := mask) 13 q h1
  obtain ⟨k, hk, hm⟩ := itF_cover e (lp mask 13 q).1 j
  refine ⟨13 + k, by omega, ?_⟩
  rw [lp_add, show lp mask 13 q = ((lp mask 13 q).1, 0) from Prod.ext rfl z, lp_zero k _ l1, hM, hm]
  exact Nat.mod_eq_of_lt (by omega)
end L2

set_option Elab.async false
set_option linter.all false
set_option maxRecDepth 100000
set_option maxHeartbeats 4000000
namespace L2
open PySem
/-! the search for a place -/
def advN (t : SetTable) : Nat → SetTable.Probe → SetTable.Probe
  | 0, p => p
  | n + 1, p => advN t n (t.advance p)
theorem advN_add (t : SetTable) (b : Nat) : ∀ a p, advN t (a + b) p = advN t b (advN t a p)
  | 0, p => by rw [Nat.zero_add]; rfl
  | a + 1, p => by rw [Nat.add_right_comm]; exact advN_add t b a _
theorem adv_dummy (t : SetTable) (p : SetTable.Probe) : (t.advance p).dummy = p.dummy := by
  unfold SetTable.advance
  split <;> rfl
theorem advN_dummy (t : SetTable) : ∀ n p, (advN t n p).dummy = p.dummy
  | 0, p => rfl
  | n + 1, p => (advN_dummy t n _).trans (adv_dummy t p)
def rs (mask : Nat) (q : Nat × Nat) : SetTable.Probe := { j := q.1, more := SetTable.runEnd mask q.1 - q.1, i := q.1, perturb := q.2, dummy := none }
theorem run_next (t : SetTable) (q : Nat × Nat) : ∀ r j, advN t (r + 1) { j := j, more := r, i := q.1, perturb := q.2, dummy := none } = rs t.mask (SetTable.leap t.mask q.1 q.2)
  | 0, j => rfl
  | r + 1, j => by
    show advN t (r + 1) (t.advance _) = _
    have e : t.advance { j := j, more := r + 1, i := q.1, perturb := q.2, dummy := none } = { j := j + 1, more := r, i := q.1, perturb := q.2, dummy := none } := by
      unfold SetTable.advance
      rw [if_pos (Nat.succ_pos r)]
      rfl
    rw [e]
    exact run_next t q r (j + 1)
theorem rs_next (t : SetTable) (q : Nat × Nat) : ∃ m, m ≤ 10 ∧ advN t m (rs t.mask q) = rs t.mask (SetTable.leap t.mask q.1 q.2) := by
  refine ⟨SetTable.runEnd t.mask q.1 - q.1 + 1, ?_, run_next t q _ _⟩
  unfold SetTable.runEnd
  split <;> omega
theorem rs_reach (t : SetTable) : ∀ n q, ∃ N, N ≤ 10 * n ∧ advN t N (rs t.mask q) = rs t.mask (lp t.mask n q)
  | 0, q => ⟨0, Nat.le_refl _, rfl⟩
  | n + 1, q => by
    obtain ⟨m, hm, e⟩ := rs_next t q
    obtain ⟨N, hN, e2⟩ := rs_reach t n (SetTable.leap t.mask q.1 q.2)
    exact ⟨m + N, by omega, by rw [advN_add, e, e2]; rfl⟩
theorem slot_live {t : SetTable} {j i : Nat} (h : t.slot j = .live i) : t.place[i]? = some j := by
  unfold SetTable.slot at h
  dsimp only at h
  split at h
  · rename_i c
    cases h
    simpa using c
  · split at h <;> cases h
theorem slot_three {t : SetTable} (hd : t.dummies = #[]) (j : Nat) : t.slot j = .empty ∨ ∃ i, t.slot j = .live i := by
  unfold SetTable.slot
  dsimp only
  split
  · exact .inr ⟨_, rfl⟩
  · have : SetTable.has t.dummies j = false := by rw [hd]; simp [SetTable.has]
    rw [this]
    exact .inl rfl
theorem nd_len : ∀ (l l' : List Nat), l.Nodup → (∀ a ∈ l, a ∈ l') → l.length ≤ l'.length
  | [], _, _, _ => Nat.zero_le _
  | a :: l, l', hn, hs => by
    have hn' := List.nodup_cons.mp hn
    have ha := hs a (.head _)
    have := nd_len l (l'.erase a) hn'.2 fun b hb => (List.mem_erase_of_ne (fun z => by subst z; exact hn'.1 hb)).mpr (hs b (.tail _ hb))
    rw [List.length_erase, if_pos ha] at this
    have hp : 0 < l'.length := List.length_pos_of_mem ha
    rw [List.length_cons]
    omega
theorem free_slot {t : SetTable} (hd : t.dummies = #[]) (hz : t.place.size ≤ t.mask) : ∃ j, j ≤ t.mask ∧ t.slot j = .empty := by
  apply Classical.byContradiction
  intro c
  have := nd_len (List.range (t.mask + 1)) t.place.toList List.nodup_range fun a ha => by
    have ha' : a ≤ t.mask := Nat.le_of_lt_succ (List.mem_range.mp ha)
    rcases slot_three hd a with h | ⟨i, h⟩
    · exact absurd ⟨a, ha', h⟩ c
    · have e := slot_live h
      exact Array.mem_toList_iff.mpr (Array.mem_of_getElem? e)
  rw [List.length_range, Array.length_toList] at this
  omega
theorem bits_lt (h : Int) : SetTable.bits h < 2 ^ 64 := by
  unfold SetTable.bits
  omega
/-- the search from the beginning comes to an empty place -/
theorem probe_end {t : SetTable} {e : Nat} (hM : t.mask + 1 = 2 ^ e) (hd : t.dummies = #[]) (hz : t.place.size ≤ t.mask) (h : Int) : ∃ N, N ≤ 10 * (t.mask + 13) ∧ t.slot (advN t N (t.probeStart h)).j = .empty := by
  obtain ⟨j, hj, hs⟩ := free_slot hd hz
  obtain ⟨n, hn, en⟩ := lp_cover hM (q := (SetTable.bits h % (t.mask + 1), SetTable.bits h)) (Nat.le_of_lt_succ (Nat.mod_lt _ (Nat.succ_pos _))) (bits_lt h) hj
  obtain ⟨N, hN, e2⟩ := rs_reach t n (SetTable.bits h % (t.mask + 1), SetTable.bits h)
  refine ⟨N, by omega, ?_⟩
  show t.slot (advN t N (rs t.mask (SetTable.bits h % (t.mask + 1), SetTable.bits h))).j = .empty
  rw [e2]
  show t.slot (lp t.mask n _).1 = .empty
  rw [en]
  exact hs
inductive MetOk (t : SetTable) (p : SetTable.Probe) (N : Nat) : SetTable.Met → Prop
  | empty (j : Nat) : MetOk t p N (.empty j none)
  | cand (m i : Nat) (hm : m < N) (hs : t.slot (advN t m p).j = .live i) : MetOk t p N (.candidate (advN t m p).j i (advN t (m + 1) p))
theorem probe_go {t : SetTable} {ha : Nat → Int} {h : Int} (hd : t.dummies = #[]) : ∀ N fuel p, N < fuel → p.dummy = none → t.slot (advN t N p).j = .empty → ∃ m, SetTable.probe.go t ha h fuel p = some m ∧ MetOk t p N m
  | 0, 0, p, hf, _, _ => absurd hf (Nat.lt_irrefl _)
  | 0, fuel + 1, p, _, hp, hs => by
    have hs' : t.slot p.j = .empty := hs
    unfold SetTable.probe.go
    rw [hs', hp]
    exact ⟨_, rfl, .empty _⟩
  | N + 1, 0, p, hf, _, _ => absurd hf (Nat.not_lt_zero _)
  | N + 1, fuel + 1, p, hf, hp, hs => by
    unfold SetTable.probe.go
    rcases slot_three hd p.j with c | ⟨i, c⟩
    · rw [c, hp]
      exact ⟨_, rfl, .empty _⟩
    · rw [c]
      dsimp only
      by_cases q : (ha i == h) = true
      · rw [if_pos q]
        exact ⟨_, rfl, .cand (t := t) (p := p) 0 i (Nat.succ_pos _) c⟩
      · rw [if_neg q]
        obtain ⟨m, e, ok⟩ := probe_go (ha := ha) (h := h) hd N fuel (t.advance p) (by omega) ((adv_dummy t p).trans hp) hs
        refine ⟨m, e, ?_⟩
        cases ok with
        | empty j => exact .empty j
        | cand m i hm hs => exact .cand (t := t) (p := p) (m + 1) i (by omega) hs
/-! a table laid anew -/
theorem lay_free {mask : Nat} {owner : Array (Option Nat)} : ∀ n fuel i p, n < fuel → owner.getD (lp mask n (i, p)).1 (some 0) = none → ∃ j, SetTable.layClean.free mask owner fuel i p = some j ∧ owner.getD j (some 0) = none
  | n, 0, i, p, hf, _ => absurd hf (Nat.not_lt_zero _)
  | n, fuel + 1, i, p, hf, hn => by
    unfold SetTable.layClean.free
    cases q : (List.range (SetTable.runEnd mask i + 1 - i)).find? fun k => (owner.getD (i + k) (some 0)).isNone with
    | some k =>
      refine ⟨i + k, rfl, ?_⟩
      have := List.find?_some q
      exact Option.isNone_iff_eq_none.mp this
    | none =>
      cases n with
      | zero =>
        have h0 := List.find?_eq_none.mp q 0 (List.mem_range.mpr (by unfold SetTable.runEnd; split <;> omega))
        have hn' : owner.getD i (some 0) = none := hn
        rw [Nat.add_zero, hn'] at h0
        exact absurd rfl h0
      | succ n => exact lay_free n fuel _ _ (by omega) hn
def liveL (mask : Nat) (owner : Array (Option Nat)) : List (Nat × Nat) := (List.range (mask + 1)).filterMap fun j => (owner.getD j none).map (j, ·)
theorem fm_len {β : Type} {f g : Nat → Option β} {j : Nat} (hne : ∀ i, i ≠ j → g i = f i) (hf : f j = none) (hg : (g j).isSome = true) : ∀ n, ((List.range n).filterMap g).length = ((List.range n).filterMap f).length + if j < n then 1 else 0
  | 0 => rfl
  | n + 1 => by
    have ih := fm_len hne hf hg n
    rw [List.range_succ, List.filterMap_append, List.filterMap_append, List.length_append, List.length_append, ih]
    by_cases c : n = j
    · subst c
      obtain ⟨b, eb⟩ := Option.isSome_iff_exists.mp hg
      simp [hf, eb]
    · have e : ([n].filterMap g).length = ([n].filterMap f).length := by
        simp only [List.filterMap_cons, List.filterMap_nil, hne n c]
      rw [e]
      by_cases c2 : j < n
      · rw [if_pos c2, if_pos (by omega)]; omega
      · rw [if_neg c2, if_neg (by omega)]; omega
theorem fm_all {β : Type} {f : Nat → Option β} : ∀ n, (∀ i, i < n → (f i).isSome = true) → ((List.range n).filterMap f).length = n
  | 0, _ => rfl
  | n + 1, h => by
    obtain ⟨b, eb⟩ := Option.isSome_iff_exists.mp (h n (by omega))
    rw [List.range_succ, List.filterMap_append, List.length_append, fm_all n fun i hi => h i (by omega)]
    simp [eb]
structure OwnI (mask : Nat) (owner : Array (Option Nat)) (k : Nat) : Prop where
  size : owner.size = mask + 1
  len : (liveL mask owner).length = k
  low : ∀ j v : Nat, owner[j]? = some (some v) → v < k
theorem own_free {mask k : Nat} {owner : Array (Option Nat)} (o : OwnI mask owner k) (hk : k ≤ mask) : ∃ j, j ≤ mask ∧ owner.getD j (some 0) = none := by
  apply Classical.byContradiction
  intro c
  have := fm_all (f := fun j => (owner.getD j none).map (j, ·)) (mask + 1) fun i hi => by
    have hs : i < owner.size := by rw [o.size]; exact hi
    cases q : owner[i] with
    | none => exact absurd ⟨i, by omega, by rw [Array.getD_eq_getD_getElem?, Array.getElem?_eq_getElem hs, q]; rfl⟩ c
    | some v => rw [Array.getD_eq_getD_getElem?, Array.getElem?_eq_getElem hs, q]; rfl
  have e := o.len
  unfold liveL at e
  omega
theorem own_set {mask k j : Nat} {owner : Array (Option Nat)} (o : OwnI mask owner k) (hj : owner.getD j (some 0) = none) : OwnI mask (owner.setIfInBounds j (some k)) (k + 1) := by
  have hs : j < owner.size := by
    apply Classical.byContradiction
    intro c
    rw [Array.getD_eq_getD_getElem?, Array.getElem?_eq_none (by omega)] at hj
    cases hj
  have ej : owner[j]? = some none := by
    rw [Array.getD_eq_getD_getElem?] at hj
    cases q : owner[j]? with
    | none => rw [q] at hj; cases hj
    | some v => rw [q] at hj; exact congrArg some hj
  refine ⟨by rw [Array.size_setIfInBounds]; exact o.size, ?_, fun i v e => ?_⟩
  · have := fm_len (j := j) (f := fun i => (owner.getD i none).map (i, ·)) (g := fun i => ((owner.setIfInBounds j (some k)).getD i none).map (i, ·)) (fun i hi => ?_) ?_ ?_ (mask + 1)
    · rw [if_pos (by rw [← o.size]; exact hs)] at this
      unfold liveL
      rw [this]
      have e := o.len
      unfold liveL at e
      rw [e]
    · rw [Array.getD_eq_getD_getElem?, Array.getElem?_setIfInBounds_ne (fun z => hi z.symm), ← Array.getD_eq_getD_getElem?]
    · rw [Array.getD_eq_getD_getElem?, ej]
      rfl
    · rw [Array.getD_eq_getD_getElem?, Array.getElem?_setIfInBounds_self_of_lt hs]
      rfl
  · by_cases c : i = j
    · subst c
      rw [Array.getElem?_setIfInBounds_self_of_lt hs] at e
      cases e
      omega
    · rw [Array.getElem?_setIfInBounds_ne (fun z => c z.symm)] at e
      have := o.low i v e
      omega
theorem own_new (mask : Nat) : OwnI mask (Array.replicate (mask + 1) none) 0 := by
  refine ⟨Array.size_replicate, ?_, fun j v e => ?_⟩
  · unfold liveL
    rw [List.length_eq_zero_iff]
    refine List.filterMap_eq_nil_iff.mpr fun j hj => ?_
    rw [Array.getD_eq_getD_getElem?, Array.getElem?_replicate]
    split <;> rfl
  · rw [Array.getElem?_replicate] at e
    split at e <;> cases e
theorem lay_fold {mask e : Nat} (hM : mask + 1 = 2 ^ e) : ∀ (l : List Int) (owner : Array (Option Nat)) (k : Nat), OwnI mask owner k → k + l.length ≤ mask → ∃ owner', l.foldl (fun acc h => do
      let (owner, k) ← acc
      let j ← SetTable.layClean.free mask owner (SetTable.turns mask) (SetTable.bits h % (mask + 1)) (SetTable.bits h)
      pure (owner.setIfInBounds j (some k), k + 1)) (some (owner, k)) = some (owner', k + l.length) ∧ OwnI mask owner' (k + l.length)
  | [], owner, k, o, _ => ⟨owner, rfl, o⟩
  | h :: l, owner, k, o, hk => by
    rw [List.length_cons] at hk
    obtain ⟨j0, hj0, en⟩ := own_free o (by omega)
    obtain ⟨n, hn, e1⟩ := lp_cover hM (q := (SetTable.bits h % (mask + 1), SetTable.bits h)) (Nat.le_of_lt_succ (Nat.mod_lt _ (Nat.succ_pos _))) (bits_lt h) hj0
    obtain ⟨j, e2, e3⟩ := lay_free (mask := mask) (owner := owner) n (SetTable.turns mask) (SetTable.bits h % (mask + 1)) (SetTable.bits h) (by unfold SetTable.turns; omega) (by rw [e1]; exact en)
    obtain ⟨owner', f1, f2⟩ := lay_fold hM l (owner.setIfInBounds j (some k)) (k + 1) (own_set o e3) (by omega)
    refine ⟨owner', ?_, by rw [List.length_cons, show k + (l.length + 1) = k + 1 + l.length by omega]; exact f2⟩
    rw [List.foldl_cons, List.length_cons, show k + (l.length + 1) = k + 1 + l.length by omega, ← f1]
    congr 1
    simp [e2]
theorem lay_clean {mask e : Nat} (hM : mask + 1 = 2 ^ e) (hs : Array Int) (hz : hs.size ≤ mask) : ∃ owner, SetTable.layClean mask hs = some owner ∧ OwnI mask owner hs.size := by
  obtain ⟨owner, f1, f2⟩ := lay_fold hM hs.toList _ 0 (own_new mask) (by rw [Array.length_toList]; omega)
  rw [Array.length_toList, Nat.zero_add] at f1 f2
  refine ⟨owner, ?_, f2⟩
  unfold SetTable.layClean
  rw [← Array.foldl_toList]
  rw [f1]
  rfl
theorem laid_ok {t : SetTable} {hs : Array Int} {wanted e : Nat} (hM : SetTable.sizeAbove wanted - 1 + 1 = 2 ^ e) (hz : hs.size ≤ SetTable.sizeAbove wanted - 1) :
    ∃ t' order, t.relaid hs wanted = some (t', order) ∧ t'.mask = SetTable.sizeAbove wanted - 1 ∧ t'.dummies = #[] ∧ t'.place.size = hs.size ∧ order.size = hs.size ∧ (∀ k ∈ order.toList, k < hs.size) := by
  obtain ⟨owner, e1, o⟩ := lay_clean hM hs hz
  refine ⟨_, _, by unfold SetTable.relaid SetTable.laid; rw [e1]; rfl, rfl, rfl, ?_, ?_, fun k hk => ?_⟩
  · rw [List.size_toArray, List.length_map]
    exact o.len
  · rw [List.size_toArray, List.length_map]
    exact o.len
  · obtain ⟨⟨j, k'⟩, hm, rfl⟩ := List.mem_map.mp hk
    obtain ⟨j', hj', e⟩ := List.mem_filterMap.mp hm
    cases q : owner.getD j' none with
    | none => rw [q] at e; cases e
    | some v =>
      rw [q] at e
      cases e
      refine o.low j _ ?_
      rw [Array.getD_eq_getD_getElem?] at q
      cases q2 : owner[j]? with
      | none => rw [q2] at q; cases q
      | some y => rw [q2] at q; exact congrArg some q
theorem size_above : ∀ n, n < 501 → ∃ e, 3 ≤ e ∧ e ≤ 12 ∧ SetTable.sizeAbove (4 * n) = 2 ^ e ∧ 4 * n < SetTable.sizeAbove (4 * n) := by
  have : ∀ n, n < 501 → (List.range 13).any (fun e => decide (3 ≤ e) && (SetTable.sizeAbove (4 * n) == 2 ^ e) && decide (4 * n < SetTable.sizeAbove (4 * n))) = true := by decide +kernel
  intro n hn
  obtain ⟨e, he, h⟩ := List.any_eq_true.mp (this n hn)
  simp only [Bool.and_eq_true, decide_eq_true_eq, beq_iff_eq] at h
  exact ⟨e, h.1.1, by have := List.mem_range.mp he; omega, h.1.2, h.2⟩
end L2

set_option Elab.async false
set_option linter.all false
set_option maxRecDepth 100000
set_option maxHeartbeats 4000000
/-! a thing laid into a set of tuples in which it is not -/
namespace L2
open PySem PySem.Spec PySem.Calls PySem.W PyProof.Rows
section
variable {prog : Program} {w : World} {A : Around} {E : Value → Shared → Prop} {s : Shared} {S a : Addr} {es : Array (Int × Value)} {ep : Nat} {t : SetTable} {o : Obj} {k : List Key} {ks : List (List Key)} {h : Int} {B : Nat}
abbrev KD (prog : Program) (w : World) := tupleKind (mixKind prog w)
/-- what lies in the set -/
def EsIn (prog : Program) (w : World) (B : Nat) (hp : Heap) (es : Array (Int × Value)) (ks : List (List Key)) : Prop := ∀ p ∈ es.toList, ∃ k ∈ ks, ∃ a, p.2 = .ref a ∧ a < B ∧ (KD prog w).is hp k a
theorem class_val (n : Nat) {v : Value} (h : carriedByValue v = true) : ofAClassStatement n v = pure false := by
  cases v with
  | ref x => cases h
  | _ => first | rfl | (simp [ofAClassStatement]; done) | (cases n <;> rfl)
theorem hash_val (n : Nat) {v : Value} (h : carriedByValue v = true) : ∃ b, hashByValue n v = pure b := by
  cases v <;> cases n <;> first | exact ⟨_, rfl⟩ | (simp [carriedByValue] at h) | exact ⟨_, by simp [hashByValue]⟩
theorem class_no (hx : (KD prog w).is s.heap k a) {n : Nat} {Q : Bool → Shared → Prop} (hQ : Q false s) : wpAny (model prog w) A (ofAClassStatement (n + 1) (.ref a)) Q E s := by
  have hT : s.TypeIs (.ref a) "tuple" := IsTupleKey.typeIs hx
  obtain ⟨o, items, m, ho, hc, hd, hi⟩ := hx
  unfold ofAClassStatement
  refine wpAny_bind (wpAny_typeOf hT ?_)
  dsimp only
  rw [if_pos (by decide)]
  refine wpAny_bind (wpAny_pure ?_)
  simp only [Bool.not_true, Bool.false_eq_true, if_false]
  refine wpAny_bind (wpAny_seqItems ho hd ?_)
  refine wpAny_bind ?_
  show wpAny _ _ (forIn items _ _) _ _ s
  rw [← Array.forIn_toList]
  refine wpAny_forIn_list _ (fun rest r s' => r.1 = none ∧ s' = s ∧ ∀ v ∈ rest, carriedByValue v = true) _ ?_ ?_ _ _ ⟨rfl, rfl, hi.byValue⟩
  · rintro v rest r s' ⟨hr, rfl, hall⟩
    rw [class_val _ (hall v List.mem_cons_self)]
    refine wpAny_bind (wpAny_pure ?_)
    simp only [Bool.false_eq_true, if_false]
    exact wpAny_pure ⟨rfl, rfl, fun u hu => hall u (List.mem_cons_of_mem _ hu)⟩
  · rintro ⟨r1, r2⟩ s' ⟨hr, rfl, _⟩
    simp only at hr
    subst hr
    exact wpAny_pure hQ
theorem hash_any (hx : (KD prog w).is s.heap k a) {n : Nat} {Q : Bool → Shared → Prop} (hQ : ∀ b, Q b s) : wpAny (model prog w) A (hashByValue (n + 1) (.ref a)) Q E s := by
  have hT : s.TypeIs (.ref a) "tuple" := IsTupleKey.typeIs hx
  obtain ⟨o, items, m, ho, hc, hd, hi⟩ := hx
  unfold hashByValue
  refine wpAny_bind (wpAny_specialOf hT PySem.F.slot_tuple_hash.lookup ?_)
  dsimp only
  refine wpAny_bind (wpAny_seqItems ho hd ?_)
  refine wpAny_bind ?_
  show wpAny _ _ (forIn items _ _) _ _ s
  rw [← Array.forIn_toList]
  refine wpAny_forIn_list _ (fun rest r s' => r.1 = none ∧ s' = s ∧ ∀ v ∈ rest, carriedByValue v = true) _ ?_ ?_ _ _ ⟨rfl, rfl, hi.byValue⟩
  · rintro v rest r s' ⟨hr, rfl, hall⟩
    obtain ⟨b, eb⟩ := hash_val n (hall v List.mem_cons_self)
    rw [eb]
    refine wpAny_bind (wpAny_pure ?_)
    cases b with
    | true => exact wpAny_pure ⟨rfl, rfl, fun u hu => hall u (List.mem_cons_of_mem _ hu)⟩
    | false => exact wpAny_pure (wpAny_pure (hQ false))
  · rintro ⟨r1, r2⟩ s' ⟨hr, rfl, _⟩
    simp only at hr
    subst hr
    exact wpAny_pure (hQ true)
theorem seen_no (hx : (KD prog w).is s.heap k a) {Q : Bool → Shared → Prop} (hQ : Q false s) : ∀ (l : List Value), (∀ y ∈ l, ∃ k' b, y = .ref b ∧ (KD prog w).is s.heap k' b) → wpAny (model prog w) A (searchCouldBeSeen (.ref a) l) Q E s := by
  intro l hl
  unfold searchCouldBeSeen
  refine wpAny_bind ?_
  refine wpAny_forIn_list _ (fun rest r s' => r.1 = none ∧ s' = s ∧ ∀ y ∈ rest, ∃ k' b, y = .ref b ∧ (KD prog w).is s.heap k' b) _ ?_ ?_ _ _ ⟨rfl, rfl, hl⟩
  · rintro y rest r s' ⟨hr, rfl, hall⟩
    obtain ⟨k', b, rfl, hb⟩ := hall y List.mem_cons_self
    have nx : ∀ u ∈ rest, ∃ k' b, u = .ref b ∧ (KD prog w).is s'.heap k' b := fun u hu => hall u (List.mem_cons_of_mem _ hu)
    dsimp only
    split
    · exact wpAny_pure ⟨rfl, rfl, nx⟩
    · refine wpAny_bind ((KD prog w).quiet hx ?_)
      simp only [Bool.not_true, Bool.false_eq_true, if_false]
      refine wpAny_bind ((KD prog w).quiet hb ?_)
      simp only [Bool.not_true, Bool.false_eq_true, if_false]
      refine wpAny_bind (class_no hx ?_)
      simp only [Bool.false_eq_true, if_false]
      refine wpAny_bind (class_no hb ?_)
      simp only [Bool.false_eq_true, if_false]
      exact wpAny_pure ⟨rfl, rfl, nx⟩
  · rintro ⟨r1, r2⟩ s' ⟨hr, rfl, _⟩
    simp only at hr
    subst hr
    exact wpAny_pure hQ
/-- the set as it lies, with what is in it -/
structure StAt (prog : Program) (w : World) (B : Nat) (hp : Heap) (S : Addr) (ks : List (List Key)) (es : Array (Int × Value)) (ep : Nat) (t : SetTable) (e : Nat) (o : Obj) : Prop where
  ho : hp.get? S = some o
  ex : o.ExactSet
  hd : o.data = .set es ep t
  dm : t.dummies = #[]
  pl : t.place.size = es.size
  pw : t.mask + 1 = 2 ^ e
  lo : 3 ≤ e
  hi : e ≤ 12
  few : es.size * 5 < t.mask * 3
  len : es.size = ks.length
  els : EsIn prog w B hp es ks
theorem StAt.fits {hp : Heap} {e : Nat} (P : StAt prog w B hp S ks es ep t e o) : t.fits es.size = true := by
  have h1 := P.pl
  have h2 := P.few
  have hf : t.fill ≤ t.mask := by
    unfold SetTable.fill
    rw [P.dm]
    simp
    omega
  simp [SetTable.fits, h1, hf]
theorem same_ref {b : Addr} {Q : Bool → Shared → Prop} (hQ : Q true s) : wpAny (model prog w) A (isSame (.ref b) (.ref b)) Q E s := by
  unfold isSame
  dsimp only
  rw [if_pos (beq_self_eq_true b)]
  exact wpAny_pure hQ
theorem set_search {e : Nat} (P : StAt prog w B s.heap S ks es ep t e o) (hx : (KD prog w).is s.heap k a) (hk : k ∉ ks) (hu : A.units < cLine) {Q : SetFound → Shared → Prop} (hQ : ∀ j, Q (.free j false) s) :
    ∀ (N fuel : Nat) (stand : Option SetTable.Probe), N < fuel → N < 10 * SetTable.turns t.mask → (stand.getD (t.probeStart h)).dummy = none → t.slot (advN t N (stand.getD (t.probeStart h))).j = .empty → wpAny (model prog w) A (setSearchFrom S (.ref a) h true fuel stand) Q E s := by
  intro N
  induction N using Nat.strongRecOn with
  | _ N ih =>
    intro fuel stand hf hT hp hs
    obtain ⟨fuel, rfl⟩ : ∃ f, fuel = f + 1 := ⟨fuel - 1, by omega⟩
    unfold setSearchFrom
    refine wpAny_bind (wpAny_setState_of P.ho P.hd P.fits ?_)
    dsimp only
    have gw : t.gaveWay = false := by
      unfold SetTable.gaveWay
      have h1 := P.pw
      have h2 := P.lo
      obtain ⟨e', rfl⟩ : ∃ e', e = e' + 1 := ⟨e - 1, by omega⟩
      rw [Nat.pow_succ] at h1
      simp only [beq_eq_false_iff_ne]
      omega
    rw [gw]
    simp only [Bool.false_eq_true, if_false]
    have key : ∀ ha : Nat → Int, ∃ m, t.probe ha h (stand.getD (t.probeStart h)) = some m ∧ MetOk t (stand.getD (t.probeStart h)) N m := fun ha => probe_go P.dm N _ _ hT hp hs
    split
    · rename_i met hm
      obtain ⟨m', e1, ok⟩ := key _
      obtain rfl : m' = met := Option.some.inj (e1.symm.trans hm)
      cases ok with
      | empty j => exact wpAny_pure (hQ j)
      | cand m i hm' hsl =>
        have pli := slot_live hsl
        have hi : i < es.size := by
          rw [← P.pl]
          exact (Array.getElem?_eq_some_iff.mp pli).1
        obtain ⟨k', hk', b, eb, _, hb⟩ := P.els es[i] (Array.getElem_mem_toList hi)
        have ei : es[i]? = some (es[i].1, .ref b) := by
          rw [Array.getElem?_eq_getElem hi, ← eb]
        have rest : wpAny (model prog w) A (do
            let some (_, y) := es[i]? | unsupported "internal:set-entry"
            let equal ← holding [y] (eqBool y (.ref a))
            let (es', _, t') ← setState S
            if true && equal then return .there none
            let some sm0 := t'.sameMemory t.moves t.mask | unsupported "set.changed-during-lookup:is-the-new-block-at-the-old-address"
            let still ← match (if sm0 then t'.slot (advN t m (stand.getD (t.probeStart h))).j else .empty) with
              | .live i' => match es'[i']? with
                | some (_, y') => do pure (if ← isSame y' y then some i' else none)
                | none => pure none
              | _ => pure none
            match still with
            | none => rule "set.search.anew"; setSearchFrom S (.ref a) h true fuel none
            | some i' => if equal then return .there (some i') else setSearchFrom S (.ref a) h true fuel (some (advN t (m + 1) (stand.getD (t.probeStart h))))) Q E s := by
          rw [ei]
          dsimp only
          refine wpAny_bind (wpAny_holding ((KD prog w).eqBool hu hb hx ?_))
          rw [decide_eq_false (show ¬ k' = k from fun z => hk (by rw [← z]; exact hk'))]
          refine wpAny_bind (wpAny_setState_of P.ho P.hd P.fits ?_)
          have sm : t.sameMemory t.moves t.mask = some true := by simp [SetTable.sameMemory]
          simp only [Bool.and_false, Bool.false_eq_true, if_false, sm, if_true, hsl, ei]
          refine wpAny_bind ?_
          refine same_ref ?_
          simp only [if_true]
          refine wpAny_bind (wpAny_pure ?_)
          refine ih (N - (m + 1)) (by omega) fuel _ (by omega) (by omega) ?_ ?_
          · show (advN t (m + 1) _).dummy = none
            rw [advN_dummy]; exact hp
          · show t.slot (advN t (N - (m + 1)) (advN t (m + 1) _)).j = .empty
            rw [← advN_add, show m + 1 + (N - (m + 1)) = N by omega]
            exact hs
        dsimp only
        cases t.led with
        | true => exact rest
        | false =>
          simp only [Bool.not_false, if_true]
          refine wpAny_bind (seen_no hx ?_ _ fun y hy => ?_)
          · simp only [Bool.false_eq_true, if_false]
            exact rest
          · obtain ⟨p, hp', rfl⟩ := List.mem_map.mp hy
            have hp2 : p ∈ es.toList := by
              have := Array.mem_toList_iff.mp hp'
              exact Array.mem_toList_iff.mpr (Array.mem_of_mem_filter this)
            obtain ⟨k2, _, b2, e2, _, h2⟩ := P.els p hp2
            exact ⟨k2, b2, e2, h2⟩
    · rename_i hm
      obtain ⟨m', e1, _⟩ := key _
      exact (hm _ e1).elim
end
end L2

set_option Elab.async false
set_option linter.all false
set_option maxRecDepth 100000
set_option maxHeartbeats 4000000
namespace L2
open PySem PySem.Spec PySem.Calls PySem.W PyProof.Rows
section
variable {prog : Program} {w : World} {A : Around} {E : Value → Shared → Prop} {s : Shared} {S a : Addr} {es : Array (Int × Value)} {ep : Nat} {t : SetTable} {o : Obj} {k : List Key} {ks : List (List Key)} {h : Int} {B : Nat}
theorem is_keep {hp h' : Heap} (hs : Heap.SameBut S hp h') (ho : hp.get? S = some o) (ex : o.ExactSet) {b : Addr} (hx : (KD prog w).is hp k b) : (KD prog w).is h' k b := by
  obtain ⟨o1, items, n, e1, e2, e3, e4⟩ := hx
  refine ⟨o1, items, n, (hs.2 b fun z => ?_).trans e1, e2, e3, e4⟩
  rw [z, ho] at e1
  cases e1
  rw [ex.1] at e2
  exact absurd e2 (by decide)
theorem es_keep {hp h' : Heap} (hs : Heap.SameBut S hp h') (ho : hp.get? S = some o) (ex : o.ExactSet) (hx : EsIn prog w B hp es ks) : EsIn prog w B h' es ks := fun p hp' => by
  obtain ⟨k', hk', b, e1, lt, e2⟩ := hx p hp'
  exact ⟨k', hk', b, e1, lt, is_keep hs ho ex e2⟩
theorem ins_size {α : Type} (xs : Array α) (p : Nat) (x : α) : (SetTable.insertAt xs p x).size = xs.size + 1 := by
  unfold SetTable.insertAt
  rw [Array.size_append, Array.size_push, Array.size_extract, Array.size_extract]
  omega
theorem mem_ext {α : Type} {xs : Array α} {i j : Nat} {y : α} (h : y ∈ xs.extract i j) : y ∈ xs := by
  obtain ⟨n, hn⟩ := Array.getElem?_of_mem h
  rw [Array.getElem?_extract] at hn
  split at hn
  · exact Array.mem_of_getElem? hn
  · cases hn
theorem ins_mem {α : Type} {xs : Array α} {p : Nat} {x y : α} (h : y ∈ (SetTable.insertAt xs p x).toList) : y ∈ xs.toList ∨ y = x := by
  unfold SetTable.insertAt at h
  have h := Array.mem_toList_iff.mp h
  rcases Array.mem_append.mp h with h | h
  · rcases Array.mem_push.mp h with h | h
    · exact .inl (Array.mem_toList_iff.mpr (mem_ext h))
    · exact .inr h
  · exact .inl (Array.mem_toList_iff.mpr (mem_ext h))
theorem order_len {es : Array (Int × Value)} : ∀ (l : List Nat), (∀ k ∈ l, k < es.size) → (l.filterMap (es[·]?)).length = l.length
  | [], _ => rfl
  | i :: l, h => by
    have hi := h i (.head _)
    rw [List.filterMap_cons, Array.getElem?_eq_getElem hi]
    simp [order_len l fun k hk => h k (.tail _ hk)]
theorem put_at {hp : Heap} (ho : hp.get? S = some o) (hd : o.data = .set es ep t) {es' : Array (Int × Value)} {t' : SetTable} : (hp.update S (Obj.putSet es' t')).get? S = some { o with data := .set es' (ep + 1) t' } := by
  have e := putSet_of es' t' hd
  have := Heap.get?_update_self (Obj.putSet es' t') ho (by rw [e]; rfl)
  rw [e] at this
  exact this
theorem set_add {e : Nat} (P : StAt prog w B s.heap S ks es ep t e o) (hx : (KD prog w).is s.heap k a) (haB : a < B) (hk : k ∉ ks) (hu : A.units < cLine) (hn : ks.length < 400) {Q : Bool → Shared → Prop}
    (hQ : ∀ b h' tk es' ep' t' e' o', Heap.SameBut S s.heap h' → StAt prog w B h' S (k :: ks) es' ep' t' e' o' → Q b { s with heap := h', toks := tk }) : wpAny (model prog w) A (setAdd S (.ref a)) Q E s := by
  unfold setAdd
  refine wpAny_holding (wpAny_bind ((KD prog w).pyHash hu hx ?_))
  generalize (KD prog w).hash k = h
  generalize s.toks + (KD prog w).draws k = tk
  unfold setAddHashed
  refine wpAny_holding ?_
  unfold setAddHashedIn
  refine wpAny_bind (wpAny_setState_of (s := { s with toks := tk }) P.ho P.hd P.fits ?_)
  dsimp only
  have bs : byScan (.ref a) es = false := by simp [byScan, Value.scannable]
  rw [bs]
  simp only [Bool.false_eq_true, if_false]
  have hz : t.place.size ≤ t.mask := by
    have := P.few
    have := P.pl
    omega
  obtain ⟨N, hN, hs⟩ := probe_end P.pw P.dm hz h
  have h12 : t.mask < 4096 := by
    have h1 := P.pw
    have h2 : (2 : Nat) ^ e ≤ 2 ^ 12 := Nat.pow_le_pow_right (by decide) P.hi
    omega
  have m7 : 7 ≤ t.mask := by
    have h1 := P.pw
    have h2 : (2 : Nat) ^ 3 ≤ 2 ^ e := Nat.pow_le_pow_right (by decide) P.lo
    omega
  refine wpAny_bind ?_
  unfold setSearch
  refine set_search (s := { s with toks := tk }) (h := h) P hx hk hu (fun j => ?_) N 100000 none (by omega) (by unfold SetTable.turns; omega) rfl hs
  dsimp only
  refine wpAny_bind (wpAny_setState_of (s := { s with toks := tk }) P.ho P.hd P.fits ?_)
  dsimp only
  have tail : ∀ (t1 : SetTable) (es1 : Array (Int × Value)), t1.mask = t.mask → t1.dummies = #[] → t1.place.size = es.size + 1 → es1.size = es.size + 1 → (∀ p ∈ es1.toList, p ∈ es.toList ∨ p = (h, .ref a)) →
      wpAny (model prog w) A (do
        storeSet S es1 t1
        if (!false && t1.tooFull) = true then do
          setRelay S (SetTable.grown (es.size + 1))
          pure true
        else pure true) Q E { s with toks := tk } := fun t1 es1 hm hdm hpl hes hin => by
    have few := P.few
    have len := P.len
    have big : 100000 ≤ sizeLine := by decide
    refine wpAny_bind (wpAny_storeSet_of (s := { s with toks := tk }) P.ho P.hd ?_ (by omega))
    have g1 : (s.heap.update S (Obj.putSet es1 t1)).get? S = some { o with data := .set es1 (ep + 1) t1 } := put_at P.ho P.hd
    have sb1 : Heap.SameBut S s.heap (s.heap.update S (Obj.putSet es1 t1)) := Heap.SameBut.update _ _ _
    have els1 : EsIn prog w B (s.heap.update S (Obj.putSet es1 t1)) es1 (k :: ks) := fun p hp => by
      rcases hin p hp with h1 | rfl
      · obtain ⟨k', hk', b, e1, lt, e2⟩ := P.els p h1
        exact ⟨k', .tail _ hk', b, e1, lt, is_keep sb1 P.ho P.ex e2⟩
      · exact ⟨k, .head _, a, rfl, haB, is_keep sb1 P.ho P.ex hx⟩
    have fl : t1.fill = es.size + 1 := by
      unfold SetTable.fill
      rw [hdm, hpl]
      rfl
    generalize hh1 : s.heap.update S (Obj.putSet es1 t1) = h1 at g1 sb1 els1
    show wpAny (model prog w) A _ Q E { s with heap := h1, toks := tk }
    by_cases tf : t1.tooFull = true
    · rw [tf]
      simp only [Bool.not_false, Bool.and_self, if_true]
      refine wpAny_bind ?_
      have fits1 : t1.fits es1.size = true := by
        have : t1.fill ≤ t1.mask := by rw [fl, hm]; omega
        simp [SetTable.fits, hpl, hes, this]
      have gr : SetTable.grown (es.size + 1) = 4 * (es.size + 1) := by
        unfold SetTable.grown
        rw [if_neg (by omega)]
        omega
      obtain ⟨e2, e2a, e2b, e2c, e2d⟩ := size_above (es.size + 1) (by omega)
      have pos : 1 ≤ (2 : Nat) ^ e2 := Nat.two_pow_pos e2
      obtain ⟨t2, order, f1, f2, f3, f4, f5, f6⟩ := laid_ok (t := t1) (hs := es1.map (·.1)) (wanted := 4 * (es.size + 1)) (e := e2) (by rw [e2c]; omega) (by rw [Array.size_map, hes]; omega)
      rw [Array.size_map] at f4 f5 f6
      rw [gr]
      unfold setRelay
      refine wpAny_bind (wpAny_setState_of (s := { s with heap := h1, toks := tk }) g1 rfl fits1 ?_)
      dsimp only
      have sl : ¬ SetTable.sizeAbove (4 * (es.size + 1)) > sizeLine := by
        have h2 : (2 : Nat) ^ e2 ≤ 2 ^ 12 := Nat.pow_le_pow_right (by decide) e2b
        omega
      rw [if_neg sl, f1]
      have ol : (order.filterMap (es1[·]?)).size = es1.size := by
        have := order_len (es := es1) order.toList f6
        rw [← Array.length_toList, Array.toList_filterMap, this, Array.length_toList, f5]
      refine wpAny_bind ?_
      show wpAny (model prog w) A (do
        if (order.filterMap (es1[·]?)).size != es1.size then unsupported "internal:set-table-lost-an-element"
        pure (order.filterMap (es1[·]?), t2)) _ E _
      have ob : ((order.filterMap (es1[·]?)).size != es1.size) = false := by rw [ol]; simp
      rw [ob]
      simp only [Bool.false_eq_true, if_false]
      refine wpAny_pure ?_
      dsimp only
      refine wpAny_storeSet_of (s := { s with heap := h1, toks := tk }) g1 rfl ?_ (by rw [ol]; omega)
      refine wpAny_pure ?_
      have sb2 : Heap.SameBut S h1 (h1.update S (Obj.putSet (order.filterMap (es1[·]?)) t2)) := Heap.SameBut.update _ _ _
      have g2 : (h1.update S (Obj.putSet (order.filterMap (es1[·]?)) t2)).get? S = some { o with data := .set (order.filterMap (es1[·]?)) (ep + 1 + 1) t2 } := put_at g1 rfl
      refine hQ _ _ tk (order.filterMap (es1[·]?)) (ep + 1 + 1) t2 e2 _ (sb1.trans sb2) ⟨g2, P.ex, rfl, f3, by rw [f4, ol], by rw [f2, e2c]; omega, e2a, e2b, by rw [ol, hes, f2]; omega, by rw [ol, hes, len]; rfl, fun p hp => ?_⟩
      have hp' := Array.mem_toList_iff.mp hp
      obtain ⟨i, _, hi⟩ := Array.mem_filterMap.mp hp'
      exact es_keep sb2 g1 P.ex els1 p (Array.mem_toList_iff.mpr (Array.mem_of_getElem? hi))
    · rw [Bool.not_eq_true] at tf
      rw [tf]
      simp only [Bool.and_false, Bool.false_eq_true, if_false]
      refine wpAny_pure (hQ _ h1 tk es1 (ep + 1) t1 e _ sb1 ⟨g1, P.ex, rfl, hdm, by rw [hpl, hes], by rw [hm]; exact P.pw, P.lo, P.hi, ?_, by rw [hes, len]; rfl, els1⟩)
      unfold SetTable.tooFull at tf
      have := of_decide_eq_false tf
      rw [fl, hm] at this
      rw [hes, hm]
      omega
  have pd : (t.put j).fst.dummies = #[] := by
    unfold SetTable.put
    dsimp only
    rw [P.dm]
    simp [SetTable.has]
  have pp : (t.put j).fst.place.size = es.size + 1 := by
    unfold SetTable.put
    dsimp only
    rw [ins_size, P.pl]
  have hin : ∀ p ∈ (SetTable.insertAt es (t.put j).snd (h, Value.ref a)).toList, p ∈ es.toList ∨ p = (h, .ref a) := fun p hp => ins_mem hp
  split
  · refine wpAny_bind (hash_any (s := { s with toks := tk }) hx fun b => ?_)
    cases b with
    | true => exact tail _ _ rfl pd pp (ins_size _ _ _) hin
    | false => exact tail _ _ rfl pd pp (ins_size _ _ _) hin
  · refine wpAny_bind (wpAny_pure ?_)
    exact tail _ _ rfl pd pp (ins_size _ _ _) hin
theorem is_move {hp h' : Heap} {b : Addr} (hx : (KD prog w).is hp k b) (kp : ∀ o, hp.get? b = some o → h'.get? b = some o) : (KD prog w).is h' k b := by
  obtain ⟨o1, items, n, e1, e⟩ := hx
  exact ⟨o1, items, n, kp _ e1, e⟩
theorem StAt.move {hp h' : Heap} {e : Nat} (P : StAt prog w B hp S ks es ep t e o) (k1 : ∀ o, hp.get? S = some o → h'.get? S = some o) (k2 : ∀ b o, b < B → hp.get? b = some o → h'.get? b = some o) : StAt prog w B h' S ks es ep t e o :=
  ⟨k1 _ P.ho, P.ex, P.hd, P.dm, P.pl, P.pw, P.lo, P.hi, P.few, P.len, fun p hp' => by
    obtain ⟨k', hk', b, e1, lt, e2⟩ := P.els p hp'
    exact ⟨k', hk', b, e1, lt, is_move e2 fun o e => k2 b o lt e⟩⟩
theorem set_loop {R : Result → Shared → Prop} {I : Addr} {fp wr : List Addr} {n : Nat} {Pv : Nat → Value → Prop} {St : Nat → Heap → Prop} (W : Walks prog w A.in1 I fp wr n Pv St) (hSf : S ∉ fp) (hSB : B ≤ S) (hwB : ∀ b ∈ wr, B ≤ b) (kf : Nat → List Key) (hu : A.in1.units < cLine) (hn : n < 400) (dis : ∀ i j, i < j → j < n → kf i ≠ kf j) :
    ∀ (m i : Nat) (s : Shared) (ks : List (List Key)) (es : Array (Int × Value)) (ep : Nat) (t : SetTable) (e : Nat) (o : Obj), i + m = n → St i s.heap → (∀ j v, Pv j v → ∃ a, v = .ref a ∧ a < B ∧ (KD prog w).is s.heap (kf j) a) → StAt prog w B s.heap S ks es ep t e o → ks.length = i → (∀ k ∈ ks, ∃ j, j < i ∧ k = kf j) →
      (∀ h' tk ks' es' ep' t' e' o', StAt prog w B h' S ks' es' ep' t' e' o' → ks'.length = n → (∀ b o, b ∉ S :: wr → s.heap.get? b = some o → h'.get? b = some o) → R (.ok (.ret .none)) { s with heap := h', toks := tk }) →
      codeAny (model prog w) A (.builtin "set.update.loop" ⟨[.ref S, .ref I], []⟩) R s := by
  have hSw : S ∉ wr := fun h => hSf (W.sub _ h)
  intro m
  induction m with
  | zero =>
    intro i s ks es ep t e o hi st hv P hl hks hR
    obtain rfl : i = n := hi
    (refine codeAny_builtin F.entry_set_update_loop ?_ ; rw [Around.under_plainId F.plain_set_update_loop _] ; show wpAny _ A.in1 (pyNext (.ref I) >>= _) _ _ s ; refine wpAny_bind (W.done s _ _ st fun h' tk hk => ?_))
    exact wpAny_pure (hR h' tk ks es ep t e o (P.move (fun o e => hk S o hSw e) fun b o lt e => hk b o (fun z => absurd (hwB b z) (by omega)) e) hl fun b o hb e => hk b o (fun z => hb (.tail _ z)) e)
  | succ m ih =>
    intro i s ks es ep t e o hi st hv P hl hks hR
    have hlt : i < n := by omega
    (refine codeAny_builtin F.entry_set_update_loop ?_ ; rw [Around.under_plainId F.plain_set_update_loop _] ; show wpAny _ A.in1 (pyNext (.ref I) >>= _) _ _ s ; refine wpAny_bind (W.item i s _ _ hlt st fun v h' tk hP st' hk => ?_))
    obtain ⟨a, rfl, haB, hx⟩ := hv i v hP
    have lowk : ∀ b o, b < B → s.heap.get? b = some o → h'.get? b = some o := fun b o lt e => hk b o (fun z => absurd (hwB b z) (by omega)) e
    have P' := P.move (h' := h') (fun o e => hk S o hSw e) lowk
    have hx' := is_move (h' := h') hx fun o e => lowk a o haB e
    (show wpAny _ A.in1 (holding [Value.ref a] (setAdd S (.ref a)) >>= _) _ _ _ ; refine wpAny_bind (wpAny_holding ?_))
    refine set_add (s := { s with heap := h', toks := tk }) P' hx' haB (fun z => ?_) hu (by omega) fun bb h2 tk2 es2 ep2 t2 e2 o2 sb P2 => ?_
    · obtain ⟨j, hj, ej⟩ := hks _ z
      exact dis j i hj hlt ej.symm
    · have lowk2 : ∀ b o, b < B → h'.get? b = some o → h2.get? b = some o := fun b o lt e => (sb.2 b (Nat.ne_of_lt (Nat.lt_of_lt_of_le lt hSB))).trans e
      refine wpAny_pure ⟨plainId_quiet F.plain_set_update_loop _, ih (i + 1) _ (kf i :: ks) es2 ep2 t2 e2 o2 (by omega) (W.frame _ _ _ st' fun b hb o e => (sb.2 b fun z => hSf (by rw [← z]; exact hb)).trans e) (fun j v hv' => ?_) P2 (by rw [List.length_cons, hl]) (fun k hk' => ?_) fun h3 tk3 ks3 es3 ep3 t3 e3 o3 P3 l3 k3 => ?_⟩
      · obtain ⟨a2, e1, l1, x1⟩ := hv j v hv'
        exact ⟨a2, e1, l1, is_move x1 fun o e => lowk2 a2 o l1 (lowk a2 o l1 e)⟩
      · rcases List.mem_cons.mp hk' with rfl | hk'
        · exact ⟨i, by omega, rfl⟩
        · obtain ⟨j, hj, ej⟩ := hks k hk'
          exact ⟨j, by omega, ej⟩
      · refine hR h3 tk3 ks3 es3 ep3 t3 e3 o3 P3 l3 fun b o hb e => k3 b o hb ?_
        exact (sb.2 b fun z => hb (by rw [z]; exact .head _)).trans (hk b o (fun z => hb (.tail _ z)) e)
end
end L2

set_option Elab.async false
set_option linter.all false
set_option maxRecDepth 100000
set_option maxHeartbeats 4000000
/-! set(a list of tuples, all unlike), and how many are in it -/
namespace PySem
open PySem.Spec PyProof.Rows L2
section
variable {prog : Program} {w : World} {A : Around} {E : Value → Shared → Prop} {s : Shared}
theorem call_setT {l : Addr} {items : Array Value} {kf : Nat → List Key} {Q : Value → Shared → Prop} (hh : A.handled = none) (hu : A.units + 64 < cLine) (hl : s.heap.IsList l items)
    (hk : ∀ i v, items[i]? = some v → ∃ a, v = .ref a ∧ (KD prog w).is s.heap (kf i) a) (dis : ∀ i j, i < j → j < items.size → kf i ≠ kf j) (hn : items.size < 400)
    (h : ∀ h' tk ks es ep t e o, StAt prog w s.heap.objs.size h' s.heap.objs.size ks es ep t e o → ks.length = items.size → (∀ b o, s.heap.get? b = some o → h'.get? b = some o) → Q (.ref s.heap.objs.size) { s with heap := h', toks := tk }) :
    wpAny (model prog w) A (call (.type "set") [.ref l]) Q E s := by
  obtain ⟨c, tl, hmro⟩ := F.called_set.mro
  have hmade := F.called_set.made
  have hsub := F.called_set.sub
  (refine wpAny_call (codeAny_of_tree ?_) ; show wpAny _ _ (callAny (.type "set") _) _ _ _ ; refine wpAny_pure ⟨Code.quiet_builtin _ (by decide +kernel), codeAny_builtin F.entry_type_call ?_⟩ ; rw [Around.under_plain (weight_type_call_type "set" [.ref l] []) rfl])
  have h1 := F.called_set.notType
  have h2 := F.called_set.canCreate
  have hct := F.typeCall_set_1 (.ref l)
  repeat (any_goals (first | assumption | wp_step))
  refine codeAny_mono (code_set_new_1 (.ref l) (E := E) (Q₁ := fun obj s₁ => ∃ led : Bool, obj = .ref s.heap.objs.size ∧ s₁ = { s with heap := s.heap.push ⟨.type "set", none, .set #[] 0 (.fresh 0 0 led), #[]⟩ }) fun led => ⟨led, rfl, rfl⟩) fun r s₁ hr => ?_
  cases r with
  | error e => exact hr
  | ok fl =>
    cases fl with
    | ret obj =>
      obtain ⟨led, rfl, rfl⟩ := hr
      have hS : (s.heap.push ⟨.type "set", none, .set #[] 0 (.fresh 0 0 led), #[]⟩).get? s.heap.objs.size = some ⟨.type "set", none, .set #[] 0 (.fresh 0 0 led), #[]⟩ := Heap.get?_push_size _ rfl
      have hT : Shared.TypeIs { s with heap := s.heap.push ⟨.type "set", none, .set #[] 0 (.fresh 0 0 led), #[]⟩ } (.ref s.heap.objs.size) "set" := ⟨_, hS, rfl⟩
      have hli := F.called_set.init.lookup
      have hbi := F.called_set.init.bind (.ref s.heap.objs.size)
      repeat (any_goals (first | assumption | wp_step))
      refine codeAny_mono (codeAny_call_builtin (R := wants (fun r s₂ => r = .none ∧ ∃ h' tk ks es ep t e o, s₂ = { s with heap := h', toks := tk } ∧ StAt prog w s.heap.objs.size h' s.heap.objs.size ks es ep t e o ∧ ks.length = items.size ∧ (∀ b o, s.heap.get? b = some o → h'.get? b = some o)) E) F.called_set.init.plain F.entry_set_init (check_set_init_1 hT ?_)) fun r₂ s₂ hr₂ => ?_
      · obtain ⟨⟨_, odict, _, oslots⟩, hol, rfl, nl, rfl⟩ := id hl
        have hol' := Heap.get?_push_of_some (⟨.type "set", none, .set #[] 0 (.fresh 0 0 led), #[]⟩ : Obj) hol
        have hsls := F.sub_list_set
        have hslf := F.sub_list_frozenset
        have hne : (Value.type "list" == Value.type "dict") = false := by decide
        have hl1 : (s.heap.push ⟨.type "set", none, .set #[] 0 (.fresh 0 0 led), #[]⟩).IsList l items := ⟨_, hol', rfl, nl, rfl⟩
        unfold Builtin.«set.__init__» noKeywords Builtin.Frozenset.updateFrom
        generalize hPI : pyIter = PI
        wp_walk
        subst hPI
        (refine wpAny_pyIter_list hl1 ?_ ; refine wpAny_bind (wpAny_runValue ?_))
        have hlS : l < s.heap.objs.size := Heap.lt_size hol
        have zI : (s.heap.push ⟨.type "set", none, .set #[] 0 (.fresh 0 0 led), #[]⟩).objs.size = s.heap.objs.size + 1 := Heap.size_push _ _
        have W := Walks.list (prog := prog) (w := w) (A := A.in1.in1.in1) (by simp [hh]) (s.heap.push ⟨.type "set", none, .set #[] 0 (.fresh 0 0 led), #[]⟩).objs.size l (by rw [zI]; exact Nat.ne_of_lt (Nat.lt_succ_of_lt hlS)) items
        have P0 : StAt prog w s.heap.objs.size ((s.heap.push ⟨.type "set", none, .set #[] 0 (.fresh 0 0 led), #[]⟩).push ⟨.type "list_iterator", none, .fields #[.ref l, .int 0 0], #[]⟩) s.heap.objs.size [] #[] 0 (.fresh 0 0 led) 3 ⟨.type "set", none, .set #[] 0 (.fresh 0 0 led), #[]⟩ :=
          ⟨Heap.get?_push_of_some _ hS, ⟨rfl, rfl, rfl⟩, rfl, rfl, rfl, rfl, by decide, by decide, (show 0 * 5 < 7 * 3 by decide), rfl, fun p hp => by cases hp⟩
        refine set_loop (A := A.in1.in1) (B := s.heap.objs.size) (S := s.heap.objs.size) W ?_ (Nat.le_refl _) ?_ kf ?_ hn dis (items.size - 0) 0 _ [] #[] 0 (.fresh 0 0 led) 3 _ (by omega) ⟨⟨_, Heap.get?_push_size _ rfl, rfl, rfl⟩, (hl1.push _)⟩ (fun j v hv => ?_) P0 rfl (fun k hk => by cases hk) fun h' tk ks es ep t e o P l1 k1 => ?_
        · rw [zI]
          simp only [List.mem_cons, List.not_mem_nil, or_false, not_or]
          exact ⟨Nat.ne_of_lt (Nat.lt_succ_self _), Nat.ne_of_gt hlS⟩
        · intro b hb
          obtain rfl := List.mem_singleton.mp hb
          rw [zI]
          exact Nat.le_succ _
        · show A.units + 3 < cLine
          omega
        · obtain ⟨a, e1, e2⟩ := hk j v hv
          have ha : a < s.heap.objs.size := let ⟨_, _, _, e, _⟩ := e2; Heap.lt_size e
          exact ⟨a, e1, ha, is_move e2 fun o e => Heap.get?_push_of_some _ (Heap.get?_push_of_some _ e)⟩
        · show wpAny _ _ _ _ _ _
          refine wpAny_pure ?_
          show wpAny _ _ (ret Value.none) _ _ _
          refine wpAny_pure ⟨rfl, h', tk, ks, es, ep, t, e, o, rfl, P, l1, fun b o e => k1 b o (fun z => ?_) (Heap.get?_push_of_some _ (Heap.get?_push_of_some _ e))⟩
          have hb : b < s.heap.objs.size := Heap.lt_size e
          rcases List.mem_cons.mp z with z | z
          · exact Nat.lt_irrefl _ (z ▸ hb)
          · have z' := List.mem_singleton.mp z
            rw [zI] at z'
            rw [z'] at hb
            exact absurd hb (Nat.not_lt_of_lt (Nat.lt_succ_self _))
      · cases r₂ with
        | error e => exact hr₂
        | ok fl₂ =>
          cases fl₂ with
          | ret r =>
            obtain ⟨rfl, h', tk, ks, es, ep, t, e, o, rfl, P, l1, k1⟩ := hr₂
            repeat (any_goals (first | assumption | wp_step))
            exact h _ _ ks es ep t e o P l1 k1
          | next => exact hr₂.elim
          | brk => exact hr₂.elim
          | cont => exact hr₂.elim
    | next => exact hr.elim
    | brk => exact hr.elim
    | cont => exact hr.elim
end
end PySem

set_option Elab.async false
set_option linter.all false
set_option maxRecDepth 100000
set_option maxHeartbeats 4000000
namespace L2
open PySem PySem.Spec PySem.Calls PySem.W PyProof.Rows
/-- a set of so many things -/
def SetO (l : Addr) (n : Nat) : HO := .ext fun h => ∃ o es ep t, h.get? l = some o ∧ o.ExactSet ∧ o.data = .set es ep t ∧ t.fits es.size = true ∧ es.size = n
section
variable {X : Cx}
theorem call_setP (hc : X.calm = true) (hu : X.A.units + 64 < cLine) : CallR X (.type "set") (fun xs H Q => ∃ (p : Addr) (vs : List V) (pt : Nat → Int × Int), xs = [.ref p] ∧ SqL X.K H p vs ∧
    (∀ i v, vs[i]? = some v → ∃ a, v = .ref a ∧ H a = some (.tup [.int (pt i).1, .int (pt i).2])) ∧ (∀ i j, i < j → j < vs.length → pt i ≠ pt j) ∧ vs.length < 400 ∧ ∀ l, H l = none → Q (.ref l) (upd H l (SetO l vs.length))) := by
  intro pins s σ H xs us Q I r h
  obtain ⟨p, vs, pt, rfl, hS, hP, hd, hn, q⟩ := h
  obtain ⟨u, rfl, ru⟩ := vals1 r
  cases (show u = Value.ref p from ru)
  obtain ⟨its, rv, pl, hz⟩ := I.list hS
  have hlen : its.length = vs.length := rv.length.symm
  refine call_setT (kf := fun i => [Sum.inl (pt i).1, Sum.inl (pt i).2]) (I.ok.hd hc) hu pl.isList (fun i v hv => ?_) (fun i j hij hj e => ?_) (by rw [List.size_toArray]; omega) fun h' tk ks es ep t e o P l1 k1 => ?_
  · have hi : i < vs.length := by
      have := (Array.getElem?_eq_some_iff.mp hv).1
      rw [List.size_toArray] at this
      omega
    obtain ⟨u, eu, ru⟩ := rv.get (i := i) (List.getElem?_eq_getElem hi)
    obtain ⟨a, ea, fa⟩ := hP i _ (List.getElem?_eq_getElem hi)
    rw [ea] at ru
    obtain rfl : u = Value.ref a := ru
    have ev : v = Value.ref a := by
      have : its.toArray[i]? = some (.ref a) := by simpa using eu
      exact Option.some.inj (hv.symm.trans this)
    exact ⟨a, ev, key_of I.hok fa⟩
  · rw [List.size_toArray] at hj
    refine hd i j hij (by omega) ?_
    have e1 : [Sum.inl (pt i).1, Sum.inl (pt i).2] = ([Sum.inl (pt j).1, Sum.inl (pt j).2] : List Key) := e
    injection e1 with e2 e3
    injection e3 with e4 e5
    exact Prod.ext (Sum.inl.inj e2) (Sum.inl.inj e4)
  · rw [List.size_toArray, hlen] at l1
    refine ⟨.ref s.heap.objs.size, _, I.laid (a := s.heap.objs.size) (o := SetO s.heap.objs.size vs.length) (t' := tk) k1 (Nat.le_refl _) ⟨⟨o, es, ep, t, P.ho, P.ex, P.hd, P.fits, by rw [P.len, l1]⟩, ⟨o, P.ho⟩, fun h1 h2 ⟨o, es, ep, t, e1, r⟩ k => ⟨o, es, ep, t, k _ e1, r⟩⟩, rfl, q _ (I.hok.fresh (Nat.le_refl _))⟩
theorem call_lenS : CallR X (.builtin "len") (fun xs H Q => ∃ (l : Addr) (n : Nat), xs = [.ref l] ∧ H l = some (SetO l n) ∧ n < 400 ∧ Q (.int n) H) := by
  intro pins s σ H xs us Q I r h
  obtain ⟨l, n, rfl, hl, hn, q⟩ := h
  obtain ⟨u, rfl, ru⟩ := vals1 r
  cases (show u = Value.ref l from ru)
  obtain ⟨⟨o, es, ep, t, e1, e2, e3, e4, e5⟩, _⟩ := I.hok l _ hl
  refine call_len_set e1 e2 e3 e4 (by rw [e5]; omega) ?_
  rw [e5]
  exact ⟨.int n, H, I.tok _, ⟨_, rfl⟩, q⟩
end
end L2

set_option Elab.async false
set_option linter.all false
set_option maxRecDepth 100000
set_option maxHeartbeats 4000000
namespace My
open PySem L2
def top (i : Nat) : Stmt := PySem.Challenge.pw_crookroad_k09_tail_and_ring.main.body.getD i (.Pass ⟨0, 0, 0, 0⟩)
abbrev s_trace : Stmt := top 10
theorem sc_trace : FnScope ["road", "start", "places", "here"] ["road", "start"] (defScope s_trace) := ⟨rfl, rfl, rfl, by decide +kernel, rfl, by decide +kernel, by decide +kernel⟩
theorem bd_trace : BindOk "trace" s_trace ["road", "start"] := fun _ _ _ _ _ _ us hl => match us, hl with | [_, _], _ => rfl
abbrev s_tail_ring : Stmt := top 11
theorem sc_tail_ring : FnScope ["road", "point", "points", "turn"] ["road", "point"] (defScope s_tail_ring) := ⟨rfl, rfl, rfl, by decide +kernel, rfl, by decide +kernel, by decide +kernel⟩
theorem bd_tail_ring : BindOk "tail_ring" s_tail_ring ["road", "point"] := fun _ _ _ _ _ _ us hl => match us, hl with | [_, _], _ => rfl
abbrev s_check_bottom : Stmt := top 13
theorem sc_check_bottom : FnScope ["bottom"] ["bottom"] (defScope s_check_bottom) := ⟨rfl, rfl, rfl, by decide +kernel, rfl, by decide +kernel, by decide +kernel⟩
theorem bd_check_bottom : BindOk "check_bottom" s_check_bottom ["bottom"] := fun _ _ _ _ _ _ us hl => match us, hl with | [_], _ => rfl
abbrev s_common_divisor : Stmt := top 14
theorem sc_common_divisor : FnScope ["one", "other"] ["one", "other"] (defScope s_common_divisor) := ⟨rfl, rfl, rfl, by decide +kernel, rfl, by decide +kernel, by decide +kernel⟩
theorem bd_common_divisor : BindOk "common_divisor" s_common_divisor ["one", "other"] := fun _ _ _ _ _ _ us hl => match us, hl with | [_, _], _ => rfl
abbrev s_lowest : Stmt := top 15
theorem sc_lowest : FnScope ["top", "bottom", "divisor"] ["top", "bottom"] (defScope s_lowest) := ⟨rfl, rfl, rfl, by decide +kernel, rfl, by decide +kernel, by decide +kernel⟩
theorem bd_lowest : BindOk "lowest" s_lowest ["top", "bottom"] := fun _ _ _ _ _ _ us hl => match us, hl with | [_, _], _ => rfl
abbrev s_is_line : Stmt := top 18
theorem sc_is_line : FnScope ["heights", "width"] ["heights"] (defScope s_is_line) := ⟨rfl, rfl, rfl, by decide +kernel, rfl, by decide +kernel, by decide +kernel⟩
theorem bd_is_line : BindOk "is_line" s_is_line ["heights"] := fun _ _ _ _ _ _ us hl => match us, hl with | [_], _ => rfl
abbrev s_Road___init__ : Stmt := inClass (top 19) 0
theorem sc_Road___init__ : FnScope ["self", "heights"] ["self", "heights"] (defScope s_Road___init__) := ⟨rfl, rfl, rfl, by decide +kernel, rfl, by decide +kernel, by decide +kernel⟩
theorem bd_Road___init__ : BindOkM "__init__" "Road.__init__" s_Road___init__ ["self", "heights"] := fun _ _ _ _ _ _ us hl => match us, hl with | [_, _], _ => rfl
abbrev s_Road_width : Stmt := inClass (top 19) 1
theorem sc_Road_width : FnScope ["self"] ["self"] (defScope s_Road_width) := ⟨rfl, rfl, rfl, by decide +kernel, rfl, by decide +kernel, by decide +kernel⟩
theorem bd_Road_width : BindOkM "width" "Road.width" s_Road_width ["self"] := fun _ _ _ _ _ _ us hl => match us, hl with | [_], _ => rfl
abbrev s_Road_ends : Stmt := inClass (top 19) 3
theorem sc_Road_ends : FnScope ["self", "stretch"] ["self", "stretch"] (defScope s_Road_ends) := ⟨rfl, rfl, rfl, by decide +kernel, rfl, by decide +kernel, by decide +kernel⟩
theorem bd_Road_ends : BindOkM "ends" "Road.ends" s_Road_ends ["self", "stretch"] := fun _ _ _ _ _ _ us hl => match us, hl with | [_, _], _ => rfl
abbrev s_Road_on_road : Stmt := inClass (top 19) 6
theorem sc_Road_on_road : FnScope ["self", "point", "top", "bottom"] ["self", "point"] (defScope s_Road_on_road) := ⟨rfl, rfl, rfl, by decide +kernel, rfl, by decide +kernel, by decide +kernel⟩
theorem bd_Road_on_road : BindOkM "on_road" "Road.on_road" s_Road_on_road ["self", "point"] := fun _ _ _ _ _ _ us hl => match us, hl with | [_, _], _ => rfl
abbrev s_Road_at : Stmt := inClass (top 19) 7
theorem sc_Road_at : FnScope ["self", "point", "top", "bottom", "stretch", "left", "right", "beyond"] ["self", "point"] (defScope s_Road_at) := ⟨rfl, rfl, rfl, by decide +kernel, rfl, by decide +kernel, by decide +kernel⟩
theorem bd_Road_at : BindOkM "at" "Road.at" s_Road_at ["self", "point"] := fun _ _ _ _ _ _ us hl => match us, hl with | [_, _], _ => rfl
abbrev s__law_cell : Stmt := top 21
theorem sc__law_cell : FnScope ["_law_script", "_law_at"] ["_law_script", "_law_at"] (defScope s__law_cell) := ⟨rfl, rfl, rfl, by decide +kernel, rfl, by decide +kernel, by decide +kernel⟩
theorem bd__law_cell : BindOk "_law_cell" s__law_cell ["_law_script", "_law_at"] := fun _ _ _ _ _ _ us hl => match us, hl with | [_, _], _ => rfl
abbrev s__law_pick : Stmt := top 22
theorem sc__law_pick : FnScope ["_law_script", "_law_at", "_law_turn", "_law_many", "_law_cell_here", "_law_left", "_law_k", "_law_low_here", "_law_one", "_law_two"] ["_law_script", "_law_at", "_law_turn", "_law_many"] (defScope s__law_pick) := ⟨rfl, rfl, rfl, by decide +kernel, rfl, by decide +kernel, by decide +kernel⟩
theorem bd__law_pick : BindOk "_law_pick" s__law_pick ["_law_script", "_law_at", "_law_turn", "_law_many"] := fun _ _ _ _ _ _ us hl => match us, hl with | [_, _, _, _], _ => rfl
abbrev s__law_climb : Stmt := top 23
theorem sc__law_climb : FnScope ["_law_script", "_law_at", "_law_wide", "_law_row", "_law_k"] ["_law_script", "_law_at", "_law_wide"] (defScope s__law_climb) := ⟨rfl, rfl, rfl, by decide +kernel, rfl, by decide +kernel, by decide +kernel⟩
theorem bd__law_climb : BindOk "_law_climb" s__law_climb ["_law_script", "_law_at", "_law_wide"] := fun _ _ _ _ _ _ us hl => match us, hl with | [_, _, _], _ => rfl
abbrev s__law_heights : Stmt := top 24
theorem sc__law_heights : FnScope ["_law_script", "_law_at", "_law_most", "_law_wide", "_law_kind"] ["_law_script", "_law_at", "_law_most"] (defScope s__law_heights) := ⟨rfl, rfl, rfl, by decide +kernel, rfl, by decide +kernel, by decide +kernel⟩
theorem bd__law_heights : BindOk "_law_heights" s__law_heights ["_law_script", "_law_at", "_law_most"] := fun _ _ _ _ _ _ us hl => match us, hl with | [_, _, _], _ => rfl
abbrev s__law_step : Stmt := top 25
theorem sc__law_step : FnScope ["_law_heights_here", "_law_top", "_law_bottom", "_law_k"] ["_law_heights_here", "_law_top", "_law_bottom"] (defScope s__law_step) := ⟨rfl, rfl, rfl, by decide +kernel, rfl, by decide +kernel, by decide +kernel⟩
theorem bd__law_step : BindOk "_law_step" s__law_step ["_law_heights_here", "_law_top", "_law_bottom"] := fun _ _ _ _ _ _ us hl => match us, hl with | [_, _, _], _ => rfl
abbrev s__law_whole : Stmt := top 26
theorem sc__law_whole : FnScope ["_law_found"] ["_law_found"] (defScope s__law_whole) := ⟨rfl, rfl, rfl, by decide +kernel, rfl, by decide +kernel, by decide +kernel⟩
theorem bd__law_whole : BindOk "_law_whole" s__law_whole ["_law_found"] := fun _ _ _ _ _ _ us hl => match us, hl with | [_], _ => rfl
abbrev s__law_common : Stmt := top 27
theorem sc__law_common : FnScope ["_law_one", "_law_other"] ["_law_one", "_law_other"] (defScope s__law_common) := ⟨rfl, rfl, rfl, by decide +kernel, rfl, by decide +kernel, by decide +kernel⟩
theorem bd__law_common : BindOk "_law_common" s__law_common ["_law_one", "_law_other"] := fun _ _ _ _ _ _ us hl => match us, hl with | [_, _], _ => rfl
abbrev s__law_low : Stmt := top 28
theorem sc__law_low : FnScope ["_law_top", "_law_bottom", "_law_by"] ["_law_top", "_law_bottom"] (defScope s__law_low) := ⟨rfl, rfl, rfl, by decide +kernel, rfl, by decide +kernel, by decide +kernel⟩
theorem bd__law_low : BindOk "_law_low" s__law_low ["_law_top", "_law_bottom"] := fun _ _ _ _ _ _ us hl => match us, hl with | [_, _], _ => rfl
abbrev s__law_point : Stmt := top 29
theorem sc__law_point : FnScope ["_law_found"] ["_law_found"] (defScope s__law_point) := ⟨rfl, rfl, rfl, by decide +kernel, rfl, by decide +kernel, by decide +kernel⟩
theorem bd__law_point : BindOk "_law_point" s__law_point ["_law_found"] := fun _ _ _ _ _ _ us hl => match us, hl with | [_], _ => rfl
abbrev s__law_points : Stmt := top 30
theorem sc__law_points : FnScope ["_law_found"] ["_law_found"] (defScope s__law_points) := ⟨rfl, rfl, rfl, by decide +kernel, rfl, by decide +kernel, by decide +kernel⟩
theorem bd__law_points : BindOk "_law_points" s__law_points ["_law_found"] := fun _ _ _ _ _ _ us hl => match us, hl with | [_], _ => rfl
abbrev s__law_spot : Stmt := top 31
theorem sc__law_spot : FnScope ["_law_script", "_law_at", "_law_wide", "_law_most", "_law_bottom", "_law_top", "_law_by"] ["_law_script", "_law_at", "_law_wide", "_law_most"] (defScope s__law_spot) := ⟨rfl, rfl, rfl, by decide +kernel, rfl, by decide +kernel, by decide +kernel⟩
theorem bd__law_spot : BindOk "_law_spot" s__law_spot ["_law_script", "_law_at", "_law_wide", "_law_most"] := fun _ _ _ _ _ _ us hl => match us, hl with | [_, _, _, _], _ => rfl
abbrev s__law_pair : Stmt := top 32
theorem sc__law_pair : FnScope ["_law_found"] ["_law_found"] (defScope s__law_pair) := ⟨rfl, rfl, rfl, by decide +kernel, rfl, by decide +kernel, by decide +kernel⟩
theorem bd__law_pair : BindOk "_law_pair" s__law_pair ["_law_found"] := fun _ _ _ _ _ _ us hl => match us, hl with | [_], _ => rfl
abbrev s__law_right : Stmt := top 33
theorem sc__law_right : FnScope ["_law_road", "_law_heights_here", "_law_point_here", "_law_top", "_law_bottom", "_law_found", "_law_together", "_law_told", "_law_again"] ["_law_road", "_law_heights_here", "_law_point_here"] (defScope s__law_right) := ⟨rfl, rfl, rfl, by decide +kernel, rfl, by decide +kernel, by decide +kernel⟩
theorem bd__law_right : BindOk "_law_right" s__law_right ["_law_road", "_law_heights_here", "_law_point_here"] := fun _ _ _ _ _ _ us hl => match us, hl with | [_, _, _], _ => rfl
abbrev s_law : Stmt := top 34
theorem sc_law : FnScope ["_law_script", "_law_heights_here", "_law_road", "_law_most", "_law_point_here", "_law_other", "_law_second", "_law_spot_here"] ["_law_script"] (defScope s_law) := ⟨rfl, rfl, rfl, by decide +kernel, rfl, by decide +kernel, by decide +kernel⟩
local macro_rules | `(tactic| walk_at "sq") => `(tactic| first | assumption | exact SqT.new | exact SqL.new | ((with_reducible refine Same.sqt (Same.upd (by assumption)) ?_); walk_at "sq") | ((with_reducible refine Same.sql (Same.upd (by assumption)) ?_); walk_at "sq"))
local macro_rules | `(tactic| walk_at "at") => `(tactic| first | rfl | exact at_ints (by omega) (by omega))
local macro_rules | `(tactic| walk_at "mul") => `(tactic| first | assumption | exact IntMulOk.of_left (intBits_le_64 (by omega) (by omega)) | exact IntMulOk.of_right (intBits_le_64 (by omega) (by omega)) | exact Sm.ok (by assumption) (by assumption) (by decide))
local macro_rules | `(tactic| walk_at "pos") => `(tactic| first | omega | decide +kernel)
local macro_rules | `(tactic| walk_at "div") => `(tactic| exact ⟨by first | omega | decide +kernel, by unfold Sm; decide +kernel⟩)
local macro_rules | `(tactic| walk_at "loc") => `(tactic| first | exact Or.inl rfl | exact Or.inr rfl)
local macro_rules | `(tactic| walk_at "cap") => `(tactic| repeat (first | exact trivial | refine ⟨rfl, ?_⟩))
local macro_rules | `(tactic| walk_at "has") => `(tactic| repeat (first | exact trivial | (refine ⟨fun z => ?_, by decide, ?_⟩; (first | exact ⟨_, rfl⟩ | cases z))))
local macro_rules | `(tactic| walk_at "cix") => `(tactic| repeat (first | exact trivial | refine ⟨⟨_, _, rfl, rfl, rfl, rfl⟩, ?_⟩))
local macro_rules | `(tactic| walk_at "hasK") => `(tactic| repeat (first | exact trivial | (refine ⟨fun z => ?_, fun z => ?_, ?_⟩; (first | exact ⟨_, rfl⟩ | cases z); (first | rfl | cases z))))
structure Txt (K : PySem.W.Frag) (mg : Str → Option Value) (C_BadLine : Addr) (C_BadBottom : Addr) (C_OffRoad : Addr) (C_BadRow : Addr) (C_TooLong : Addr) (C_Road : Addr) : Prop where
  len_ : mg "len" = none
  abs_ : mg "abs" = none
  range_ : mg "range" = none
  isinstance_ : mg "isinstance" = none
  int_ : mg "int" = none
  bool_ : mg "bool" = none
  list_ : mg "list" = none
  tuple_ : mg "tuple" = none
  min_ : mg "min" = none
  max_ : mg "max" = none
  all_ : mg "all" = none
  set_ : mg "set" = none
  g_BadLine : mg "BadLine" = some (.ref C_BadLine)
  x_BadLine : ExcC K C_BadLine
  g_BadBottom : mg "BadBottom" = some (.ref C_BadBottom)
  x_BadBottom : ExcC K C_BadBottom
  g_OffRoad : mg "OffRoad" = some (.ref C_OffRoad)
  x_OffRoad : ExcC K C_OffRoad
  g_BadRow : mg "BadRow" = some (.ref C_BadRow)
  x_BadRow : ExcC K C_BadRow
  g_TooLong : mg "TooLong" = some (.ref C_TooLong)
  x_TooLong : ExcC K C_TooLong
  cl : Cls K C_Road
  na : NoAttr K C_Road "heights"
  g_WIDEST : ∃ t, mg "WIDEST" = some (.int 24 t)
  g_Road : mg "Road" = some (.ref C_Road)
  g_LONGEST_TRACE : ∃ t, mg "LONGEST_TRACE" = some (.int 1000 t)
section
variable {P : Program} {w : World} {K : PySem.W.Frag} {mg : Str → Option Value} {base : Heap} {C_BadLine : Addr} {C_BadBottom : Addr} {C_OffRoad : Addr} {C_BadRow : Addr} {C_TooLong : Addr} {C_Road : Addr}
def spCheck (C : Addr) : Sp := fun vs H Q E => ∃ b : Int, vs = [.int b] ∧ (1 ≤ b → Q .non H) ∧ (b < 1 → E (.ref C) none H)
theorem ok_check {f : Addr} {fd : FuncData} (F : Fun K "check_bottom" "check_bottom" s_check_bottom f fd) (T : Txt K mg C_BadLine C_BadBottom C_OffRoad C_BadRow C_TooLong C_Road) : FnOk P w K mg base (CXE P w) 1 f fd ["bottom"] (spCheck C_BadBottom) := by
  have sc := sc_check_bottom
  refine F.okX sc (fun vs H Q E h => by obtain ⟨b, rfl, _⟩ := h; rfl) (fun cdv A outer s H vs Q E hr h => ?_)
  obtain ⟨b, rfl, h1, h2⟩ := h
  refine ⟨_, (pss_one (ps_if (pt_cmpR op_lt (pv 0) pe_int (nomark _)) (pss_one (ps_raise rfl T.x_BadBottom raiseE_def rfl T.g_BadBottom (pa_cons pe_str pa_nil))) pss_nil)), ?_⟩
  refine ⟨_, rfl, _, _, rfl, rfl, _, rfl, ?_⟩
  refine iteD (fun q1 => ?_) (fun q1 => ?_)
  · exact ⟨by decide, h2 q1⟩
  · exact h1 (by omega)
theorem ok_cell {f : Addr} {fd : FuncData} (F : Fun K "_law_cell" "_law_cell" s__law_cell f fd) (T : Txt K mg C_BadLine C_BadBottom C_OffRoad C_BadRow C_TooLong C_Road) : FnOk P w K mg base (CXE P w) 1 f fd ["_law_script", "_law_at"] (spCell K) := by
  have sc := sc__law_cell
  refine F.okX sc (fun vs H Q E h => by obtain ⟨a, ns, i, rfl, _⟩ := h; rfl) (fun cdv A outer s H vs Q E hr h => ?_)
  obtain ⟨a, ns, i, rfl, hS, h0, k⟩ := h
  have hlen : (ns.map V.int).length = ns.length := List.length_map _
  refine ⟨_, (pss_cons (ps_if (pt_cmpR op_lt (pv 1) (pe_callB call_len_seq rfl T.len_ PySem.boot_len (pa_cons (pv 0) pa_nil)) (nomark _)) (pss_one (ps_ret (pe_ix ix_list (pv 0) (pv 1) (fun _ _ => rfl)))) pss_nil)
      (pss_cons (ps_if (pt_cmpR op_eq (pe_callB call_len_seq rfl T.len_ PySem.boot_len (pa_cons (pv 0) pa_nil)) pe_int (nomark _)) (pss_one (ps_ret (pe_op op_add (pe_op op_mulX pe_int (pv 1)) pe_int))) pss_nil)
      (pss_one (ps_ret (pe_op op_add (pe_ix ix_list (pv 0) (pe_op op_mod (pv 1) (pe_callB call_len_seq rfl T.len_ PySem.boot_len (pa_cons (pv 0) pa_nil))) (fun _ _ => rfl)) (pe_op op_mulX pe_int (pv 1))))))), ?_⟩
  refine ⟨_, rfl, _, rfl, _, _, rfl, .inl hS, _, _, rfl, rfl, _, rfl, ?_⟩
  refine iteD (fun q1 => ?_) (fun q1 => ?_)
  · rw [hlen] at q1
    refine ⟨_, rfl, _, rfl, _, _, _, _, rfl, rfl, hS, at_ints h0 q1, ?_⟩
    exact k _ (by rw [cellF, if_pos q1])
  · rw [hlen] at q1
    refine ⟨_, rfl, _, _, rfl, .inl hS, rfl, _, rfl, ?_⟩
    rw [hlen]
    refine iteDV (fun q2 => ?_) (fun q2 => ?_)
    · refine ⟨_, rfl, _, _, rfl, rfl, (by walk_at "mul"), _, _, rfl, rfl, ?_⟩
      exact k _ (by rw [cellF, if_neg q1, if_pos q2])
    · refine ⟨_, rfl, _, rfl, _, rfl, _, _, rfl, .inl hS, _, _, rfl, rfl, (by rw [hlen]; omega), ?_⟩
      rw [hlen]
      refine ⟨_, _, _, _, rfl, rfl, hS, at_ints (Int.emod_nonneg _ q2) (Int.emod_lt_of_pos _ (by omega)), _, rfl, _, _, rfl, rfl, (by walk_at "mul"), _, _, rfl, rfl, ?_⟩
      exact k _ (by rw [cellF, if_neg q1, if_neg q2])
theorem ok_pick {f : Addr} {fd : FuncData} (F : Fun K "_law_pick" "_law_pick" s__law_pick f fd) (T : Txt K mg C_BadLine C_BadBottom C_OffRoad C_BadRow C_TooLong C_Road) (c__law_cell : Cal P w K mg base "_law_cell" 1 (spCell K)) : FnOk P w K mg base (CXE P w) 2 f fd ["_law_script", "_law_at", "_law_turn", "_law_many"] (spPick K) := by
  have sc := sc__law_pick
  refine F.okX sc (fun vs H Q E h => by obtain ⟨a, ns, i, t, m, rfl, _⟩ := h; rfl) (fun cdv A outer s H vs Q E hr h => ?_)
  obtain ⟨a, ns, i, t, m, rfl, hS, h0, t0, t1, m0, k⟩ := h
  refine ⟨_, (pss_cons (ps_set (i := 4) sc.nd rfl (by walk_at "loc") (pe_callC c__law_cell (hr.mono (by decide)) rfl passE_def (pa_cons (pv 0) (pa_cons (pv 1) pa_nil))))
      (pss_cons (ps_if (pt_cmpR op_ge (pe_callB call_abs rfl T.abs_ boot_abs (pa_cons (pv 4) pa_nil)) (pe_op op_pow pe_int pe_int) (nomark _)) (pss_cons (ps_set (i := 5) sc.nd rfl (by walk_at "loc") (pe_callB call_abs rfl T.abs_ boot_abs (pa_cons (pv 4) pa_nil)))
      (pss_cons (ps_for PassesOwn.leaving rfl (pi_range1 rfl T.range_ (pa_cons (pv 2) pa_nil)) (pg_name (i := 6) sc.nd rfl (by walk_at "loc")) (pss_one (ps_set (i := 5) sc.nd rfl (by walk_at "loc") (pe_op op_fdivX (pv 5) pe_int))))
      (pss_cons (ps_if (pt_cmpR op_lt (pv 4) pe_int (nomark _)) (pss_one (ps_set (i := 5) sc.nd rfl (by walk_at "loc") (pe_op op_mod (pv 5) pe_int))) pss_nil)
      (pss_one (ps_ret (pe_op op_mod (pv 5) (pv 3))))))) pss_nil)
      (pss_cons (ps_set (i := 7) sc.nd rfl (by walk_at "loc") (pe_op op_mod (pv 4) pe_int))
      (pss_cons (ps_set (i := 8) sc.nd rfl (by walk_at "loc") (pe_op op_mod (pe_op op_add (pe_op op_add (pe_op op_mulX (pv 7) pe_int) (pe_op op_mulX (pv 2) pe_int)) pe_int) pe_int))
      (pss_cons (ps_set (i := 9) sc.nd rfl (by walk_at "loc") (pe_op op_mod (pe_op op_add (pe_op op_add (pe_op op_mulX (pv 8) (pv 8)) (pe_op op_mulX (pv 7) pe_int)) (pe_op op_mulX (pv 2) pe_int)) pe_int))
      (pss_one (ps_ret (pe_op op_mod (pe_op op_mod (pe_op op_add (pe_op op_add (pe_op op_mulX (pv 9) (pv 9)) (pe_op op_mulX (pv 8) pe_int)) (pe_op op_mulX (pv 2) pe_int)) pe_int) (pv 3))))))))), ?_⟩
  refine ⟨_, rfl, _, rfl, ?_⟩
  refine ⟨a, ns, i, rfl, hS, h0, fun c hc => ?_⟩
  have fin : ∀ v, v = rawF c t % m → Q (.int v) H := fun v hv => by
    refine k v (by rw [hv, pickF, hc]) ?_ ?_
    · rw [hv]; exact Int.emod_nonneg _ (by omega)
    · rw [hv]; exact Int.emod_lt_of_pos _ m0
  refine ⟨_, rfl, _, rfl, _, _, rfl, rfl, ⟨by decide, by decide, by decide⟩, _, _, rfl, rfl, _, rfl, ?_⟩
  refine iteD (fun q1 => ?_) (fun q1 => ?_)
  · have q1' : 10 ^ 18 ≤ absI c := q1
    refine ⟨_, rfl, _, rfl, ?_⟩
    refine ⟨_, rfl, t, rfl, (by omega), (by omega), for_range (fun j σ H1 => H1 = H ∧ ∃ z, σ = [some (.ref a), some (.int i), some (.int t), some (.int m), some (.int c), some (.int (divs (absI c) j)), z, none, none, none]) ⟨rfl, _, rfl⟩ ?_ ?_⟩
    · rintro j σ H1 hj ⟨rfl, z, rfl⟩
      exact ⟨_, rfl, _, _, rfl, rfl, (by walk_at "div"), rfl, _, rfl⟩
    · rintro σ H1 ⟨rfl, z, rfl⟩
      refine ⟨_, rfl, _, _, rfl, rfl, _, rfl, ?_⟩
      refine iteD (fun q2 => ?_) (fun q2 => ?_)
      · refine ⟨_, rfl, _, _, rfl, rfl, (by walk_at "pos"), _, rfl, _, rfl, _, _, rfl, rfl, (by walk_at "pos"), ?_⟩
        exact fin _ (by rw [rawF_big q1' q2])
      · refine ⟨_, rfl, _, rfl, _, _, rfl, rfl, (by walk_at "pos"), ?_⟩
        exact fin _ (by rw [rawF_bigp q1' q2])
  · have q1' : ¬ 10 ^ 18 ≤ absI c := q1
    have l0 := Int.emod_nonneg c (show (1000003 : Int) ≠ 0 by decide)
    have l1 := Int.emod_lt_of_pos c (show (0 : Int) < 1000003 by decide)
    refine ⟨_, rfl, _, _, rfl, rfl, (by walk_at "pos"), _, rfl, _, _, rfl, rfl, (by walk_at "mul"), _, rfl, _, _, rfl, rfl, (by walk_at "mul"), _, _, rfl, rfl, _, _, rfl, rfl, _, _, rfl, rfl, (by walk_at "pos"), ?_⟩
    have o0 : 0 ≤ oneF c t := Int.emod_nonneg _ (by decide)
    have o1 : oneF c t < 999983 := Int.emod_lt_of_pos _ (by decide)
    refine ⟨V.int (oneF c t), rfl, V.int (oneF c t), rfl, _, _, rfl, rfl, (by walk_at "mul"), _, rfl, _, _, rfl, rfl, (by walk_at "mul"), _, _, rfl, rfl, _, rfl, _, _, rfl, rfl, (by walk_at "mul"), _, _, rfl, rfl, _, _, rfl, rfl, (by walk_at "pos"), ?_⟩
    have w0 : 0 ≤ twoF c t := Int.emod_nonneg _ (by decide)
    have w1 : twoF c t < 1000033 := Int.emod_lt_of_pos _ (by decide)
    refine ⟨V.int (twoF c t), rfl, V.int (twoF c t), rfl, _, _, rfl, rfl, (by walk_at "mul"), V.int (oneF c t), rfl, _, _, rfl, rfl, (by walk_at "mul"), _, _, rfl, rfl, _, rfl, _, _, rfl, rfl, (by walk_at "mul"), _, _, rfl, rfl, _, _, rfl, rfl, (by walk_at "pos"), _, rfl, _, _, rfl, rfl, (by walk_at "pos"), ?_⟩
    exact fin _ (by rw [rawF_low q1'])
def LineOk (ns : List Int) : Prop := 2 ≤ ns.length ∧ ns.length ≤ 25 ∧ ∀ h ∈ ns, 0 ≤ h ∧ h ≤ (ns.length : Int) - 1
def spIsLine (K : PySem.W.Frag) : Sp := fun vs H Q _ => ∃ (p : Addr) (ns : List Int), vs = [.ref p] ∧ SqL K H p (ns.map V.int) ∧ (LineOk ns → Q (.bl true) H) ∧ (¬ LineOk ns → Q (.bl false) H)
theorem ok_is_line {f : Addr} {fd : FuncData} (F : Fun K "is_line" "is_line" s_is_line f fd) (T : Txt K mg C_BadLine C_BadBottom C_OffRoad C_BadRow C_TooLong C_Road) : FnOk P w K mg base (CXE P w) 1 f fd ["heights"] (spIsLine K) := by
  have sc := sc_is_line
  refine F.okX sc (fun vs H Q E h => by obtain ⟨p, ns, rfl, _⟩ := h; rfl) (fun cdv A outer s H vs Q E hr h => ?_)
  obtain ⟨p, ns, rfl, hS, k1, k2⟩ := h
  have hlen : (ns.map V.int).length = ns.length := List.length_map _
  obtain ⟨tw, g_WIDEST⟩ := T.g_WIDEST
  refine ⟨_, (pss_cons (ps_set (i := 1) sc.nd rfl (by walk_at "loc") (pe_op op_sub (pe_callB call_len_seq rfl T.len_ PySem.boot_len (pa_cons (pv 0) pa_nil)) pe_int))
      (pss_cons (ps_if (PW.pt (pw_or (pt_cmpR op_lt (pv 1) pe_int (nomark _)) (pw_or1 (pt_cmpR op_gt (pv 1) (pe_glob (v := V.int 24) rfl g_WIDEST ⟨_, rfl⟩) (nomark _))))) (pss_one (ps_ret pe_bl)) pss_nil)
      (pss_one (ps_ret (pe_and (pe_cmpR op_ge (pe_callB (call_min_list rfl) rfl T.min_ PyProof.Rows.boot_min (pa_cons (pv 0) pa_nil)) pe_int (nomark _)) (pe_one (pe_cmpR op_le (pe_callB (call_max_list rfl) rfl T.max_ PyProof.Rows.boot_max (pa_cons (pv 0) pa_nil)) (pv 1) (nomark _)))))))), ?_⟩
  refine ⟨_, rfl, _, _, rfl, .inl hS, _, _, rfl, rfl, ?_⟩
  refine ⟨_, rfl, _, _, rfl, rfl, _, rfl, ?_⟩
  rw [hlen]
  refine iteD (fun q1 => ?_) (fun q1 => ?_)
  · refine iteT ?_
    exact k2 (fun z => by have := z.1; omega)
  · refine ⟨_, rfl, _, _, rfl, rfl, _, rfl, ?_⟩
    refine iteD (fun q2 => ?_) (fun q2 => ?_)
    · exact k2 (fun z => by have := z.2.1; omega)
    · refine ⟨_, rfl, p, ns, rfl, hS, (by omega), fun m hm hle => ⟨_, _, rfl, rfl, _, rfl, ?_⟩⟩
      refine iteD (fun q3 => ?_) (fun q3 => ?_)
      · refine ⟨_, rfl, p, ns, rfl, hS, (by omega), fun m2 hm2 hle2 => ⟨_, rfl, _, _, rfl, rfl, ?_⟩⟩
        show Q (.bl (decide (m2 ≤ (ns.length : Int) - 1))) H
        by_cases q4 : m2 ≤ (ns.length : Int) - 1
        · rw [decide_eq_true q4]
          exact k1 ⟨by omega, by omega, fun h hh => by have := hle h hh; have := hle2 h hh; omega⟩
        · rw [decide_eq_false q4]
          exact k2 (fun z => q4 (z.2.2 m2 hm2).2)
      · exact k2 (fun z => q3 (z.2.2 m hm).1)
/-- a road: its object, its list -/
def RoadAt (C : Addr) (H : Hp) (r : Addr) (ns : List Int) : Prop := ∃ dx q, H r = some (.ins C dx [("heights", .ref q)]) ∧ H q = some (.lst (ns.map V.int))
theorem RoadAt.same {C : Addr} {H H' : Hp} {r : Addr} {ns : List Int} (h : RoadAt C H r ns) (s : Same H H') : RoadAt C H' r ns := by
  obtain ⟨dx, q, h1, h2⟩ := h
  exact ⟨dx, q, s _ _ h1, s _ _ h2⟩
theorem look_heights {q : Addr} : ([("heights", V.ref q)] : List (Str × V)).lookup ("heights" : Str) = some (.ref q) := by
  rw [List.lookup_cons]
  simp
theorem look_other {q : Addr} {m : Str} (h : ¬ m = "heights") : ([("heights", V.ref q)] : List (Str × V)).lookup m = none := by
  rw [List.lookup_cons]
  have : (m == ("heights" : Str)) = false := beq_eq_false_iff_ne.mpr h
  rw [this]
  rfl
def spInit (K : PySem.W.Frag) (CB C : Addr) : Sp := fun vs H Q E => ∃ (r dx p : Addr) (ns : List Int), vs = [.ref r, .ref p] ∧ H r = some (.ins C dx []) ∧ SqL K H p (ns.map V.int) ∧
  (LineOk ns → ∀ H' q, H q = none → (∀ b o, H b = some o → b ≠ r → H' b = some o) → H' r = some (.ins C dx [("heights", .ref q)]) → H' q = some (.lst (ns.map V.int)) → Q .non H') ∧ (¬ LineOk ns → E (.ref CB) none H)
theorem ok_init {f : Addr} {fd : FuncData} (F : Fun K "__init__" "Road.__init__" s_Road___init__ f fd) (T : Txt K mg C_BadLine C_BadBottom C_OffRoad C_BadRow C_TooLong C_Road) (c_is_line : Cal P w K mg base "is_line" 1 (spIsLine K)) : FnOk P w K mg base (CXE P w) 2 f fd ["self", "heights"] (spInit K C_BadLine C_Road) := by
  have sc := sc_Road___init__
  refine F.okX sc (fun vs H Q E h => by obtain ⟨r, dx, p, ns, rfl, _⟩ := h; rfl) (fun cdv A outer s H vs Q E hr h => ?_)
  obtain ⟨r, dx, p, ns, rfl, hr0, hS, k, x⟩ := h
  refine ⟨_, (pss_cons (ps_if (pt_not (pt_val (pe_callC c_is_line (hr.mono (by decide)) rfl passE_def (pa_cons (pv 1) pa_nil)))) (pss_one (ps_raise rfl T.x_BadLine raiseE_def rfl T.g_BadLine (pa_cons pe_str pa_nil))) pss_nil)
      (pss_one (ps_fld (pv 0) (pe_callTy call_list_of rfl T.list_ PyProof.Rows.boot_list (pa_cons (pv 1) pa_nil)) rfl))), ?_⟩
  refine ⟨_, rfl, p, ns, rfl, hS, fun ok => ⟨_, rfl, ?_⟩, fun bad => ⟨_, rfl, ?_⟩⟩
  · refine iteF ?_
    refine ⟨_, rfl, _, _, rfl, .inl hS, fun q nq => ?_⟩
    have hr1 : upd H q (.lst (ns.map V.int)) r = some (.ins C_Road dx []) := by rw [upd_ne (ne_of_none hr0 nq)]; exact hr0
    refine ⟨_, rfl, r, C_Road, dx, [], rfl, hr1, T.cl, T.na, (by show 0 < 1000; decide), ?_⟩
    refine k ok _ q nq (fun b o e n => ?_) upd_same ?_
    · rw [upd_ne n, upd_ne (ne_of_none e nq)]
      exact e
    · rw [upd_ne (ne_of_none hr0 nq).symm, upd_same]
  · refine iteT ?_
    exact ⟨sz1, x bad⟩
def spWidth (C : Addr) : Sp := fun vs H Q _ => ∃ (r : Addr) (ns : List Int), vs = [.ref r] ∧ RoadAt C H r ns ∧ Q (.int ((ns.length : Int) - 1)) H
theorem ok_width {f : Addr} {fd : FuncData} (F : Fun K "width" "Road.width" s_Road_width f fd) (T : Txt K mg C_BadLine C_BadBottom C_OffRoad C_BadRow C_TooLong C_Road) : FnOk P w K mg base (CXE P w) 1 f fd ["self"] (spWidth C_Road) := by
  have sc := sc_Road_width
  refine F.okX sc (fun vs H Q E h => by obtain ⟨r, ns, rfl, _⟩ := h; rfl) (fun cdv A outer s H vs Q E hr h => ?_)
  obtain ⟨r, ns, rfl, ⟨dx, q, h1, h2⟩, k⟩ := h
  refine ⟨_, (pss_one (ps_ret (pe_op op_sub (pe_callB call_len_seq rfl T.len_ PySem.boot_len (pa_cons (pe_fld (pv 0) rfl) pa_nil)) pe_int))), ?_⟩
  refine ⟨_, rfl, r, C_Road, dx, _, _, rfl, h1, T.cl, T.na, look_heights, q, _, rfl, .inl (SqL.of h2), _, _, rfl, rfl, ?_⟩
  rw [List.length_map]
  exact k
def InW (ns : List Int) (wd : Int) : Prop := (ns.length : Int) = wd + 1 ∧ ∀ h ∈ ns, 0 ≤ h ∧ h ≤ wd
def spClimb (K : PySem.W.Frag) : Sp := fun vs H Q _ => ∃ (a : Addr) (ns : List Int) (i wd : Int), vs = [.ref a, .int i, .int wd] ∧ SqL K H a (ns.map V.int) ∧ 0 ≤ i ∧ 1 ≤ wd ∧ wd ≤ 24 ∧
  ∀ p hs, H p = none → InW hs wd → Q (.ref p) (upd H p (.lst (hs.map V.int)))
theorem ok_climb {f : Addr} {fd : FuncData} (F : Fun K "_law_climb" "_law_climb" s__law_climb f fd) (T : Txt K mg C_BadLine C_BadBottom C_OffRoad C_BadRow C_TooLong C_Road) (c__law_pick : Cal P w K mg base "_law_pick" 2 (spPick K)) : FnOk P w K mg base (CXE P w) 3 f fd ["_law_script", "_law_at", "_law_wide"] (spClimb K) := by
  have sc := sc__law_climb
  refine F.okX sc (fun vs H Q E h => by obtain ⟨a, ns, i, wd, rfl, _⟩ := h; rfl) (fun cdv A outer s H vs Q E hr h => ?_)
  obtain ⟨a, ns, i, wd, rfl, hS, h0, w1, w2, k⟩ := h
  refine ⟨_, (pss_cons (ps_set (i := 3) sc.nd rfl (by walk_at "loc") (pe_lst (pa_cons (pe_callC c__law_pick (hr.mono (by decide)) rfl passE_def (pa_cons (pv 0) (pa_cons (pv 1) (pa_cons pe_int (pa_cons (pe_op op_add (pv 2) pe_int) pa_nil))))) pa_nil)))
      (pss_cons (ps_for PassesOwn.leaving rfl (pi_range1 rfl T.range_ (pa_cons (pv 2) pa_nil)) (pg_name (i := 4) sc.nd rfl (by walk_at "loc")) (pss_one (ps_expr (pe_bm PySem.F.plainAttrs_list PySem.F.slot_list_append PySem.F.type_list_append mt_append (pv 3) (pa_cons (pe_callB (call_max2 rfl) rfl T.max_ PyProof.Rows.boot_max (pa_cons pe_int (pa_cons (pe_callB (call_min2 rfl) rfl T.min_ PyProof.Rows.boot_min (pa_cons (pv 2) (pa_cons (pe_op op_sub (pe_op op_add (pe_ix ix_list (pv 3) (pe_un un_neg pe_int) (fun _ _ => rfl)) (pe_op op_mulX pe_int (pe_callC c__law_pick (hr.mono (by decide)) rfl passE_def (pa_cons (pv 0) (pa_cons (pv 1) (pa_cons (pe_op op_add pe_int (pv 4)) (pa_cons pe_int pa_nil))))))) pe_int) pa_nil))) pa_nil))) pa_nil)))))
      (pss_one (ps_ret (pv 3))))), ?_⟩
  refine ⟨_, rfl, _, rfl, _, rfl, _, _, rfl, rfl, a, ns, _, _, _, rfl, hS, h0, (by omega), (by omega), (by omega), fun r1 _ l1 u1 => ⟨sz1, fun p np => ?_⟩⟩
  refine ⟨_, rfl, wd, rfl, (by omega), (by omega), for_range (fun j σ H1 => ∃ (ys : List Int) (l : Int) (z : Option V), ys.length = j ∧ (∀ h ∈ ys ++ [l], 0 ≤ h ∧ h ≤ wd) ∧ H1 = upd H p (.lst ((ys ++ [l]).map V.int)) ∧ σ = [some (.ref a), some (.int i), some (.int wd), some (.ref p), z])
    ⟨[], r1, none, rfl, (fun h hh => by have e := List.mem_singleton.mp hh; subst e; omega), rfl, rfl⟩ ?_ ?_⟩
  · rintro j σ H1 hj ⟨ys, l, z, hy, hb, rfl, rfl⟩
    have hp : upd H p (.lst ((ys ++ [l]).map V.int)) p = some (.lst ((ys ++ [l]).map V.int)) := upd_same
    have hS1 : SqL K (upd H p (.lst ((ys ++ [l]).map V.int))) a (ns.map V.int) := Same.sql (Same.upd np) hS
    have hlast : atI ((ys ++ [l]).map V.int) (-1) = some (V.int l) := by
      rw [List.map_append]
      exact atI_last _ _
    have hl := hb l (by simp)
    refine ⟨_, rfl, .inl ⟨rfl, _, SqL.of hp⟩, _, rfl, _, rfl, _, rfl, _, _, _, _, rfl, rfl, SqL.of hp, hlast, _, rfl, _, rfl, _, rfl, _, _, rfl, rfl, a, ns, _, _, _, rfl, hS1, h0, (by omega), (by omega), (by omega), fun r2 _ l2 u2 => ?_⟩
    refine ⟨_, _, rfl, rfl, (by walk_at "mul"), _, _, rfl, rfl, _, _, rfl, rfl, _, _, rfl, _, _, rfl, _, _, _, rfl, rfl, hp, ?_, ?_⟩
    · rw [List.length_map, List.length_append, hy]
      have : (1000000 : Nat) < sizeLine := by decide
      simp only [List.length_cons, List.length_nil]
      omega
    · refine ⟨ys ++ [l], (if (if l + 2 * r2 - 1 < wd then l + 2 * r2 - 1 else wd) > 0 then (if l + 2 * r2 - 1 < wd then l + 2 * r2 - 1 else wd) else 0), _, by rw [List.length_append, hy]; rfl, fun h hh => ?_, ?_, rfl⟩
      · rcases List.mem_append.mp hh with hh | hh
        · exact hb h hh
        · have e := List.mem_singleton.mp hh
          subst e
          by_cases g1 : l + 2 * r2 - 1 < wd
          · rw [if_pos g1]
            by_cases g2 : l + 2 * r2 - 1 > 0
            · rw [if_pos g2]; omega
            · rw [if_neg g2]; omega
          · rw [if_neg g1, if_pos (show wd > 0 by omega)]; omega
      · rw [upd_upd, List.map_append (l₁ := ys ++ [l])]
        rfl
  · rintro σ H1 ⟨ys, l, z, hy, hb, rfl, rfl⟩
    refine ⟨_, rfl, k p _ np ⟨?_, hb⟩⟩
    rw [List.length_append, hy]
    simp only [List.length_cons, List.length_nil]
    omega
def spHeights (K : PySem.W.Frag) : Sp := fun vs H Q _ => ∃ (a : Addr) (ns : List Int) (i m : Int), vs = [.ref a, .int i, .int m] ∧ SqL K H a (ns.map V.int) ∧ 0 ≤ i ∧ 1 ≤ m ∧ m ≤ 24 ∧
  ∀ p hs wd, H p = none → 1 ≤ wd → wd ≤ m → InW hs wd → Q (.ref p) (upd H p (.lst (hs.map V.int)))
theorem inw_range {wd : Int} {n : Nat} (g : Nat → Int) (h1 : (n : Int) = wd + 1) (h2 : ∀ i, i < n → 0 ≤ g i ∧ g i ≤ wd) : InW ((List.range n).map g) wd := by
  refine ⟨by rw [List.length_map, List.length_range]; exact h1, fun h hh => ?_⟩
  obtain ⟨i, hi, rfl⟩ := List.mem_map.mp hh
  exact h2 i (List.mem_range.mp hi)
theorem map_range_int (n : Nat) (g : Nat → Int) : (List.range n).map (fun i => V.int (g i)) = ((List.range n).map g).map V.int := by
  rw [List.map_map]
  rfl
theorem ok_heights {f : Addr} {fd : FuncData} (F : Fun K "_law_heights" "_law_heights" s__law_heights f fd) (T : Txt K mg C_BadLine C_BadBottom C_OffRoad C_BadRow C_TooLong C_Road) (c__law_pick : Cal P w K mg base "_law_pick" 2 (spPick K)) (c__law_climb : Cal P w K mg base "_law_climb" 3 (spClimb K)) :
    FnOk P w K mg base (CXE P w) 4 f fd ["_law_script", "_law_at", "_law_most"] (spHeights K) := by
  have sc := sc__law_heights
  refine F.okX sc (fun vs H Q E h => by obtain ⟨a, ns, i, m, rfl, _⟩ := h; rfl) (fun cdv A outer s H vs Q E hr h => ?_)
  obtain ⟨a, ns, i, m, rfl, hS, h0, m1, m2, k⟩ := h
  refine ⟨_, (pss_cons (ps_set (i := 3) sc.nd rfl (by walk_at "loc") (pe_op op_add pe_int (pe_callC c__law_pick (hr.mono (by decide)) rfl passE_def (pa_cons (pv 0) (pa_cons (pv 1) (pa_cons pe_int (pa_cons (pv 2) pa_nil)))))))
      (pss_cons (ps_set (i := 4) sc.nd rfl (by walk_at "loc") (pe_callC c__law_pick (hr.mono (by decide)) rfl passE_def (pa_cons (pv 0) (pa_cons (pv 1) (pa_cons pe_int (pa_cons pe_int pa_nil))))))
      (pss_cons (ps_if (pt_cmpR op_eq (pv 4) pe_int (nomark _)) (pss_one (ps_ret (pe_comp (M := [3]) rfl rfl (by walk_at "cap") (by walk_at "has") (by walk_at "cix") rfl (by decide +kernel) rfl (show List.Nodup (["_law_k", "_law_wide"] : List Str) by decide +kernel) (pi_range1 rfl T.range_ (pa_cons (pe_op op_add (pv 3) pe_int) pa_nil)) (fun _ _ _ _ _ => (pe_op op_mulX (pv 1) (pe_op op_mod (pv 0) pe_int)))))) pss_nil)
      (pss_cons (ps_if (pt_cmpR op_eq (pv 4) pe_int (nomark _)) (pss_one (ps_ret (pe_comp (M := []) rfl rfl (by walk_at "cap") (by walk_at "has") (by walk_at "cix") rfl (by decide +kernel) rfl (show List.Nodup (["_law_k"] : List Str) by decide +kernel) (pi_range1 rfl T.range_ (pa_cons (pe_op op_add (pv 3) pe_int) pa_nil)) (fun _ _ _ _ _ => (pv 0))))) pss_nil)
      (pss_cons (ps_if (pt_cmpR op_eq (pv 4) pe_int (nomark _)) (pss_one (ps_ret (pe_comp (M := [3]) rfl rfl (by walk_at "cap") (by walk_at "has") (by walk_at "cix") rfl (by decide +kernel) rfl (show List.Nodup (["_law_k", "_law_wide"] : List Str) by decide +kernel) (pi_range1 rfl T.range_ (pa_cons (pe_op op_add (pv 3) pe_int) pa_nil)) (fun _ _ _ _ _ => (pe_op op_sub (pv 1) (pv 0)))))) pss_nil)
      (pss_cons (ps_if (pt_cmpR op_eq (pv 4) pe_int (nomark _)) (pss_one (ps_ret (pe_comp (M := [3]) rfl rfl (by walk_at "cap") (by walk_at "has") (by walk_at "cix") rfl (by decide +kernel) rfl (show List.Nodup (["_law_k", "_law_wide"] : List Str) by decide +kernel) (pi_range1 rfl T.range_ (pa_cons (pe_op op_add (pv 3) pe_int) pa_nil)) (fun _ _ _ _ _ => (pe_op op_mod (pe_op op_add (pe_op op_mulX pe_int (pv 0)) pe_int) (pe_op op_add (pv 1) pe_int)))))) pss_nil)
      (pss_cons (ps_if (PW.pt (pw_or (pt_cmpR op_eq (pv 4) pe_int (nomark _)) (pw_or1 (pt_cmpR op_eq (pv 4) pe_int (nomark _))))) (pss_one (ps_ret (pe_callC c__law_climb (hr.mono (by decide)) rfl passE_def (pa_cons (pv 0) (pa_cons (pv 1) (pa_cons (pv 3) pa_nil)))))) pss_nil)
      (pss_one (ps_ret (pe_comp (M := [0, 1, 3]) rfl rfl (by walk_at "cap") (by walk_at "has") (by walk_at "cix") rfl (by decide +kernel) rfl (show List.Nodup (["_law_k", "_law_script", "_law_at", "_law_wide"] : List Str) by decide +kernel) (pi_range1 rfl T.range_ (pa_cons (pe_op op_add (pv 3) pe_int) pa_nil)) (fun _ _ _ _ _ => (pe_callC c__law_pick (hr.mono (by decide)) rfl passE0 (pa_cons (pv 1) (pa_cons (pv 2) (pa_cons (pe_op op_add pe_int (pv 0)) (pa_cons (pe_op op_add (pv 3) pe_int) pa_nil)))))))))))))))), ?_⟩
  refine ⟨_, rfl, _, rfl, _, rfl, a, ns, _, _, _, rfl, hS, h0, (by omega), (by omega), (by omega), fun r1 _ l1 u1 => ?_⟩
  refine ⟨_, _, rfl, rfl, _, rfl, _, rfl, a, ns, _, _, _, rfl, hS, h0, (by omega), (by omega), (by omega), fun kd _ l2 u2 => ?_⟩
  have hn : ((1 + r1 + 1).toNat : Int) = 1 + r1 + 1 := by omega
  have hn2 : (1 + r1 + 1).toNat ≤ 1000000 := by omega
  have fin : ∀ (g : Nat → Int) (p : Addr), (∀ j, j < (1 + r1 + 1).toNat → 0 ≤ g j ∧ g j ≤ 1 + r1) → H p = none → Q (.ref p) (upd H p (.lst ((List.range (1 + r1 + 1).toNat).map fun j => V.int (g j)))) := fun g p hg np => by
    rw [map_range_int]
    exact k p _ (1 + r1) np (by omega) (by omega) (inw_range g hn hg)
  refine ⟨_, rfl, rfl, _, rfl, iteDV (fun q1 => ?_) (fun q1 => ?_)⟩
  · refine ⟨_, rfl, _, _, rfl, rfl, 1 + r1 + 1, rfl, (by omega), (by omega), comp_range (fun j => V.int ((1 + r1) * (((0 : Int) + j) % 2))) hn2 (fun j H' R hj hs hR => ?_) fun p np => fin _ p (fun j hj => ?_) np⟩
    · exact ⟨_, rfl, _, rfl, _, _, rfl, rfl, (by walk_at "pos"), _, _, rfl, rfl, (by walk_at "mul"), hR⟩
    · have a1 := Int.emod_nonneg ((0 : Int) + j) (show (2 : Int) ≠ 0 by decide)
      have a2 := Int.emod_lt_of_pos ((0 : Int) + j) (show (0 : Int) < 2 by decide)
      rcases (by omega : ((0 : Int) + j) % 2 = 0 ∨ ((0 : Int) + j) % 2 = 1) with e | e <;> rw [e] <;> omega
  · refine ⟨_, rfl, rfl, _, rfl, iteDV (fun q2 => ?_) (fun q2 => ?_)⟩
    · refine ⟨_, rfl, _, _, rfl, rfl, 1 + r1 + 1, rfl, (by omega), (by omega), comp_range (fun j => V.int ((0 : Int) + j)) hn2 (fun j H' R hj hs hR => ?_) fun p np => fin _ p (fun j hj => by omega) np⟩
      exact ⟨_, rfl, hR⟩
    · refine ⟨_, rfl, rfl, _, rfl, iteDV (fun q3 => ?_) (fun q3 => ?_)⟩
      · refine ⟨_, rfl, _, _, rfl, rfl, 1 + r1 + 1, rfl, (by omega), (by omega), comp_range (fun j => V.int (1 + r1 - ((0 : Int) + j))) hn2 (fun j H' R hj hs hR => ?_) fun p np => fin _ p (fun j hj => by omega) np⟩
        exact ⟨_, rfl, _, rfl, _, _, rfl, rfl, hR⟩
      · refine ⟨_, rfl, rfl, _, rfl, iteDV (fun q4 => ?_) (fun q4 => ?_)⟩
        · refine ⟨_, rfl, _, _, rfl, rfl, 1 + r1 + 1, rfl, (by omega), (by omega), comp_range (fun j => V.int ((2 * ((0 : Int) + j) + 1) % (1 + r1 + 1))) hn2 (fun j H' R hj hs hR => ?_) fun p np => fin _ p (fun j hj => ?_) np⟩
          · exact ⟨_, rfl, _, _, rfl, rfl, (by walk_at "mul"), _, _, rfl, rfl, _, rfl, _, _, rfl, rfl, _, _, rfl, rfl, (by walk_at "pos"), hR⟩
          · have a1 := Int.emod_nonneg (2 * ((0 : Int) + j) + 1) (show 1 + r1 + 1 ≠ 0 by omega)
            have a2 := Int.emod_lt_of_pos (2 * ((0 : Int) + j) + 1) (show 0 < 1 + r1 + 1 by omega)
            omega
        · have last : tRet (tComp [0, 1, 3] (iRng1 (tCons (tOp (rI0 fun i j => .int (i + j)) (tVar 3) (tC (.int 1))) tNil)) (tCallE (spPick K) (fun _ => E0) (tCons (tVar 1) (tCons (tVar 2) (tCons (tOp (rI0 fun i j => .int (i + j)) (tC (.int 3)) (tVar 0)) (tCons (tOp (rI0 fun i j => .int (i + j)) (tVar 3) (tC (.int 1))) tNil))))))
              { nx := fun _ H' => Q .non H', rt := Q } [some (.ref a), some (.int i), some (.int m), some (.int (1 + r1)), some (.int kd)] H := by
            refine ⟨_, rfl, _, _, rfl, rfl, 1 + r1 + 1, rfl, (by omega), (by omega), comp_range (fun j => V.int (pickF ns i (3 + ((0 : Int) + j)) (1 + r1 + 1))) hn2 (fun j H' R hj hs hR => ?_) fun p np => fin _ p (fun j hj => ?_) np⟩
            · refine ⟨_, rfl, _, rfl, _, rfl, _, _, rfl, rfl, _, rfl, _, _, rfl, rfl, a, ns, _, _, _, rfl, Same.sql hs hS, h0, (by omega), (by omega), (by omega), fun r e _ _ => ?_⟩
              rw [e]
              exact hR
            · have a1 := pickF_nn ns i (3 + ((0 : Int) + j)) (1 + r1 + 1) (by omega)
              have a2 := pickF_lt ns i (3 + ((0 : Int) + j)) (1 + r1 + 1) (by omega)
              omega
          have climb : tRet (tCallE (spClimb K) (fun _ => E) (tCons (tVar 0) (tCons (tVar 1) (tCons (tVar 3) tNil)))) { nx := fun _ H' => Q .non H', rt := Q } [some (.ref a), some (.int i), some (.int m), some (.int (1 + r1)), some (.int kd)] H :=
            ⟨_, rfl, _, rfl, _, rfl, a, ns, i, 1 + r1, rfl, hS, h0, (by omega), (by omega), fun p hs np hw => k p hs (1 + r1) np (by omega) (by omega) hw⟩
          refine ⟨_, rfl, rfl, _, rfl, iteDV (fun q5 => iteT climb) (fun q5 => ?_)⟩
          exact ⟨_, rfl, rfl, _, rfl, iteDV (fun q6 => climb) (fun q6 => last)⟩
def spWhole : Sp := fun vs H Q _ => ∃ i : Int, vs = [.int i] ∧ Q (.bl true) H
theorem ok_whole {f : Addr} {fd : FuncData} (F : Fun K "_law_whole" "_law_whole" s__law_whole f fd) (T : Txt K mg C_BadLine C_BadBottom C_OffRoad C_BadRow C_TooLong C_Road) : FnOk P w K mg base (CXE P w) 1 f fd ["_law_found"] spWhole := by
  have sc := sc__law_whole
  refine F.okX sc (fun vs H Q E h => by obtain ⟨i, rfl, _⟩ := h; rfl) (fun cdv A outer s H vs Q E hr h => ?_)
  obtain ⟨i, rfl, k⟩ := h
  refine ⟨_, (pss_one (ps_ret (pe_and (pe_callB call_isinst rfl T.isinstance_ PyProof.Rows.boot_isinstance (pa_cons (pv 0) (pa_cons (pe_bltn (v := V.ty "int") rfl T.int_ PyProof.Rows.boot_int rfl) pa_nil))) (pe_one (pe_not (pe_callB call_isinst rfl T.isinstance_ PyProof.Rows.boot_isinstance (pa_cons (pv 0) (pa_cons (pe_bltn (v := V.ty "bool") rfl T.bool_ PyProof.Rows.boot_bool rfl) pa_nil)))))))), ?_⟩
  refine ⟨_, rfl, _, _, _, _, rfl, TyOf.int i, rfl, _, rfl, ?_⟩
  refine iteT ?_
  refine ⟨_, rfl, _, _, _, _, rfl, TyOf.int i, rfl, _, rfl, ?_⟩
  exact k
def spGcd : Sp := fun vs H Q _ => ∃ x y : Int, vs = [.int x, .int y] ∧ 0 ≤ x ∧ 0 ≤ y ∧ Q (.int (gcdI x y)) H
theorem gcd_loop {tb : TS} {c : TT} {D : Ends} {H : Hp} {x y : Int} (hx : 0 ≤ x) (hy : 0 ≤ y) (hc : c = tTest (tOp (rI0 fun i j => .bl (decide (j < i))) (tVar 1) (tC (.int 0)))) (hb : tb = tPar 0 1 (tCons (tVar 1) (tCons (tOp (rI (fun _ j => 0 < j) fun i j => .int (i % j)) (tVar 0) (tVar 1)) tNil)))
    (hD : D.nx [some (.int (gcdI x y)), some (.int 0)] H) : tWhile c tb D [some (.int x), some (.int y)] H := by
  subst hc hb
  refine while_by (fun σ H1 => H1 = H ∧ ∃ u v : Int, σ = [some (.int u), some (.int v)] ∧ 0 ≤ u ∧ 0 ≤ v ∧ gcdI u v = gcdI x y) (fun σ _ => match σ with | [_, some (.int v)] => v.toNat | _ => 0) ⟨rfl, x, y, rfl, hx, hy, rfl⟩ ?_ fun σ H Q Q' h ⟨v, e, i, j, e1, e2, k, e3, q⟩ => ⟨v, e, i, j, e1, e2, k, e3, h _ _ q⟩
  rintro σ H1 ⟨rfl, u, v, rfl, hu, hv, e⟩
  refine ⟨_, rfl, _, _, rfl, rfl, _, rfl, ?_⟩
  refine iteD (fun q => ?_) (fun q => ?_)
  · have h1 := Int.emod_nonneg u (show v ≠ 0 by omega)
    have h2 := Int.emod_lt_of_pos u q
    refine ⟨_, rfl, _, rfl, _, rfl, _, _, rfl, rfl, q, _, _, rfl, ⟨rfl, v, u % v, rfl, hv, h1, ?_⟩, ?_⟩
    · rw [gcdI_step hu q, e]
    · show (u % v).toNat < v.toNat
      omega
  · have z : v = 0 := by omega
    subst z
    rw [gcdI_zero hu] at e
    subst e
    exact hD
theorem ok_gcd {f : Addr} {fd : FuncData} (F : Fun K "common_divisor" "common_divisor" s_common_divisor f fd) (T : Txt K mg C_BadLine C_BadBottom C_OffRoad C_BadRow C_TooLong C_Road) : FnOk P w K mg base (CXE P w) 1 f fd ["one", "other"] spGcd := by
  have sc := sc_common_divisor
  refine F.okX sc (fun vs H Q E h => by obtain ⟨x, y, rfl, _⟩ := h; rfl) (fun cdv A outer s H vs Q E hr h => ?_)
  obtain ⟨x, y, rfl, hx, hy, k⟩ := h
  refine ⟨_, (pss_cons (ps_while PassesOwn.leaving (pt_cmpR op_gt (pv 1) pe_int (nomark _)) (pss_one (ps_par (i := 0) (j := 1) rfl sc.nd rfl rfl (by decide) rfl rfl (pa_cons (pv 1) (pa_cons (pe_op op_mod (pv 0) (pv 1)) pa_nil)) rfl)))
      (pss_one (ps_ret (pv 0)))), ?_⟩
  exact gcd_loop hx hy rfl rfl ⟨_, rfl, k⟩
theorem ok_common {f : Addr} {fd : FuncData} (F : Fun K "_law_common" "_law_common" s__law_common f fd) (T : Txt K mg C_BadLine C_BadBottom C_OffRoad C_BadRow C_TooLong C_Road) : FnOk P w K mg base (CXE P w) 1 f fd ["_law_one", "_law_other"] spGcd := by
  have sc := sc__law_common
  refine F.okX sc (fun vs H Q E h => by obtain ⟨x, y, rfl, _⟩ := h; rfl) (fun cdv A outer s H vs Q E hr h => ?_)
  obtain ⟨x, y, rfl, hx, hy, k⟩ := h
  refine ⟨_, (pss_cons (ps_while PassesOwn.leaving (pt_cmpR op_gt (pv 1) pe_int (nomark _)) (pss_one (ps_par (i := 0) (j := 1) rfl sc.nd rfl rfl (by decide) rfl rfl (pa_cons (pv 1) (pa_cons (pe_op op_mod (pv 0) (pv 1)) pa_nil)) rfl)))
      (pss_one (ps_ret (pv 0)))), ?_⟩
  exact gcd_loop hx hy rfl rfl ⟨_, rfl, k⟩
def ptV (p : Int × Int) : List V := [.int p.1, .int p.2]
def spLowest (C : Addr) : Sp := fun vs H Q E => ∃ t b : Int, vs = [.int t, .int b] ∧ (1 ≤ b → Sm 9000 b ∧ ∀ p, H p = none → Q (.ref p) (upd H p (.tup (ptV (lowF t b))))) ∧ (b < 1 → E (.ref C) none H)
theorem ok_lowest {f : Addr} {fd : FuncData} (F : Fun K "lowest" "lowest" s_lowest f fd) (T : Txt K mg C_BadLine C_BadBottom C_OffRoad C_BadRow C_TooLong C_Road) (c_check_bottom : Cal P w K mg base "check_bottom" 1 (spCheck C_BadBottom)) (c_common_divisor : Cal P w K mg base "common_divisor" 1 spGcd) :
    FnOk P w K mg base (CXE P w) 2 f fd ["top", "bottom"] (spLowest C_BadBottom) := by
  have sc := sc_lowest
  refine F.okX sc (fun vs H Q E h => by obtain ⟨t, b, rfl, _⟩ := h; rfl) (fun cdv A outer s H vs Q E hr h => ?_)
  obtain ⟨t, b, rfl, k, x⟩ := h
  refine ⟨_, (pss_cons (ps_expr (pe_callC c_check_bottom (hr.mono (by decide)) rfl passE_def (pa_cons (pv 1) pa_nil)))
      (pss_cons (ps_set (i := 2) sc.nd rfl (by walk_at "loc") (pe_callC c_common_divisor (hr.mono (by decide)) rfl passE_def (pa_cons (pe_callB call_abs rfl T.abs_ boot_abs (pa_cons (pv 0) pa_nil)) (pa_cons (pv 1) pa_nil))))
      (pss_one (ps_ret (pe_tup (pa_cons (pe_op op_fdivX (pv 0) (pv 2)) (pa_cons (pe_op op_fdivX (pv 1) (pv 2)) pa_nil))))))), ?_⟩
  refine ⟨_, rfl, b, rfl, fun g1 => ?_, fun g1 => x g1⟩
  obtain ⟨sb, k⟩ := k g1
  have hg := gOf_pos (t := t) g1
  have hs : Sm 9000 (gOf t b) := sb.of_le (by have := gOf_le (t := t) g1; omega)
  refine ⟨_, rfl, _, rfl, _, rfl, absI t, b, rfl, absI_nn t, (by omega), ?_⟩
  refine ⟨_, rfl, V.int (gOf t b), rfl, _, _, rfl, rfl, ⟨by omega, hs⟩, _, rfl, V.int (gOf t b), rfl, _, _, rfl, rfl, ⟨by omega, hs⟩, sz2, fun p n => ?_⟩
  exact k p n
def spLow : Sp := fun vs H Q _ => ∃ t b : Int, vs = [.int t, .int b] ∧ 1 ≤ b ∧ Sm 9000 b ∧ ∀ p, H p = none → Q (.ref p) (upd H p (.tup (ptV (lowF t b))))
theorem ok_low {f : Addr} {fd : FuncData} (F : Fun K "_law_low" "_law_low" s__law_low f fd) (T : Txt K mg C_BadLine C_BadBottom C_OffRoad C_BadRow C_TooLong C_Road) (c__law_common : Cal P w K mg base "_law_common" 1 spGcd) : FnOk P w K mg base (CXE P w) 2 f fd ["_law_top", "_law_bottom"] spLow := by
  have sc := sc__law_low
  refine F.okX sc (fun vs H Q E h => by obtain ⟨t, b, rfl, _⟩ := h; rfl) (fun cdv A outer s H vs Q E hr h => ?_)
  obtain ⟨t, b, rfl, g1, sb, k⟩ := h
  have hg := gOf_pos (t := t) g1
  have hs : Sm 9000 (gOf t b) := sb.of_le (by have := gOf_le (t := t) g1; omega)
  refine ⟨_, (pss_cons (ps_set (i := 2) sc.nd rfl (by walk_at "loc") (pe_callC c__law_common (hr.mono (by decide)) rfl passE_def (pa_cons (pe_callB call_abs rfl T.abs_ boot_abs (pa_cons (pv 0) pa_nil)) (pa_cons (pv 1) pa_nil))))
      (pss_one (ps_ret (pe_tup (pa_cons (pe_op op_fdivX (pv 0) (pv 2)) (pa_cons (pe_op op_fdivX (pv 1) (pv 2)) pa_nil)))))), ?_⟩
  refine ⟨_, rfl, _, rfl, _, rfl, absI t, b, rfl, absI_nn t, (by omega), ?_⟩
  refine ⟨_, rfl, V.int (gOf t b), rfl, _, _, rfl, rfl, ⟨by omega, hs⟩, _, rfl, V.int (gOf t b), rfl, _, _, rfl, rfl, ⟨by omega, hs⟩, sz2, fun p n => ?_⟩
  exact k p n
def spPoint (K : PySem.W.Frag) : Sp := fun vs H Q _ => ∃ p x y, vs = [.ref p] ∧ H p = some (.tup [.int x, .int y]) ∧ 1 ≤ y ∧ gOf x y = 1 ∧ Q (.bl true) H
theorem ok_point {f : Addr} {fd : FuncData} (F : Fun K "_law_point" "_law_point" s__law_point f fd) (T : Txt K mg C_BadLine C_BadBottom C_OffRoad C_BadRow C_TooLong C_Road) (c__law_whole : Cal P w K mg base "_law_whole" 1 spWhole) (c__law_common : Cal P w K mg base "_law_common" 1 spGcd) :
    FnOk P w K mg base (CXE P w) 2 f fd ["_law_found"] (spPoint K) := by
  have sc := sc__law_point
  refine F.okX sc (fun vs H Q E h => by obtain ⟨p, x, y, rfl, _⟩ := h; rfl) (fun cdv A outer s H vs Q E hr h => ?_)
  obtain ⟨p, x, y, rfl, hp, y1, hg, k⟩ := h
  have hq : SqT K H p [.int x, .int y] := SqT.of hp
  refine ⟨_, (pss_cons (ps_if (PW.pt (pw_or (pt_not (pt_val (pe_callB call_isinst rfl T.isinstance_ PyProof.Rows.boot_isinstance (pa_cons (pv 0) (pa_cons (pe_bltn (v := V.ty "tuple") rfl T.tuple_ PyProof.Rows.boot_tuple rfl) pa_nil))))) (pw_or1 (pt_cmpR op_ne (pe_callB call_len_seq rfl T.len_ PySem.boot_len (pa_cons (pv 0) pa_nil)) pe_int (nomark _))))) (pss_one (ps_ret pe_bl)) pss_nil)
      (pss_cons (ps_if (PW.pt (pw_or (pt_not (pt_val (pe_callC c__law_whole (hr.mono (by decide)) rfl passE_def (pa_cons (pe_ix ix_tup (pv 0) pe_int (fun _ _ => rfl)) pa_nil)))) (pw_or (pt_not (pt_val (pe_callC c__law_whole (hr.mono (by decide)) rfl passE_def (pa_cons (pe_ix ix_tup (pv 0) pe_int (fun _ _ => rfl)) pa_nil)))) (pw_or1 (pt_cmpR op_lt (pe_ix ix_tup (pv 0) pe_int (fun _ _ => rfl)) pe_int (nomark _)))))) (pss_one (ps_ret pe_bl)) pss_nil)
      (pss_one (ps_ret (pe_cmpR op_eq (pe_callC c__law_common (hr.mono (by decide)) rfl passE_def (pa_cons (pe_callB call_abs rfl T.abs_ boot_abs (pa_cons (pe_ix ix_tup (pv 0) pe_int (fun _ _ => rfl)) pa_nil)) (pa_cons (pe_ix ix_tup (pv 0) pe_int (fun _ _ => rfl)) pa_nil))) pe_int (nomark _)))))), ?_⟩
  refine ⟨_, rfl, _, _, _, _, rfl, TyOf.tup hp, rfl, _, rfl, ?_⟩
  refine iteF ?_
  refine ⟨_, rfl, _, _, rfl, .inr hq, rfl, _, rfl, ?_⟩
  refine iteF ?_
  refine ⟨_, rfl, _, _, _, _, rfl, rfl, hq, rfl, x, rfl, _, rfl, ?_⟩
  refine iteF ?_
  refine ⟨_, rfl, _, _, _, _, rfl, rfl, hq, rfl, y, rfl, _, rfl, ?_⟩
  refine iteF ?_
  refine ⟨_, rfl, _, _, _, _, rfl, rfl, hq, rfl, _, _, rfl, rfl, _, rfl, ?_⟩
  refine iteD (fun q2 => absurd q2 (by omega)) (fun q2 => ?_)
  refine ⟨_, rfl, _, _, _, _, rfl, rfl, hq, rfl, _, rfl, _, rfl, _, _, _, _, rfl, rfl, hq, rfl, absI x, y, rfl, absI_nn x, (by omega), rfl, ?_⟩
  have e : gcdI (absI x) y = 1 := hg
  rw [e]
  exact k
theorem at_h {hs : List Int} {k : Int} (h0 : 0 ≤ k) (h1 : k < hs.length) : atI (hs.map V.int) k = some (V.int (hAt hs k)) := at_ints h0 h1
theorem h_rng {hs : List Int} (ok : LineOk hs) (k : Int) : 0 ≤ hAt hs k ∧ hAt hs k ≤ 24 := by
  unfold hAt
  rw [List.getD_eq_getElem?_getD]
  cases e : hs[k.toNat]? with
  | none => exact ⟨by decide, by decide⟩
  | some v =>
    have hm := ok.2.2 v (List.mem_of_getElem? e)
    have := ok.2.1
    show 0 ≤ v ∧ v ≤ 24
    omega
def spEnds (C CR : Addr) : Sp := fun vs H Q E => ∃ (r : Addr) (hs : List Int) (k : Int), vs = [.ref r, .int k] ∧ RoadAt C H r hs ∧ (0 ≤ k → k < (hs.length : Int) - 1 → ∀ p, H p = none → Q (.ref p) (upd H p (.tup [.int (hAt hs k), .int (hAt hs (k + 1))]))) ∧
  (k < 0 ∨ (hs.length : Int) - 1 ≤ k → E (.ref CR) none H)
theorem ok_ends {f : Addr} {fd : FuncData} (F : Fun K "ends" "Road.ends" s_Road_ends f fd) (T : Txt K mg C_BadLine C_BadBottom C_OffRoad C_BadRow C_TooLong C_Road) (c_width : MCal P w K mg base C_Road "width" 1 (spWidth C_Road)) : FnOk P w K mg base (CXE P w) 2 f fd ["self", "stretch"] (spEnds C_Road C_BadRow) := by
  have sc := sc_Road_ends
  refine F.okX sc (fun vs H Q E h => by obtain ⟨r, hs, k, rfl, _⟩ := h; rfl) (fun cdv A outer s H vs Q E hr h => ?_)
  obtain ⟨r, hs, k, rfl, hR, kq, x⟩ := h
  obtain ⟨dx, q, h1, h2⟩ := id hR
  refine ⟨_, (pss_cons (ps_if (PW.pt (pw_or (pt_cmpR op_lt (pv 1) pe_int (nomark _)) (pw_or1 (pt_cmpR op_ge (pv 1) (pe_meth0C (pv 0) T.cl c_width (hr.mono (by decide)) passE_def) (nomark _))))) (pss_one (ps_raise rfl T.x_BadRow raiseE_def rfl T.g_BadRow (pa_cons pe_str pa_nil))) pss_nil)
      (pss_one (ps_ret (pe_tup (pa_cons (pe_ix ix_list (pe_fld (pv 0) rfl) (pv 1) (fun _ _ => rfl)) (pa_cons (pe_ix ix_list (pe_fld (pv 0) rfl) (pe_op op_add (pv 1) pe_int) (fun _ _ => rfl)) pa_nil)))))), ?_⟩
  refine ⟨_, rfl, _, _, rfl, rfl, _, rfl, ?_⟩
  refine iteD (fun q1 => ?_) (fun q1 => ?_)
  · refine iteT ?_
    exact ⟨sz1, x (.inl q1)⟩
  · refine ⟨_, rfl, _, rfl, r, dx, _, rfl, h1, look_other (by decide +kernel), r, hs, rfl, hR, _, _, rfl, rfl, _, rfl, ?_⟩
    refine iteD (fun q2 => ?_) (fun q2 => ?_)
    · exact ⟨sz1, x (.inr q2)⟩
    · refine ⟨_, rfl, r, C_Road, dx, _, _, rfl, h1, T.cl, T.na, look_heights, _, rfl, _, _, _, _, rfl, rfl, SqL.of h2, at_h (by omega) (by omega), _, rfl, r, C_Road, dx, _, _, rfl, h1, T.cl, T.na, look_heights, _, rfl, _, _, rfl, rfl, _, _, _, _, rfl, rfl, SqL.of h2, at_h (by omega) (by omega), sz2, fun p np => ?_⟩
      exact kq (by omega) (by omega) p np
def OnRoad (hs : List Int) (t b : Int) : Prop := 0 ≤ t ∧ t ≤ ((hs.length : Int) - 1) * b
def spOnRoad (K : PySem.W.Frag) (C CB CO : Addr) : Sp := fun vs H Q E => ∃ (r p : Addr) (hs : List Int) (t b : Int), vs = [.ref r, .ref p] ∧ RoadAt C H r hs ∧ LineOk hs ∧ SqT K H p [.int t, .int b] ∧
  (1 ≤ b → Sm 8000 b ∧ (OnRoad hs t b → ∀ q H', Same H H' → H' q = some (.tup (ptV (lowF t b))) → Q (.ref q) H') ∧ (¬ OnRoad hs t b → ∀ H', Same H H' → E (.ref CO) none H')) ∧ (b < 1 → E (.ref CB) none H)
theorem ok_on_road {f : Addr} {fd : FuncData} (F : Fun K "on_road" "Road.on_road" s_Road_on_road f fd) (T : Txt K mg C_BadLine C_BadBottom C_OffRoad C_BadRow C_TooLong C_Road) (c_width : MCal P w K mg base C_Road "width" 1 (spWidth C_Road)) (c_lowest : Cal P w K mg base "lowest" 2 (spLowest C_BadBottom)) :
    FnOk P w K mg base (CXE P w) 3 f fd ["self", "point"] (spOnRoad K C_Road C_BadBottom C_OffRoad) := by
  have sc := sc_Road_on_road
  refine F.okX sc (fun vs H Q E h => by obtain ⟨r, p, hs, t, b, rfl, _⟩ := h; rfl) (fun cdv A outer s H vs Q E hr h => ?_)
  obtain ⟨r, p, hs, t, b, rfl, hR, hok, hp, kq, x⟩ := h
  obtain ⟨dx, q, h1, h2⟩ := id hR
  refine ⟨_, (pss_cons (ps_asg (pe_callC c_lowest (hr.mono (by decide)) rfl passE_def (pa_cons (pe_ix ix_tup (pv 1) pe_int (fun _ _ => rfl)) (pa_cons (pe_ix ix_tup (pv 1) pe_int (fun _ _ => rfl)) pa_nil))) (pg_tup rfl (pgs_cons (pg_name (i := 2) sc.nd rfl (by walk_at "loc")) (pgs_cons (pg_name (i := 3) sc.nd rfl (by walk_at "loc")) pgs_nil))))
      (pss_cons (ps_if (PW.pt (pw_or (pt_cmpR op_lt (pv 2) pe_int (nomark _)) (pw_or1 (pt_cmpR op_gt (pv 2) (pe_op op_mulX (pe_meth0C (pv 0) T.cl c_width (hr.mono (by decide)) passE_def) (pv 3)) (nomark _))))) (pss_one (ps_raise rfl T.x_OffRoad raiseE_def rfl T.g_OffRoad (pa_cons pe_str pa_nil))) pss_nil)
      (pss_one (ps_ret (pe_tup (pa_cons (pv 2) (pa_cons (pv 3) pa_nil))))))), ?_⟩
  refine ⟨_, rfl, _, _, _, _, rfl, rfl, hp, rfl, _, rfl, _, _, _, _, rfl, rfl, hp, rfl, t, b, rfl, fun hb => ⟨(kq hb).1.mono (by decide), fun p1 n1 => ?_⟩, fun z => x z⟩
  obtain ⟨sb, k1, k2⟩ := kq hb
  have s1 : Same H (upd H p1 (.tup (ptV (lowF t b)))) := Same.upd n1
  have hl := hok.2.1
  refine ⟨p1, _, rfl, SqT.new, rfl, _, _, rfl, _, _, rfl, rfl, ?_⟩
  refine ⟨_, rfl, _, _, rfl, rfl, _, rfl, ?_⟩
  refine iteD (fun q1 => ?_) (fun q1 => ?_)
  · refine iteT ?_
    exact ⟨sz1, k2 (fun z => by have := (low_neg hb).mp q1; have := z.1; omega) _ s1⟩
  · refine ⟨_, rfl, _, rfl, r, dx, _, rfl, s1 _ _ h1, look_other (by decide +kernel), r, hs, rfl, hR.same s1, _, rfl, _, _, rfl, rfl, IntMulOk.of_left (intBits_le_64 (by omega) (by omega)), _, _, rfl, rfl, _, rfl, ?_⟩
    refine iteD (fun q2 => ?_) (fun q2 => ?_)
    · exact ⟨sz1, k2 (fun z => by have := (low_gt hb).mp q2; have := z.2; omega) _ s1⟩
    · refine ⟨_, rfl, _, rfl, sz2, fun p2 n2 => ?_⟩
      refine k1 ⟨?_, ?_⟩ p2 _ (s1.trans (Same.upd n2)) upd_same
      · rcases Int.lt_or_le t 0 with z | z
        · exact absurd ((low_neg hb).mpr z) q1
        · exact z
      · rcases Int.lt_or_le (((hs.length : Int) - 1) * b) t with z | z
        · exact absurd ((low_gt hb).mpr z) q2
        · exact z
def spAt (K : PySem.W.Frag) (C CB CO : Addr) : Sp := fun vs H Q E => ∃ (r p : Addr) (hs : List Int) (t b : Int), vs = [.ref r, .ref p] ∧ RoadAt C H r hs ∧ LineOk hs ∧ SqT K H p [.int t, .int b] ∧
  (1 ≤ b → Sm 8000 b ∧ (OnRoad hs t b → ∀ q H', Same H H' → H' q = some (.tup (ptV (stepP hs t b))) → Q (.ref q) H') ∧ (¬ OnRoad hs t b → ∀ H', Same H H' → E (.ref CO) none H')) ∧ (b < 1 → E (.ref CB) none H)
theorem ok_at {f : Addr} {fd : FuncData} (F : Fun K "at" "Road.at" s_Road_at f fd) (T : Txt K mg C_BadLine C_BadBottom C_OffRoad C_BadRow C_TooLong C_Road) (c_width : MCal P w K mg base C_Road "width" 1 (spWidth C_Road)) (c_lowest : Cal P w K mg base "lowest" 2 (spLowest C_BadBottom)) (c_ends : MCal P w K mg base C_Road "ends" 2 (spEnds C_Road C_BadRow))
    (c_on_road : MCal P w K mg base C_Road "on_road" 3 (spOnRoad K C_Road C_BadBottom C_OffRoad)) : FnOk P w K mg base (CXE P w) 4 f fd ["self", "point"] (spAt K C_Road C_BadBottom C_OffRoad) := by
  have sc := sc_Road_at
  refine F.okX sc (fun vs H Q E h => by obtain ⟨r, p, hs, t, b, rfl, _⟩ := h; rfl) (fun cdv A outer s H vs Q E hr h => ?_)
  obtain ⟨r, p, hs, t, b, rfl, hR, hok, hp, kq, x⟩ := h
  obtain ⟨dx, q, h1, h2⟩ := id hR
  refine ⟨_, (pss_cons (ps_asg (pe_methC (pv 0) T.cl c_on_road (hr.mono (by decide)) passE_def (pa_cons (pv 1) pa_nil)) (pg_tup rfl (pgs_cons (pg_name (i := 2) sc.nd rfl (by walk_at "loc")) (pgs_cons (pg_name (i := 3) sc.nd rfl (by walk_at "loc")) pgs_nil))))
      (pss_cons (ps_set (i := 4) sc.nd rfl (by walk_at "loc") (pe_callB (call_min2 rfl) rfl T.min_ PyProof.Rows.boot_min (pa_cons (pe_op op_fdivX (pv 2) (pv 3)) (pa_cons (pe_op op_sub (pe_meth0C (pv 0) T.cl c_width (hr.mono (by decide)) passE_def) pe_int) pa_nil))))
      (pss_cons (ps_asg (pe_methC (pv 0) T.cl c_ends (hr.mono (by decide)) passE_def (pa_cons (pv 4) pa_nil)) (pg_tup rfl (pgs_cons (pg_name (i := 5) sc.nd rfl (by walk_at "loc")) (pgs_cons (pg_name (i := 6) sc.nd rfl (by walk_at "loc")) pgs_nil))))
      (pss_cons (ps_set (i := 7) sc.nd rfl (by walk_at "loc") (pe_op op_sub (pv 2) (pe_op op_mulX (pv 4) (pv 3))))
      (pss_one (ps_ret (pe_callC c_lowest (hr.mono (by decide)) rfl passE_def (pa_cons (pe_op op_add (pe_op op_mulX (pv 5) (pv 3)) (pe_op op_mulX (pe_op op_sub (pv 6) (pv 5)) (pv 7))) (pa_cons (pv 3) pa_nil))))))))), ?_⟩
  refine ⟨_, rfl, r, dx, _, rfl, h1, look_other (by decide +kernel), _, rfl, r, p, hs, t, b, rfl, hR, hok, hp, fun hb => ⟨(kq hb).1, fun hon p1 H1 s1 f1 => ?_, fun hoff H1 s1 => (kq hb).2.2 hoff H1 s1⟩, fun z => x z⟩
  obtain ⟨sb, k1, k2⟩ := kq hb
  have hl1 := hok.1
  have hl2 := hok.2.1
  have hy := low_bot (t := t) hb
  have hyb := low_le (t := t) hb
  have hx : 0 ≤ (lowF t b).1 := by
    rcases Int.lt_or_le (lowF t b).1 0 with z | z
    · have := (low_neg hb).mp z
      have := hon.1
      omega
    · exact z
  have hk := kF_rng (hs := hs) hl1 hy hx
  have sy : Sm 9000 (lowF t b).2 := (sb.of_le (by omega)).mono (by decide)
  refine ⟨p1, _, rfl, SqT.of f1, rfl, _, _, rfl, _, _, rfl, rfl, ?_⟩
  refine ⟨_, rfl, _, rfl, _, _, rfl, rfl, ⟨by omega, sy⟩, _, rfl, r, dx, _, rfl, s1 _ _ h1, look_other (by decide +kernel), r, hs, rfl, hR.same s1, _, _, rfl, rfl, _, _, rfl, ?_⟩
  refine ⟨_, rfl, r, dx, _, rfl, s1 _ _ h1, look_other (by decide +kernel), V.int (kF hs (lowF t b).1 (lowF t b).2), rfl, r, hs, kF hs (lowF t b).1 (lowF t b).2, rfl, hR.same s1, fun _ _ p2 n2 => ?_, fun z => absurd z (by omega)⟩
  have g1 := h_rng hok (kF hs (lowF t b).1 (lowF t b).2)
  have g2 := h_rng hok (kF hs (lowF t b).1 (lowF t b).2 + 1)
  refine ⟨p2, _, rfl, SqT.new, rfl, _, _, rfl, _, _, rfl, rfl, ?_⟩
  refine ⟨_, rfl, V.int (kF hs (lowF t b).1 (lowF t b).2), rfl, _, rfl, _, _, rfl, rfl, IntMulOk.of_left (intBits_le_64 (by omega) (by omega)), _, _, rfl, rfl, ?_⟩
  refine ⟨_, rfl, _, rfl, _, _, rfl, rfl, IntMulOk.of_left (intBits_le_64 (by omega) (by omega)), _, rfl, _, rfl, _, _, rfl, rfl, _, rfl, _, _, rfl, rfl, IntMulOk.of_left (intBits_le_64 (by omega) (by omega)), _, _, rfl, rfl, _, rfl, ?_⟩
  refine ⟨lineF hs (lowF t b).1 (lowF t b).2, (lowF t b).2, rfl, fun _ => ⟨sy, fun p3 n3 => ?_⟩, fun z => absurd z (by omega)⟩
  have e : lowF (lineF hs (lowF t b).1 (lowF t b).2) (lowF t b).2 = stepP hs t b := stepP_low hb
  rw [e]
  exact k1 hon p3 _ (s1.trans ((Same.upd n2).trans (Same.upd n3))) upd_same
theorem line_of {hs : List Int} {wd : Int} (h : InW hs wd) (w1 : 1 ≤ wd) (w2 : wd ≤ 24) : LineOk hs := by
  refine ⟨by have := h.1; omega, by have := h.1; omega, fun x hx => ?_⟩
  have h1 := h.1
  have h2 := h.2 x hx
  omega
/-- a new road: what was there stays -/
theorem made_same {H H' : Hp} {x dx C : Addr} (nx : H x = none) (nd : H dx = none) (h : ∀ b o, upd (upd H dx (.own x)) x (.ins C dx []) b = some o → b ≠ x → H' b = some o) : Same H H' := fun b o e =>
  h b o (by rw [upd_ne (ne_of_none e nx), upd_ne (ne_of_none e nd)]; exact e) (ne_of_none e nx)
theorem Same.upd2 {H H' : Hp} {p : Addr} {o : HO} (s : Same H H') (n : H p = none) : Same H (L2.upd H' p o) := fun b u e => by
  rw [upd_ne (ne_of_none e n)]
  exact s b u e
theorem rd_pt {K : PySem.W.Frag} {H : Hp} {p : Addr} {q : Int × Int} (h : SqT K H p [.int q.1, .int q.2]) : RD K H (ptD q) (.ref p) := by
  unfold ptD
  rw [RD]
  exact ⟨p, _, rfl, h, by rw [RDs]; exact ⟨_, _, rfl, by rw [RD], by rw [RDs]; exact ⟨_, _, rfl, by rw [RD], by rw [RDs]⟩⟩⟩
theorem dep_pt {p q : Int × Int} : min (ptD p).depth (ptD q).depth ≤ 60 := by simp [ptD, PyData.depth, PyData.depthAll]
theorem h_rng2 {hs : List Int} (ok : LineOk hs) (k : Int) : 0 ≤ hAt hs k ∧ hAt hs k ≤ (hs.length : Int) - 1 := by
  unfold hAt
  rw [List.getD_eq_getElem?_getD]
  have := ok.1
  cases e : hs[k.toNat]? with
  | none => exact ⟨by decide, by show (0 : Int) ≤ _; omega⟩
  | some v => exact ok.2.2 v (List.mem_of_getElem? e)
/-- a step stays on the road -/
theorem line_on {hs : List Int} {t b : Int} (hok : LineOk hs) (hb : 1 ≤ b) (hon : OnRoad hs t b) : OnRoad hs (lineF hs t b) b := by
  have hl1 := hok.1
  have hk := kF_rng (hs := hs) hl1 hb hon.1
  have g1 := h_rng2 hok (kF hs t b)
  have g2 := h_rng2 hok (kF hs t b + 1)
  have e1 : 0 ≤ t - kF hs t b * b ∧ t - kF hs t b * b ≤ b := by
    have h1 : t / b * b ≤ t := Int.ediv_mul_le t (by omega)
    have h2 := Int.lt_ediv_add_one_mul_self t (show 0 < b by omega)
    unfold kF
    split
    · next z =>
      have h3 := Int.mul_le_mul_of_nonneg_right (show (hs.length : Int) - 1 - 1 ≤ t / b by omega) (show 0 ≤ b by omega)
      have h4 := hon.2
      constructor
      · omega
      · have : ((hs.length : Int) - 1) * b = ((hs.length : Int) - 1 - 1) * b + b := by grind
        omega
    · have : (t / b + 1) * b = t / b * b + b := by grind
      constructor <;> omega
  have r := in_reach (u := hAt hs (kF hs t b)) (v := hAt hs (kF hs t b + 1)) e1.1 e1.2
  refine ⟨Int.le_trans ?_ r.1, Int.le_trans r.2 ?_⟩
  · refine Int.mul_nonneg ?_ (by omega)
    split <;> omega
  · refine Int.mul_le_mul_of_nonneg_right ?_ (by omega)
    split <;> omega
theorem low_on {hs : List Int} {t b : Int} (hb : 1 ≤ b) (hon : OnRoad hs t b) : OnRoad hs (lowF t b).1 (lowF t b).2 := by
  constructor
  · rcases Int.lt_or_le (lowF t b).1 0 with z | z
    · have := (low_neg hb).mp z
      have := hon.1
      omega
    · exact z
  · rcases Int.lt_or_le (((hs.length : Int) - 1) * (lowF t b).2) (lowF t b).1 with z | z
    · have := (low_gt hb).mp z
      have := hon.2
      omega
    · exact z
/-- the point after n steps -/
def itP (hs : List Int) (p : Int × Int) : Nat → Int × Int
  | 0 => p
  | n + 1 => stepP hs (itP hs p n).1 (itP hs p n).2
/-- a point in lowest terms on the road, its bottom below c -/
def Pt (hs : List Int) (c : Int) (p : Int × Int) : Prop := 1 ≤ p.2 ∧ p.2 ≤ c ∧ gOf p.1 p.2 = 1 ∧ OnRoad hs p.1 p.2
theorem pt_low {hs : List Int} {t b : Int} (hb : 1 ≤ b) (hon : OnRoad hs t b) : Pt hs b (lowF t b) := ⟨low_bot hb, low_le hb, low_co hb, low_on hb hon⟩
theorem pt_step {hs : List Int} {c : Int} {p : Int × Int} (hok : LineOk hs) (h : Pt hs c p) : Pt hs c (stepP hs p.1 p.2) := by
  have a := pt_low h.1 (line_on hok h.1 h.2.2.2)
  exact ⟨a.1, Int.le_trans a.2.1 h.2.1, a.2.2.1, a.2.2.2⟩
theorem pt_it {hs : List Int} {c : Int} {p : Int × Int} (hok : LineOk hs) (h : Pt hs c p) : ∀ n, Pt hs c (itP hs p n)
  | 0 => h
  | n + 1 => pt_step hok (pt_it hok h n)
/-- tops over one bottom -/
def trT (hs : List Int) (t b : Int) : Nat → Int
  | 0 => t
  | n + 1 => lineF hs (trT hs t b n) b
theorem trT_on {hs : List Int} {t b : Int} (hok : LineOk hs) (hb : 1 ≤ b) (hon : OnRoad hs t b) : ∀ n, OnRoad hs (trT hs t b n) b
  | 0 => hon
  | n + 1 => line_on hok hb (trT_on hok hb hon n)
theorem trT_low {hs : List Int} {t b : Int} (hb : 1 ≤ b) : ∀ n, lowF (trT hs t b n) b = itP hs (lowF t b) n
  | 0 => rfl
  | n + 1 => by
    show stepP hs (trT hs t b n) b = stepP hs (itP hs (lowF t b) n).1 (itP hs (lowF t b) n).2
    rw [← trT_low hb n, stepP_low hb]
def ptsL (hs : List Int) (p : Int × Int) (n : Nat) : List (Int × Int) := (List.range n).map (itP hs p)
theorem ptsL_len (hs : List Int) (p : Int × Int) (n : Nat) : (ptsL hs p n).length = n := by
  unfold ptsL
  rw [List.length_map, List.length_range]
/-! lists of points as they lie -/
def PtR (H : Hp) (v : V) (p : Int × Int) : Prop := ∃ a, v = .ref a ∧ H a = some (.tup [.int p.1, .int p.2])
theorem PtR.same {H H' : Hp} {v : V} {p : Int × Int} (h : PtR H v p) (s : Same H H') : PtR H' v p := by
  obtain ⟨a, e, f⟩ := h
  exact ⟨a, e, s _ _ f⟩
theorem PtR.upd {H : Hp} {v : V} {p : Int × Int} {q : Addr} {xs : List V} {o : HO} (h : PtR H v p) (hq : H q = some (.lst xs)) : PtR (L2.upd H q o) v p := by
  obtain ⟨a, e, f⟩ := h
  refine ⟨a, e, ?_⟩
  rw [upd_ne (fun z => by rw [z, hq] at f; cases f)]
  exact f
theorem pair_map {α β : Type} {F G : α → β → Prop} (h : ∀ a b, F a b → G a b) : ∀ {l : List α} {m : List β}, Paired F l m → Paired G l m
  | _, _, .nil => .nil
  | _, _, .cons a t => .cons (h _ _ a) (pair_map h t)
theorem pair_get {α β : Type} {F : α → β → Prop} : ∀ {l : List α} {m : List β} {i : Nat} {a : α}, Paired F l m → l[i]? = some a → ∃ b, m[i]? = some b ∧ F a b
  | _, _, 0, _, .cons a _, e => by cases e; exact ⟨_, rfl, a⟩
  | _, _, i + 1, _, .cons _ t, e => pair_get (i := i) t e
theorem pair_mem {α β : Type} {F : α → β → Prop} : ∀ {l : List α} {m : List β} {a : α}, Paired F l m → a ∈ l → ∃ b, b ∈ m ∧ F a b
  | _, _, _, .cons a t, e => by
    rcases List.mem_cons.mp e with rfl | e
    · exact ⟨_, .head _, a⟩
    · obtain ⟨b, hb, fb⟩ := pair_mem t e
      exact ⟨b, .tail _ hb, fb⟩
/-- a list of points -/
def PtsAt (H : Hp) (q : Addr) (ps : List (Int × Int)) : Prop := ∃ vs, H q = some (.lst vs) ∧ Paired (PtR H) vs ps
theorem PtsAt.same {H H' : Hp} {q : Addr} {ps : List (Int × Int)} (h : PtsAt H q ps) (s : Same H H') : PtsAt H' q ps := by
  obtain ⟨vs, f, r⟩ := h
  exact ⟨vs, s _ _ f, pair_map (fun _ _ z => z.same s) r⟩
theorem rd_pts {K : PySem.W.Frag} {H : Hp} : ∀ {vs : List V} {ps : List (Int × Int)}, Paired (PtR H) vs ps → RDs K H (ps.map ptD) vs
  | _, _, .nil => by rw [List.map_nil, RDs]
  | _, _, .cons a t => by
    obtain ⟨p, rfl, f⟩ := a
    rw [List.map_cons, RDs]
    exact ⟨_, _, rfl, rd_pt (SqT.of f), rd_pts t⟩
theorem PtsAt.rd {K : PySem.W.Frag} {H : Hp} {q : Addr} {ps : List (Int × Int)} (h : PtsAt H q ps) : RD K H (.list (ps.map ptD)) (.ref q) := by
  obtain ⟨vs, f, r⟩ := h
  rw [RD]
  exact ⟨q, _, rfl, SqL.of f, rd_pts r⟩
theorem lay_ptl (ps : List (Int × Int)) : (PyData.list (ps.map ptD)).canLay0 = true := by
  rw [PyData.canLay0]
  exact lay_pts ps
theorem dep_ptl (ps qs : List (Int × Int)) : min (PyData.list (ps.map ptD)).depth (PyData.list (qs.map ptD)).depth ≤ 60 := by
  have h1 := dep_pts ps
  simp only [PyData.depth]
  omega
theorem dec_ptl (ps : List (Int × Int)) : PyData.eqv (.list (ps.map ptD)) (.list (ps.map ptD)) = true := by
  rw [PyData.eqv, eqv_pts, decide_eq_true rfl]
def Dist {α : Type} (f : Nat → α) (n : Nat) : Prop := ∀ i j, i < j → j < n → f i ≠ f j
theorem Dist.mono {α : Type} {f : Nat → α} {m n : Nat} (h : Dist f n) (le : m ≤ n) : Dist f m := fun i j a b => h i j a (by omega)
theorem Dist.succ {α : Type} {f : Nat → α} {n : Nat} (h : Dist f n) (h' : ∀ j, j < n → f j ≠ f n) : Dist f (n + 1) := fun i j a b => by
  rcases (by omega : j < n ∨ j = n) with z | z
  · exact h i j a z
  · subst z
    exact h' i a
theorem pig (N : Nat) : ∀ l : List Nat, l.Nodup → (∀ x ∈ l, x < N) → l.length ≤ N := by
  induction N with
  | zero =>
    intro l _ h
    cases l with
    | nil => exact Nat.le_refl _
    | cons a r => exact absurd (h a (.head _)) (by omega)
  | succ N ih =>
    intro l nd h
    by_cases m : N ∈ l
    · have h1 := ih (l.erase N) (nd.erase N) fun x hx => by
        have a := (nd.mem_erase_iff.mp hx)
        have b := h x a.2
        omega
      rw [List.length_erase_of_mem m] at h1
      omega
    · have := ih l nd fun x hx => by
        have b := h x hx
        have : x ≠ N := fun z => m (z ▸ hx)
        omega
      omega
theorem pigI {f : Nat → Int} {n : Nat} {B : Int} (h : Dist f n) (b : ∀ i, 0 ≤ f i ∧ f i ≤ B) : (n : Int) ≤ B + 1 := by
  have h1 := pig (B + 1).toNat ((List.range n).map fun i => (f i).toNat) (by
    rw [List.nodup_iff_pairwise_ne, List.pairwise_map]
    refine List.Pairwise.imp_of_mem ?_ (List.pairwise_lt_range (n := n))
    intro i j hi hj hij e
    have := b i
    have := b j
    exact h i j hij (List.mem_range.mp hj) (by omega)) fun x hx => by
      obtain ⟨i, _, rfl⟩ := List.mem_map.mp hx
      have := b i
      omega
  rw [List.length_map, List.length_range] at h1
  have := b 0
  omega
theorem low_low {t b : Int} (hb : 1 ≤ b) (g : gOf t b = 1) : lowF t b = (t, b) := by
  unfold lowF
  rw [g, Int.ediv_one, Int.ediv_one]
theorem it_tr {hs : List Int} {c : Int} {p : Int × Int} (h : Pt hs c p) (n : Nat) : itP hs p n = lowF (trT hs p.1 p.2 n) p.2 := by
  rw [trT_low h.1, low_low h.1 h.2.2.1]
theorem low_inj {x y b : Int} (hb : 1 ≤ b) (e : lowF x b = lowF y b) : x = y := by
  have h1 := (step_back (N := x) hb).2
  have h2 := (step_back (N := y) hb).2
  rw [e] at h1
  omega
theorem it_eq {hs : List Int} {c : Int} {p : Int × Int} (h : Pt hs c p) (i j : Nat) : itP hs p i = itP hs p j ↔ trT hs p.1 p.2 i = trT hs p.1 p.2 j := by
  rw [it_tr h, it_tr h]
  exact ⟨fun e => low_inj h.1 e, fun e => by rw [e]⟩
theorem dist_it {hs : List Int} {c : Int} {p : Int × Int} (h : Pt hs c p) {n : Nat} (d : Dist (itP hs p) n) : Dist (trT hs p.1 p.2) n := fun i j a b e => d i j a b ((it_eq h i j).mpr e)
/-- a trace is never longer than the places over its bottom -/
theorem dist_le {hs : List Int} {c : Int} {p : Int × Int} (hok : LineOk hs) (h : Pt hs c p) {n : Nat} (d : Dist (itP hs p) n) : (n : Int) ≤ ((hs.length : Int) - 1) * p.2 + 1 :=
  pigI (dist_it h d) fun i => trT_on hok h.1 h.2.2.2 i
def keyP (p : Int × Int) : List Key := [.inl p.1, .inl p.2]
theorem keyP_inj {p q : Int × Int} (e : keyP p = keyP q) : p = q := by
  unfold keyP at e
  simp only [List.cons.injEq, Sum.inl.injEq, and_true] at e
  exact Prod.ext e.1 e.2
/-- a table of the first n -/
def tabF {κ : Type} (k : Nat → κ) (n : Nat) : List (κ × V) := (List.range n).map fun i => (k i, V.int i)
theorem tabF_succ {κ : Type} (k : Nat → κ) (n : Nat) : tabF k (n + 1) = tabF k n ++ [(k n, V.int n)] := by
  unfold tabF
  rw [List.range_succ, List.map_append]
  rfl
theorem tabF_len {κ : Type} (k : Nat → κ) (n : Nat) : (tabF k n).length = n := by
  unfold tabF
  rw [List.length_map, List.length_range]
theorem tabF_none {κ : Type} [DecidableEq κ] {k : Nat → κ} {q : κ} {n : Nat} (h : ∀ j, j < n → k j ≠ q) : valV (tabF k n) q = none := by
  unfold valV tabF
  rw [List.find?_eq_none.mpr]
  · rfl
  · intro x hx
    obtain ⟨i, hi, rfl⟩ := List.mem_map.mp hx
    simpa using h i (List.mem_range.mp hi)
theorem tabF_some {κ : Type} [DecidableEq κ] {k : Nat → κ} {j : Nat} : ∀ {n : Nat}, Dist k n → j < n → valV (tabF k n) (k j) = some (.int j)
  | 0, _, h => absurd h (by omega)
  | n + 1, d, h => by
    rw [tabF_succ, valV_snoc _ _ _ _ (tabF_none fun i hi => d i n hi (by omega))]
    rcases (by omega : j < n ∨ j = n) with z | z
    · rw [if_neg (d j n z (by omega)), tabF_some (d.mono (by omega)) z]
    · subst z
      rw [if_pos rfl]
theorem pair_to {α β γ δ : Type} {F : α → β → Prop} {G : α → γ → Prop} (g : δ → β) (f : δ → γ) (h : ∀ a x, F a (g x) → G a (f x)) : ∀ {l : List δ} {vs : List α}, Paired F vs (l.map g) → Paired G vs (l.map f)
  | [], _, .nil => .nil
  | _ :: _, _, .cons a t => .cons (h _ _ a) (pair_to g f h t)
end

section
variable {P : Program} {w : World} {K : PySem.W.Frag} {mg : Str → Option Value} {base : Heap} {C_BadLine : Addr} {C_BadBottom : Addr} {C_OffRoad : Addr} {C_BadRow : Addr} {C_TooLong : Addr} {C_Road : Addr}
def spTrace (C CT : Addr) : Sp := fun vs H Q E => ∃ (r a : Addr) (hs : List Int) (p : Int × Int) (c : Int), vs = [.ref r, .ref a] ∧ RoadAt C H r hs ∧ LineOk hs ∧ H a = some (.tup [.int p.1, .int p.2]) ∧ Pt hs c p ∧ Sm 8000 c ∧
  (∀ n u q l H', n ≤ 1000 → Dist (itP hs p) n → u < n → itP hs p n = itP hs p u → Same H H' → H l = none → H' q = some (.tup [.ref l, .int ((u : Nat) : Int)]) → PtsAt H' l (ptsL hs p n) → Q (.ref q) H') ∧ (Dist (itP hs p) 1001 → ∀ H', Same H H' → E (.ref CT) none H')
theorem ok_trace {f : Addr} {fd : FuncData} (F : Fun K "trace" "trace" s_trace f fd) (T : Txt K mg C_BadLine C_BadBottom C_OffRoad C_BadRow C_TooLong C_Road) (c_at : MCal P w K mg base C_Road "at" 4 (spAt K C_Road C_BadBottom C_OffRoad)) : FnOk P w K mg base (CXE P w) 5 f fd ["road", "start"] (spTrace C_Road C_TooLong) := by
  have sc := sc_trace
  refine F.okX sc (fun vs H Q E h => by obtain ⟨r, a, hs, p, c, rfl, _⟩ := h; rfl) (fun cdv A outer s H vs Q E hr h => ?_)
  obtain ⟨r, a, hs, p, c, rfl, hR, hok, ha, hP, sc8, k, x⟩ := h
  obtain ⟨dx, q0, h1, h2⟩ := id hR
  obtain ⟨tm, g_LONGEST_TRACE⟩ := T.g_LONGEST_TRACE
  refine ⟨_, (pss_cons (ps_set (i := 2) sc.nd rfl (by walk_at "loc") pe_dnewT)
      (pss_cons (ps_set (i := 3) sc.nd rfl (by walk_at "loc") (pv 1))
      (pss_cons (ps_while PassesOwn.leaving (pt_cmp (pc_dnotin (hu_of hr) (pv 3) (pv 2))) (pss_cons (ps_if (pt_cmpR op_eq (pe_callB call_lenT rfl T.len_ PySem.boot_len (pa_cons (pv 2) pa_nil)) (pe_glob (v := V.int 1000) rfl g_LONGEST_TRACE ⟨_, rfl⟩) (nomark _)) (pss_one (ps_raise rfl T.x_TooLong raiseE_def rfl T.g_TooLong (pa_cons pe_str pa_nil))) pss_nil)
      (pss_cons (ps_dput (hu_of hr) (pv 2) (pv 3) (pe_callB call_lenT rfl T.len_ PySem.boot_len (pa_cons (pv 2) pa_nil)) rfl)
      (pss_one (ps_set (i := 3) sc.nd rfl (by walk_at "loc") (pe_methC (pv 0) T.cl c_at (hr.mono (by decide)) passE_def (pa_cons (pv 3) pa_nil)))))))
      (pss_one (ps_ret (pe_tup (pa_cons (pe_callTy (call_listT rfl) rfl T.list_ PyProof.Rows.boot_list (pa_cons (pv 2) pa_nil)) (pa_cons (pe_dget (hu_of hr) (pv 2) (pv 3) (fun _ _ => rfl)) pa_nil)))))))), ?_⟩
  refine fun D nD => ⟨_, rfl, ?_⟩
  refine while_by (fun σ H2 => ∃ (i : Nat) (b : Addr), σ = [some (.ref r), some (.ref a), some (.ref D), some (.ref b)] ∧ i ≤ 1000 ∧ Dist (itP hs p) i ∧ Same H H2 ∧ H2 D = some (.dT (tabF (fun j => keyP (itP hs p j)) i)) ∧ H2 b = some (.tup [.int (itP hs p i).1, .int (itP hs p i).2]))
    (fun _ H2 => match H2 D with | some (.dT kvs) => 1001 - kvs.length | _ => 0) ⟨0, a, rfl, by omega, fun i j _ z => absurd z (by omega), Same.upd nD, upd_same, by rw [upd_ne (ne_of_none ha nD)]; exact ha⟩ ?_ fun σ H Q Q' h ⟨v, e, v2, e2, a', o, e3, g, kk, e4, q⟩ => ⟨v, e, v2, e2, a', o, e3, g, kk, e4, h _ _ q⟩
  rintro σ H2 ⟨i, b, rfl, hi, hd, s2, f2, fb⟩
  have hd' : Dist (fun j => keyP (itP hs p j)) i := fun u v uv vi e => hd u v uv vi (keyP_inj e)
  have fb' : H2 b = some (.tup ((keyP (itP hs p i)).map kV)) := fb
  by_cases hj : ∃ j, j < i ∧ itP hs p j = itP hs p i
  · obtain ⟨j, ji, je⟩ := hj
    have hv : valV (tabF (fun j => keyP (itP hs p j)) i) (keyP (itP hs p i)) = some (.int j) := by
      rw [← je]
      exact tabF_some hd' ji
    have dg : DGet H2 D (.ref b) (some (.int j)) := by
      have := DGet.t f2 fb'
      rwa [hv] at this
    refine ⟨_, rfl, _, rfl, D, _, rfl, dg, _, rfl, ?_⟩
    refine iteF ?_
    refine ⟨_, rfl, D, _, rfl, f2, fun l vs nl kat => ?_⟩
    have s3 := Same.upd (o := .lst vs) nl
    have dg3 : DGet (upd H2 l (.lst vs)) D (.ref b) (some (.int j)) := by
      have := DGet.t (s3 _ _ f2) (s3 _ _ fb')
      rwa [hv] at this
    refine ⟨_, rfl, _, rfl, D, _, rfl, dg3, sz2, fun q nq => ?_⟩
    have s4 := s3.trans (Same.upd (o := .tup [.ref l, .int j]) nq)
    have nl0 : H l = none := by
      cases e : H l with
      | none => rfl
      | some o => rw [s2 _ _ e] at nl; cases nl
    refine k i j q l _ hi hd ji je.symm (s2.trans s4) nl0 upd_same ⟨vs, Same.upd nq _ _ upd_same, ?_⟩
    refine pair_to (l := List.range i) (fun j => (keyP (itP hs p j), V.int j)) (itP hs p) (fun v j hv => ?_) kat
    obtain ⟨b', rfl, fb2⟩ := hv
    exact ⟨b', rfl, s4 _ _ fb2⟩
  · have hn : ∀ j, j < i → itP hs p j ≠ itP hs p i := fun j a b => hj ⟨j, a, b⟩
    have hv : valV (tabF (fun j => keyP (itP hs p j)) i) (keyP (itP hs p i)) = none := tabF_none fun j a b => hn j a (keyP_inj b)
    have dg : DGet H2 D (.ref b) none := by
      have := DGet.t f2 fb'
      rwa [hv] at this
    have hd1 := hd.succ hn
    refine ⟨_, rfl, _, rfl, D, _, rfl, dg, _, rfl, ?_⟩
    refine iteT ?_
    refine ⟨_, rfl, D, _, rfl, f2, rfl, _, rfl, ?_⟩
    rw [tabF_len]
    refine iteDV (fun q1 => ?_) (fun q1 => ?_)
    · have : i = 1000 := by omega
      subst this
      exact ⟨sz1, x hd1 _ s2⟩
    · refine ⟨_, rfl, D, _, rfl, f2, _, rfl, _, rfl, D, _, rfl, DPut.t f2 fb' (small1000 (by rw [tabF_len]; omega)), ?_⟩
      rw [putK_new _ hv, tabF_len, ← tabF_succ (fun j => keyP (itP hs p j)) i]
      have s3 : Same H (upd H2 D (.dT (tabF (fun j => keyP (itP hs p j)) (i + 1)))) := Same.upd2 s2 nD
      have db : b ≠ D := fun z => by rw [z, f2] at fb; cases fb
      have fb3 : upd H2 D (.dT (tabF (fun j => keyP (itP hs p j)) (i + 1))) b = some (.tup [.int (itP hs p i).1, .int (itP hs p i).2]) := by rw [upd_ne db]; exact fb
      have f3 : upd H2 D (.dT (tabF (fun j => keyP (itP hs p j)) (i + 1))) D = some (.dT (tabF (fun j => keyP (itP hs p j)) (i + 1))) := upd_same
      generalize upd H2 D (.dT (tabF (fun j => keyP (itP hs p j)) (i + 1))) = H3 at s3 fb3 f3
      have Pn := pt_it hok hP i
      refine ⟨_, rfl, r, dx, _, rfl, s3 _ _ h1, look_other (by decide +kernel), _, rfl, r, b, hs, (itP hs p i).1, (itP hs p i).2, rfl, hR.same s3, hok, SqT.of fb3, fun _ => ⟨(sc8.of_le (by have := Pn.2.1; have := Pn.1; omega)), fun _ p4 H4 s4 f4 => ?_, fun z => absurd Pn.2.2.2 z⟩, fun z => absurd Pn.1 (by omega)⟩
      refine ⟨⟨i + 1, p4, rfl, by omega, hd1, s3.trans s4, s4 _ _ f3, f4⟩, ?_⟩
      show (match H4 D with | some (.dT kvs) => 1001 - kvs.length | _ => 0) < (match H2 D with | some (.dT kvs) => 1001 - kvs.length | _ => 0)
      rw [s4 _ _ f3, f2]
      show 1001 - (tabF (fun j => keyP (itP hs p j)) (i + 1)).length < 1001 - (tabF (fun j => keyP (itP hs p j)) i).length
      rw [tabF_len, tabF_len]
      omega
def spStep (K : PySem.W.Frag) : Sp := fun vs H Q _ => ∃ (p : Addr) (hs : List Int) (t b : Int), vs = [.ref p, .int t, .int b] ∧ SqL K H p (hs.map V.int) ∧ LineOk hs ∧ 1 ≤ b ∧ Sm 4000 b ∧ OnRoad hs t b ∧ Q (.int (lineF hs t b)) H
theorem ok_step {f : Addr} {fd : FuncData} (F : Fun K "_law_step" "_law_step" s__law_step f fd) (T : Txt K mg C_BadLine C_BadBottom C_OffRoad C_BadRow C_TooLong C_Road) : FnOk P w K mg base (CXE P w) 1 f fd ["_law_heights_here", "_law_top", "_law_bottom"] (spStep K) := by
  have sc := sc__law_step
  refine F.okX sc (fun vs H Q E h => by obtain ⟨p, hs, t, b, rfl, _⟩ := h; rfl) (fun cdv A outer s H vs Q E hr h => ?_)
  obtain ⟨p, hs, t, b, rfl, hS, hok, hb, sb, hon, k⟩ := h
  rw [← stepF_eq hok.1 hb hon.1 hon.2] at k
  have hl := hok.2.1
  have k0 := Int.ediv_nonneg hon.1 (show (0 : Int) ≤ b by omega)
  have k1 : t / b ≤ (hs.length : Int) - 1 := by
    have := Int.ediv_le_ediv (show 0 < b by omega) hon.2
    rwa [Int.mul_ediv_cancel _ (show b ≠ 0 by omega)] at this
  have g1 := h_rng hok (t / b)
  have g2 := h_rng hok (t / b + 1)
  refine ⟨_, (pss_cons (ps_set (i := 3) sc.nd rfl (by walk_at "loc") (pe_op op_fdivX (pv 1) (pv 2)))
      (pss_cons (ps_if (pt_cmpR op_eq (pe_op op_mulX (pv 3) (pv 2)) (pv 1) (nomark _)) (pss_one (ps_ret (pe_op op_mulX (pe_ix ix_list (pv 0) (pv 3) (fun _ _ => rfl)) (pv 2)))) pss_nil)
      (pss_one (ps_ret (pe_op op_add (pe_op op_mulX (pe_ix ix_list (pv 0) (pv 3) (fun _ _ => rfl)) (pv 2)) (pe_op op_mulX (pe_op op_sub (pe_ix ix_list (pv 0) (pe_op op_add (pv 3) pe_int) (fun _ _ => rfl)) (pe_ix ix_list (pv 0) (pv 3) (fun _ _ => rfl))) (pe_op op_sub (pv 1) (pe_op op_mulX (pv 3) (pv 2))))))))), ?_⟩
  refine ⟨_, rfl, _, rfl, _, _, rfl, rfl, ⟨by omega, sb.mono (by decide)⟩, _, rfl, _, rfl, _, _, rfl, rfl, IntMulOk.of_left (intBits_le_64 (by omega) (by omega)), _, rfl, rfl, _, rfl, ?_⟩
  refine iteDV (fun q1 => ?_) (fun q1 => ?_)
  · refine ⟨_, rfl, _, rfl, _, _, _, _, rfl, rfl, hS, at_h k0 (by omega), _, rfl, _, _, rfl, rfl, IntMulOk.of_left (intBits_le_64 (by omega) (by omega)), ?_⟩
    rw [stepF, if_pos q1] at k
    exact k
  · have k2 : t / b < (hs.length : Int) - 1 := by
      rcases Int.lt_or_le (t / b) ((hs.length : Int) - 1) with z | z
      · exact z
      · have e : t / b = (hs.length : Int) - 1 := by omega
        have h1 : t / b * b ≤ t := Int.ediv_mul_le t (by omega)
        have h2 := hon.2
        rw [← e] at h2
        exact absurd (by omega) q1
    refine ⟨_, rfl, _, rfl, _, _, _, _, rfl, rfl, hS, at_h k0 (by omega), _, rfl, _, _, rfl, rfl, IntMulOk.of_left (intBits_le_64 (by omega) (by omega)), _, rfl, _, rfl, _, _, rfl, rfl, _, _, _, _, rfl, rfl, hS, at_h (by omega) (by omega), _, rfl, _, rfl, _, _, _, _, rfl, rfl, hS, at_h k0 (by omega), _, _, rfl, rfl, _, rfl, _, rfl, _, rfl, _, _, rfl, rfl, IntMulOk.of_left (intBits_le_64 (by omega) (by omega)), _, _, rfl, rfl, _, _, rfl, rfl, IntMulOk.of_left (intBits_le_64 (by omega) (by omega)), _, _, rfl, rfl, ?_⟩
    rw [stepF, if_neg q1] at k
    exact k
/-- a drawn point: t / b, written c times as great -/
def spLSpot (K : PySem.W.Frag) : Sp := fun vs H Q _ => ∃ (a : Addr) (ns : List Int) (i wd mo : Int), vs = [.ref a, .int i, .int wd, .int mo] ∧ SqL K H a (ns.map V.int) ∧ 0 ≤ i ∧ 1 ≤ wd ∧ wd ≤ 24 ∧ 6 ≤ mo ∧ mo ≤ 1000 ∧
  ∀ p t b c, H p = none → 1 ≤ b → b ≤ mo → 1 ≤ c → c ≤ 3 → 0 ≤ t → t ≤ wd * b → Q (.ref p) (upd H p (.tup [.int (t * c), .int (b * c)]))
theorem ok_lspot {f : Addr} {fd : FuncData} (F : Fun K "_law_spot" "_law_spot" s__law_spot f fd) (T : Txt K mg C_BadLine C_BadBottom C_OffRoad C_BadRow C_TooLong C_Road) (c__law_pick : Cal P w K mg base "_law_pick" 2 (spPick K)) : FnOk P w K mg base (CXE P w) 3 f fd ["_law_script", "_law_at", "_law_wide", "_law_most"] (spLSpot K) := by
  have sc := sc__law_spot
  refine F.okX sc (fun vs H Q E h => by obtain ⟨a, ns, i, wd, mo, rfl, _⟩ := h; rfl) (fun cdv A outer s H vs Q E hr h => ?_)
  obtain ⟨a, ns, i, wd, mo, rfl, hS, i0, w1, w2, o1, o2, k⟩ := h
  refine ⟨_, (pss_cons (ps_set (i := 4) sc.nd rfl (by walk_at "loc") (pe_op op_add pe_int (pe_callC c__law_pick (hr.mono (by decide)) rfl passE_def (pa_cons (pv 0) (pa_cons (pv 1) (pa_cons pe_int (pa_cons (pv 3) pa_nil)))))))
      (pss_cut (ps_if (pt_cmpR op_eq (pe_callC c__law_pick (hr.mono (by decide)) rfl passE_def (pa_cons (pv 0) (pa_cons (pv 1) (pa_cons pe_int (pa_cons pe_int pa_nil))))) pe_int (nomark _)) (pss_one (ps_set (i := 4) sc.nd rfl (by walk_at "loc") (pe_op op_add pe_int (pe_op op_mod (pv 4) pe_int)))) pss_nil)
      (pss_cons (ps_set (i := 5) sc.nd rfl (by walk_at "loc") (pe_op op_add (pe_op op_mulX (pe_callC c__law_pick (hr.mono (by decide)) rfl passE_def (pa_cons (pv 0) (pa_cons (pv 1) (pa_cons pe_int (pa_cons (pv 2) pa_nil))))) (pv 4)) (pe_callC c__law_pick (hr.mono (by decide)) rfl passE_def (pa_cons (pv 0) (pa_cons (pv 1) (pa_cons pe_int (pa_cons (pe_op op_add (pv 4) pe_int) pa_nil)))))))
      (pss_cons (ps_set (i := 6) sc.nd rfl (by walk_at "loc") (pe_op op_add pe_int (pe_callC c__law_pick (hr.mono (by decide)) rfl passE_def (pa_cons (pv 0) (pa_cons (pv 1) (pa_cons pe_int (pa_cons pe_int pa_nil)))))))
      (pss_one (ps_ret (pe_tup (pa_cons (pe_op op_mulX (pv 5) (pv 6)) (pa_cons (pe_op op_mulX (pv 4) (pv 6)) pa_nil))))))))), ?_⟩
  refine ⟨_, rfl, _, rfl, _, rfl, a, ns, _, _, _, rfl, hS, i0, (by omega), (by omega), (by omega), fun r1 _ l1 u1 => ?_⟩
  refine ⟨_, _, rfl, rfl, fun σ H' => ∃ b, σ = [some (.ref a), some (.int i), some (.int wd), some (.int mo), some (.int b), none, none] ∧ 1 ≤ b ∧ b ≤ mo ∧ H' = H, ?_, ?_⟩
  · refine ⟨_, rfl, _, rfl, a, ns, _, _, _, rfl, hS, i0, (by omega), (by omega), (by omega), fun r2 _ l2 u2 => ?_⟩
    refine ⟨rfl, _, rfl, iteDV (fun q1 => ?_) (fun q1 => ?_)⟩
    · have e1 := Int.emod_nonneg (1 + r1) (show (6 : Int) ≠ 0 by decide)
      have e2 := Int.emod_lt_of_pos (1 + r1) (show (0 : Int) < 6 by decide)
      exact ⟨_, rfl, _, _, rfl, rfl, (by walk_at "pos"), _, _, rfl, rfl, _, rfl, by omega, by omega, rfl⟩
    · exact ⟨_, rfl, by omega, by omega, rfl⟩
  · rintro σ Hx ⟨b, rfl, b1, b2, rfl⟩
    refine ⟨_, rfl, _, rfl, _, rfl, a, ns, _, _, _, rfl, hS, i0, (by omega), (by omega), (by omega), fun r3 _ l3 u3 => ?_⟩
    refine ⟨_, rfl, _, _, rfl, rfl, (by walk_at "mul"), _, rfl, _, rfl, _, rfl, _, _, rfl, rfl, a, ns, _, _, _, rfl, hS, i0, (by omega), (by omega), (by omega), fun r4 _ l4 u4 => ?_⟩
    refine ⟨_, _, rfl, rfl, ?_⟩
    refine ⟨_, rfl, _, rfl, a, ns, _, _, _, rfl, hS, i0, (by omega), (by omega), (by omega), fun r5 _ l5 u5 => ?_⟩
    refine ⟨_, _, rfl, rfl, ?_⟩
    have h1 := Int.mul_le_mul_of_nonneg_right (show r3 ≤ wd - 1 by omega) (show 0 ≤ b by omega)
    have h2 : (wd - 1) * b = wd * b - b := by rw [Int.sub_mul, Int.one_mul]
    have h3 := Int.mul_nonneg l3 (show 0 ≤ b by omega)
    refine ⟨_, rfl, V.int (1 + r5), rfl, _, _, rfl, rfl, (by walk_at "mul"), _, rfl, V.int (1 + r5), rfl, _, _, rfl, rfl, (by walk_at "mul"), sz2, fun p np => ?_⟩
    exact k p _ b (1 + r5) np b1 b2 (by omega) (by omega) (by omega) (by omega)
def spPoints (K : PySem.W.Frag) : Sp := fun vs H Q _ => ∃ (q : Addr) (ps : List (Int × Int)), vs = [.ref q] ∧ PtsAt H q ps ∧ ps.length ≤ 2000 ∧ (∀ p ∈ ps, 1 ≤ p.2 ∧ gOf p.1 p.2 = 1) ∧ ∀ H', Same H H' → Q (.bl true) H'
theorem all_true' {α : Type} (ns : List α) : (ns.map fun _ => true).all id = true := by
  induction ns with
  | nil => rfl
  | cons a r ih => rw [List.map_cons, List.all_cons, ih]; rfl
theorem ok_points {f : Addr} {fd : FuncData} (F : Fun K "_law_points" "_law_points" s__law_points f fd) (T : Txt K mg C_BadLine C_BadBottom C_OffRoad C_BadRow C_TooLong C_Road) (c__law_point : Cal P w K mg base "_law_point" 2 (spPoint K)) : FnOk P w K mg base (CXE P w) 3 f fd ["_law_found"] (spPoints K) := by
  have sc := sc__law_points
  refine F.okX sc (fun vs H Q E h => by obtain ⟨q, ps, rfl, _⟩ := h; rfl) (fun cdv A outer s H vs Q E hr h => ?_)
  obtain ⟨q, ps, rfl, ⟨vs, hq, pr⟩, hn, hg, k⟩ := h
  have hlen := pr.length
  refine ⟨_, (pss_one (ps_ret (pe_and (pe_callB call_isinst rfl T.isinstance_ PyProof.Rows.boot_isinstance (pa_cons (pv 0) (pa_cons (pe_bltn (v := V.ty "list") rfl T.list_ PyProof.Rows.boot_list rfl) pa_nil))) (pe_one (pe_callB (call_all_list rfl) rfl T.all_ boot_all (pa_cons (pe_comp (M := []) rfl rfl (by walk_at "cap") (by walk_at "has") (by walk_at "cix") rfl (by decide +kernel) rfl (show List.Nodup (["_law_point_here"] : List Str) by decide +kernel) (pi_list (pv 0)) (fun _ _ _ _ _ => (pe_callC c__law_point (hr.mono (by decide)) rfl passE0 (pa_cons (pv 0) pa_nil)))) pa_nil)))))), ?_⟩
  refine ⟨_, rfl, _, _, _, _, rfl, TyOf.lst hq, rfl, _, rfl, ?_⟩
  refine iteT ?_
  refine ⟨_, rfl, q, rfl, ⟨_, SqL.of hq⟩, ?_⟩
  refine comp_list (K := K) (M := []) (a := q) (xs := vs) (fun _ => V.bl true) (SqL.of hq) (by omega) (fun x H' R hx hs hR => ?_) fun p np => ?_
  · obtain ⟨pt, hm, ⟨a, rfl, fa⟩⟩ := pair_mem pr hx
    exact ⟨_, rfl, a, pt.1, pt.2, rfl, hs _ _ fa, (hg pt hm).1, (hg pt hm).2, hR⟩
  · have e : vs.map (fun _ => V.bl true) = (vs.map fun _ => true).map V.bl := by
      rw [List.map_map]
      rfl
    rw [e]
    refine ⟨p, vs.map fun _ => true, rfl, SqL.new, ?_⟩
    rw [all_true']
    exact k _ (Same.upd np)
end

section
variable {P : Program} {w : World} {K : PySem.W.Frag} {mg : Str → Option Value} {base : Heap} {C_BadLine : Addr} {C_BadBottom : Addr} {C_OffRoad : Addr} {C_BadRow : Addr} {C_TooLong : Addr} {C_Road : Addr}
theorem cut_take (xs : List V) {m : Nat} (h : m ≤ xs.length) : cutV xs none (some (m : Int)) = xs.take m := by
  unfold cutV
  rw [HT.sIx_none, HT.sIx_nat, List.drop_zero, Nat.sub_zero, Nat.min_eq_left h]
theorem cut_drop (xs : List V) {m : Nat} (h : m ≤ xs.length) : cutV xs (some (m : Int)) none = xs.drop m := by
  unfold cutV
  rw [HT.sIx_none, HT.sIx_nat, Nat.min_eq_left h, List.take_of_length_le (by rw [List.length_drop]; omega)]
theorem cut_init (xs : List V) (v : V) : cutV (xs ++ [v]) none (some (-1)) = xs := by
  unfold cutV
  have e : HT.sIx (xs ++ [v]).length (xs ++ [v]).length (some (-1)) = xs.length := by
    simp only [HT.sIx]
    rw [if_pos (by decide), List.length_append, List.length_singleton]
    omega
  rw [e, HT.sIx_none, List.drop_zero, Nat.sub_zero, List.take_left']
  rfl
theorem sNone {H H' : Hp} {p : Addr} (s : Same H H') (n : H' p = .none) : H p = .none := by
  cases e : H p with
  | none => rfl
  | some o => rw [s _ _ e] at n; cases n
def spTail (K : PySem.W.Frag) (C : Addr) : Sp := fun vs H Q _ => ∃ (r p : Addr) (hs : List Int) (t b : Int), vs = [.ref r, .ref p] ∧ RoadAt C H r hs ∧ LineOk hs ∧ SqT K H p [.int t, .int b] ∧ 1 ≤ b ∧ Sm 8000 b ∧ OnRoad hs t b ∧ ¬ Dist (itP hs (lowF t b)) 1001 ∧
  ∀ (n u : Nat) (q l1 l2 : Addr) (ws : List V) (H' : Hp), Dist (itP hs (lowF t b)) n → u < n → itP hs (lowF t b) n = itP hs (lowF t b) u → Same H H' → H l1 = none → H l2 = none → l1 ≠ l2 → H' q = some (.tup [.ref l1, .ref l2]) → H' l1 = some (.lst (ws.take u)) → H' l2 = some (.lst (ws.drop u)) → Paired (PtR H') ws (ptsL hs (lowF t b) n) → Q (.ref q) H'
theorem ok_tail_ring {f : Addr} {fd : FuncData} (F : Fun K "tail_ring" "tail_ring" s_tail_ring f fd) (T : Txt K mg C_BadLine C_BadBottom C_OffRoad C_BadRow C_TooLong C_Road) (c_on_road : MCal P w K mg base C_Road "on_road" 3 (spOnRoad K C_Road C_BadBottom C_OffRoad)) (c_trace : Cal P w K mg base "trace" 5 (spTrace C_Road C_TooLong)) :
    FnOk P w K mg base (CXE P w) 6 f fd ["road", "point"] (spTail K C_Road) := by
  have sc := sc_tail_ring
  refine F.okX sc (fun vs H Q E h => by obtain ⟨r, p, hs, t, b, rfl, _⟩ := h; rfl) (fun cdv A outer s H vs Q E hr h => ?_)
  obtain ⟨r, p, hs, t, b, rfl, hR, hok, hp, hb, sb, hon, nl0, k⟩ := h
  obtain ⟨dx, q0, h1, h2⟩ := id hR
  refine ⟨_, (pss_cons (ps_asg (pe_callC c_trace (hr.mono (by decide)) rfl passE_def (pa_cons (pv 0) (pa_cons (pe_methC (pv 0) T.cl c_on_road (hr.mono (by decide)) passE_def (pa_cons (pv 1) pa_nil)) pa_nil))) (pg_tup rfl (pgs_cons (pg_name (i := 2) sc.nd rfl (by walk_at "loc")) (pgs_cons (pg_name (i := 3) sc.nd rfl (by walk_at "loc")) pgs_nil))))
      (pss_one (ps_ret (pe_tup (pa_cons (pe_slice sl_list (pv 2) po_none (po_some (pv 3))) (pa_cons (pe_slice sl_list (pv 2) (po_some (pv 3)) po_none) pa_nil)))))), ?_⟩
  refine ⟨_, rfl, _, rfl, r, dx, _, rfl, h1, look_other (by decide +kernel), _, rfl, r, p, hs, t, b, rfl, hR, hok, hp, fun _ => ⟨sb, fun _ p1 H1 s1 f1 => ?_, fun z => absurd hon z⟩, fun z => absurd hb (by omega)⟩
  refine ⟨r, p1, hs, lowF t b, b, rfl, hR.same s1, hok, f1, pt_low hb hon, sb, fun n u q l H2 n1 d1 u1 e1 s2 nl f2 pa => ?_, fun d H2 s2 => absurd d nl0⟩
  obtain ⟨ws, fl, pr⟩ := pa
  have lw : ws.length = n := by rw [pr.length, ptsL_len]
  refine ⟨q, _, rfl, SqT.of f2, rfl, _, _, rfl, _, _, rfl, rfl, ?_⟩
  refine ⟨_, rfl, _, rfl, _, rfl, l, _, rfl, SqL.of fl, fun p3 n3 => ?_⟩
  rw [cut_take ws (by omega)]
  have s3 := Same.upd (o := .lst (ws.take u)) n3
  refine ⟨_, rfl, _, rfl, _, rfl, l, _, rfl, SqL.of (s3 _ _ fl), fun p4 n4 => ⟨sz2, fun p5 n5 => ?_⟩⟩
  rw [cut_drop ws (by omega)] at n5 ⊢
  have s4 := Same.upd (o := .lst (ws.drop u)) n4
  have s5 := Same.upd (o := .tup [.ref p3, .ref p4]) n5
  have t12 := s1.trans s2
  have d34 : p3 ≠ p4 := ne_of_none (upd_same (H := H2) (o := .lst (ws.take u))) n4
  exact k n u _ p3 p4 ws _ d1 u1 e1 (t12.trans (s3.trans (s4.trans s5))) (sNone t12 n3) (sNone (t12.trans s3) n4) d34 upd_same (s5 _ _ (s4 _ _ upd_same)) (s5 _ _ upd_same) (pair_map (fun _ _ z => z.same (s3.trans (s4.trans s5))) pr)
def spPair (K : PySem.W.Frag) : Sp := fun vs H Q _ => ∃ (q l1 l2 : Addr) (ps qs : List (Int × Int)), vs = [.ref q] ∧ H q = some (.tup [.ref l1, .ref l2]) ∧ PtsAt H l1 ps ∧ PtsAt H l2 qs ∧ ps.length ≤ 2000 ∧ qs.length ≤ 2000 ∧ 1 ≤ qs.length ∧ (∀ p ∈ ps, 1 ≤ p.2 ∧ gOf p.1 p.2 = 1) ∧ (∀ p ∈ qs, 1 ≤ p.2 ∧ gOf p.1 p.2 = 1) ∧ ∀ H', Same H H' → Q (.bl true) H'
theorem ok_pair {f : Addr} {fd : FuncData} (F : Fun K "_law_pair" "_law_pair" s__law_pair f fd) (T : Txt K mg C_BadLine C_BadBottom C_OffRoad C_BadRow C_TooLong C_Road) (c__law_points : Cal P w K mg base "_law_points" 3 (spPoints K)) : FnOk P w K mg base (CXE P w) 4 f fd ["_law_found"] (spPair K) := by
  have sc := sc__law_pair
  refine F.okX sc (fun vs H Q E h => by obtain ⟨q, l1, l2, ps, qs, rfl, _⟩ := h; rfl) (fun cdv A outer s H vs Q E hr h => ?_)
  obtain ⟨q, l1, l2, ps, qs, rfl, fq, P1, P2, z1, z2, z3, g1, g2, k⟩ := h
  refine ⟨_, (pss_cons (ps_if (PW.pt (pw_or (pt_not (pt_val (pe_callB call_isinst rfl T.isinstance_ PyProof.Rows.boot_isinstance (pa_cons (pv 0) (pa_cons (pe_bltn (v := V.ty "tuple") rfl T.tuple_ PyProof.Rows.boot_tuple rfl) pa_nil))))) (pw_or1 (pt_cmpR op_ne (pe_callB call_len_seq rfl T.len_ PySem.boot_len (pa_cons (pv 0) pa_nil)) pe_int (nomark _))))) (pss_one (ps_ret pe_bl)) pss_nil)
      (pss_one (ps_ret (pe_and (pe_callC c__law_points (hr.mono (by decide)) rfl passE_def (pa_cons (pe_ix ix_tup (pv 0) pe_int (fun _ _ => rfl)) pa_nil)) (pe_and (pe_callC c__law_points (hr.mono (by decide)) rfl passE_def (pa_cons (pe_ix ix_tup (pv 0) pe_int (fun _ _ => rfl)) pa_nil)) (pe_one (pe_cmpR op_gt (pe_callB call_len_seq rfl T.len_ PySem.boot_len (pa_cons (pe_ix ix_tup (pv 0) pe_int (fun _ _ => rfl)) pa_nil)) pe_int (nomark _)))))))), ?_⟩
  refine ⟨_, rfl, _, _, _, _, rfl, TyOf.tup fq, rfl, _, rfl, ?_⟩
  refine iteF ?_
  refine ⟨_, rfl, _, _, rfl, .inr (SqT.of fq), rfl, _, rfl, iteNDV (fun z => absurd rfl z) (fun _ => ?_)⟩
  refine ⟨_, rfl, _, _, _, _, rfl, rfl, SqT.of fq, rfl, l1, ps, rfl, P1, z1, g1, fun H1 s1 => ⟨_, rfl, ?_⟩⟩
  refine iteT ?_
  refine ⟨_, rfl, _, _, _, _, rfl, rfl, SqT.of (s1 _ _ fq), rfl, l2, qs, rfl, P2.same s1, z2, g2, fun H2 s2 => ⟨_, rfl, ?_⟩⟩
  refine iteT ?_
  obtain ⟨ws, fw, pr⟩ := (P2.same s1).same s2
  refine ⟨_, rfl, _, _, _, _, rfl, rfl, SqT.of (s2 _ _ (s1 _ _ fq)), rfl, _, _, rfl, .inl (SqL.of fw), _, _, rfl, rfl, ?_⟩
  have pos : (0 : Int) < (ws.length : Int) := by rw [pr.length]; omega
  show Q (V.bl (decide ((0 : Int) < (ws.length : Int)))) H2
  rw [decide_eq_true pos]
  exact k H2 (s1.trans s2)
theorem paired_take {α β : Type} {F : α → β → Prop} : ∀ {l : List α} {m : List β} (n : Nat), Paired F l m → Paired F (l.take n) (m.take n)
  | _, _, _, .nil => by simp; exact .nil
  | _, _, 0, .cons _ _ => by simp; exact .nil
  | _, _, n + 1, .cons a t => .cons a (paired_take n t)
theorem paired_drop {α β : Type} {F : α → β → Prop} : ∀ {l : List α} {m : List β} (n : Nat), Paired F l m → Paired F (l.drop n) (m.drop n)
  | _, _, _, .nil => by simp; exact .nil
  | _, _, 0, .cons a t => .cons a t
  | _, _, n + 1, .cons _ t => paired_drop n t
theorem ptsL_get {hs : List Int} {p : Int × Int} {n i : Nat} {q : Int × Int} (h : (ptsL hs p n)[i]? = some q) : i < n ∧ q = itP hs p i := by
  unfold ptsL at h
  rw [List.getElem?_map] at h
  by_cases c : i < n
  · rw [List.getElem?_range c] at h
    exact ⟨c, (Option.some.inj h).symm⟩
  · rw [List.getElem?_eq_none (by rw [List.length_range]; omega)] at h
    cases h
theorem pts_ok {hs : List Int} {c : Int} {p : Int × Int} (hok : LineOk hs) (h : Pt hs c p) {n : Nat} : ∀ q ∈ ptsL hs p n, 1 ≤ q.2 ∧ gOf q.1 q.2 = 1 := fun q hq => by
  obtain ⟨i, hi, rfl⟩ := List.mem_map.mp hq
  have := pt_it hok h i
  exact ⟨this.1, this.2.2.1⟩
/-- how long the walk is, and where it joins -/
theorem walk_one {α : Type} {f : Nat → α} {n u n' u' : Nat} (d : Dist f n) (h : u < n) (e : f n = f u) (d' : Dist f n') (h' : u' < n') (e' : f n' = f u') : n' = n ∧ u' = u := by
  have en : n' = n := by
    rcases Nat.lt_trichotomy n n' with c | c | c
    · exact absurd e.symm (d' u n h c)
    · exact c.symm
    · exact absurd e'.symm (d u' n' h' c)
  subst en
  refine ⟨rfl, ?_⟩
  have e2 := e'.symm.trans e
  rcases Nat.lt_trichotomy u u' with c | c | c
  · exact absurd e2.symm (d u u' c h')
  · exact c.symm
  · exact absurd e2 (d u' u c h)
end

section
variable {P : Program} {w : World} {K : PySem.W.Frag} {mg : Str → Option Value} {base : Heap} {C_BadLine : Addr} {C_BadBottom : Addr} {C_OffRoad : Addr} {C_BadRow : Addr} {C_TooLong : Addr} {C_Road : Addr}
theorem ite_ne {A B : Prop} {d e : PyData} (h : PyData.eqv d e = true) (k : B) : if (if true = true then !PyData.eqv d e else PyData.eqv d e) = true then A else B := by
  rw [h]
  exact k
theorem eqv_self (p : Int × Int) : PyData.eqv (ptD p) (ptD p) = true := by rw [eqv_pt, decide_eq_true rfl]
theorem lay_pt1 (p : Int × Int) : (ptD p).canLay0 = true := by
  have := lay_pts [p]
  simp only [List.map_cons, List.map_nil] at this
  simpa [PyData.canLayAll0] using this
theorem pt_at {H : Hp} {ws : List V} {hs : List Int} {p : Int × Int} {n i : Nat} {v : V} (pr : Paired (PtR H) ws (ptsL hs p n)) (h : ws[i]? = some v) : i < n ∧ ∃ a, v = .ref a ∧ H a = some (.tup [.int (itP hs p i).1, .int (itP hs p i).2]) := by
  obtain ⟨q, e, a, ea, fa⟩ := pair_get pr h
  obtain ⟨hi, rfl⟩ := ptsL_get e
  exact ⟨hi, a, ea, fa⟩
def spRight (K : PySem.W.Frag) (C : Addr) : Sp := fun vs H Q _ => ∃ (r ph pp : Addr) (hs : List Int) (t b : Int), vs = [.ref r, .ref ph, .ref pp] ∧ RoadAt C H r hs ∧ LineOk hs ∧ SqL K H ph (hs.map V.int) ∧ H pp = some (.tup [.int t, .int b]) ∧ 1 ≤ b ∧ Sm 3000 b ∧ OnRoad hs t b ∧ ((hs.length : Int) - 1) * (lowF t b).2 ≤ 380 ∧ ∀ H', Same H H' → Q (.bl true) H'
theorem ok_right {f : Addr} {fd : FuncData} (F : Fun K "_law_right" "_law_right" s__law_right f fd) (T : Txt K mg C_BadLine C_BadBottom C_OffRoad C_BadRow C_TooLong C_Road) (c__law_low : Cal P w K mg base "_law_low" 2 spLow) (c__law_step : Cal P w K mg base "_law_step" 1 (spStep K)) (c_tail_ring : Cal P w K mg base "tail_ring" 6 (spTail K C_Road)) (c__law_pair : Cal P w K mg base "_law_pair" 4 (spPair K)) :
    FnOk P w K mg base (CXE P w) 7 f fd ["_law_road", "_law_heights_here", "_law_point_here"] (spRight K C_Road) := by
  have sc := sc__law_right
  refine F.okX sc (fun vs H Q E h => by obtain ⟨r, ph, pp, hs, t, b, rfl, _⟩ := h; rfl) (fun cdv A outer s H vs Q E hr h => ?_)
  obtain ⟨r, ph, pp, hs, t, b, rfl, hR, hok, hh, hp, hb, sb, hon, sm, k⟩ := h
  have hl1 := hok.1
  have hl2 := hok.2.1
  have P0 := pt_low hb hon
  have nl : ¬ Dist (itP hs (lowF t b)) 1001 := fun d => by
    have := dist_le hok P0 d
    omega
  have sb0 : Sm 3000 (lowF t b).2 := sb.of_le (by have := P0.1; have := P0.2.1; omega)
  refine ⟨_, (pss_cons (ps_asg (pe_callC c__law_low (hr.mono (by decide)) rfl passE_def (pa_cons (pe_ix ix_tup (pv 2) pe_int (fun _ _ => rfl)) (pa_cons (pe_ix ix_tup (pv 2) pe_int (fun _ _ => rfl)) pa_nil))) (pg_tup rfl (pgs_cons (pg_name (i := 3) sc.nd rfl (by walk_at "loc")) (pgs_cons (pg_name (i := 4) sc.nd rfl (by walk_at "loc")) pgs_nil))))
      (pss_cons (ps_set (i := 5) sc.nd rfl (by walk_at "loc") (pe_callC c_tail_ring (hr.mono (by decide)) rfl passE_def (pa_cons (pv 0) (pa_cons (pv 2) pa_nil))))
      (pss_cons (ps_if (pt_not (pt_val (pe_callC c__law_pair (hr.mono (by decide)) rfl passE_def (pa_cons (pv 5) pa_nil)))) (pss_one (ps_ret pe_bl)) pss_nil)
      (pss_cons (ps_set (i := 6) sc.nd rfl (by walk_at "loc") (pe_op op_cat (pe_ix ix_tup (pv 5) pe_int (fun _ _ => rfl)) (pe_ix ix_tup (pv 5) pe_int (fun _ _ => rfl))))
      (pss_cons (ps_if (PW.pt (pw_or (pt_cmpR op_gt (pe_callB call_len_seq rfl T.len_ PySem.boot_len (pa_cons (pv 6) pa_nil)) (pe_op op_add (pe_op op_mulX (pe_op op_sub (pe_callB call_len_seq rfl T.len_ PySem.boot_len (pa_cons (pv 1) pa_nil)) pe_int) (pv 4)) pe_int) (nomark _)) (pw_or1 (pt_cmpR op_ne (pe_callB call_lenS rfl T.len_ PySem.boot_len (pa_cons (pe_callTy (call_setP rfl hr.units) rfl T.set_ PyProof.Rows.boot_set (pa_cons (pv 6) pa_nil)) pa_nil)) (pe_callB call_len_seq rfl T.len_ PySem.boot_len (pa_cons (pv 6) pa_nil)) (nomark _))))) (pss_one (ps_ret pe_bl)) pss_nil)
      (pss_cons (ps_for PassesOwn.leaving rfl (pi_list (pv 6)) (pg_name (i := 7) sc.nd rfl (by walk_at "loc")) (pss_cons (ps_if (pt_cmpR (op_neD hr.units) (pv 7) (pe_callC c__law_low (hr.mono (by decide)) rfl passE_def (pa_cons (pv 3) (pa_cons (pv 4) pa_nil))) (nomark _)) (pss_one (ps_ret pe_bl)) pss_nil)
      (pss_one (ps_set (i := 3) sc.nd rfl (by walk_at "loc") (pe_callC c__law_step (hr.mono (by decide)) rfl passE_def (pa_cons (pv 1) (pa_cons (pv 3) (pa_cons (pv 4) pa_nil))))))))
      (pss_cons (ps_if (pt_cmpR (op_neD hr.units) (pe_ix ix_list (pe_ix ix_tup (pv 5) pe_int (fun _ _ => rfl)) pe_int (fun _ _ => rfl)) (pe_callC c__law_low (hr.mono (by decide)) rfl passE_def (pa_cons (pv 3) (pa_cons (pv 4) pa_nil))) (nomark _)) (pss_one (ps_ret pe_bl)) pss_nil)
      (pss_cons (ps_expr (pe_bm PySem.F.plainAttrs_list PySem.F.slot_list_append PySem.F.type_list_append mt_append (pe_ix ix_tup (pv 5) pe_int (fun _ _ => rfl)) (pa_cons (pe_tup (pa_cons pe_int (pa_cons pe_int pa_nil))) pa_nil)))
      (pss_cons (ps_expr (pe_bm PySem.F.plainAttrs_list PySem.F.slot_list_append PySem.F.type_list_append mt_append (pe_ix ix_tup (pv 5) pe_int (fun _ _ => rfl)) (pa_cons (pe_tup (pa_cons pe_int (pa_cons pe_int pa_nil))) pa_nil)))
      (pss_cons (ps_set (i := 8) sc.nd rfl (by walk_at "loc") (pe_callC c_tail_ring (hr.mono (by decide)) rfl passE_def (pa_cons (pv 0) (pa_cons (pv 2) pa_nil))))
      (pss_one (ps_ret (pe_and (pe_cmpR (op_eqD hr.units) (pe_op op_cat (pe_ix ix_tup (pv 8) pe_int (fun _ _ => rfl)) (pe_ix ix_tup (pv 8) pe_int (fun _ _ => rfl))) (pv 6) (nomark _)) (pe_one (pe_cmpR (op_eqD hr.units) (pe_ix ix_tup (pv 8) pe_int (fun _ _ => rfl)) (pe_slice sl_list (pe_ix ix_tup (pv 5) pe_int (fun _ _ => rfl)) po_none (po_some (pe_un un_neg pe_int))) (nomark _)))))))))))))))), ?_⟩
  refine ⟨_, rfl, _, _, _, _, rfl, rfl, SqT.of hp, rfl, _, rfl, _, _, _, _, rfl, rfl, SqT.of hp, rfl, t, b, rfl, hb, sb.mono (by decide), fun q0 n0 => ?_⟩
  refine ⟨q0, _, rfl, SqT.new, rfl, _, _, rfl, _, _, rfl, rfl, ?_⟩
  have s0 := Same.upd (o := .tup (ptV (lowF t b))) n0
  generalize upd H q0 (.tup (ptV (lowF t b))) = H0 at s0
  generalize hpe : lowF t b = p0 at *
  refine ⟨_, rfl, _, rfl, r, pp, hs, t, b, rfl, hR.same s0, hok, SqT.of (s0 _ _ hp), hb, sb.mono (by decide), hon, by rw [hpe]; exact nl, fun n u q l1 l2 ws H1 d1 u1 e1 s1 m1 m2 d12 fq f1 f2 pr => ?_⟩
  rw [hpe] at d1 e1 pr
  have lw : ws.length = n := by rw [pr.length, ptsL_len]
  have hn := dist_le hok P0 d1
  have n380 : n ≤ 381 := by omega
  have good := pts_ok hok P0 (n := n)
  refine ⟨_, rfl, q, l1, l2, _, _, rfl, fq, ⟨_, f1, paired_take u pr⟩, ⟨_, f2, paired_drop u pr⟩, ?_, ?_, ?_, fun p hp => good p (List.mem_of_mem_take hp), fun p hp => good p (List.mem_of_mem_drop hp), fun H2 s2 => ⟨_, rfl, ?_⟩⟩
  · rw [List.length_take, ptsL_len]; omega
  · rw [List.length_drop, ptsL_len]; omega
  · rw [List.length_drop, ptsL_len]; omega
  refine iteF ?_
  have q2 := s2 _ _ fq
  have g1 := s2 _ _ f1
  have g2 := s2 _ _ f2
  have pr2 : Paired (PtR H2) ws (ptsL hs p0 n) := pair_map (fun _ _ z => z.same s2) pr
  refine ⟨_, rfl, _, _, _, _, rfl, rfl, SqT.of q2, rfl, _, rfl, _, _, _, _, rfl, rfl, SqT.of q2, rfl, l1, l2, ws.take u, ws.drop u, rfl, rfl, g1, g2, Nat.le_of_lt (small1000 (n := (ws.take u).length + (ws.drop u).length) (by rw [List.length_take, List.length_drop]; omega)), fun l3 n3 => ?_⟩
  rw [List.take_append_drop]
  have s3 := Same.upd (o := .lst ws) n3
  have f3 : upd H2 l3 (.lst ws) l3 = some (.lst ws) := upd_same
  generalize upd H2 l3 (.lst ws) = H3 at s3 f3
  have t03 := s0.trans (s1.trans (s2.trans s3))
  have mulok : IntMulOk ((hs.length : Int) - 1) p0.2 := IntMulOk.of_left (intBits_le_64 (by omega) (by omega))
  have hlen : (hs.map V.int).length = hs.length := List.length_map _
  refine ⟨_, rfl, _, _, rfl, .inl (SqL.of f3), _, rfl, _, _, rfl, .inl (t03.sql hh), _, _, rfl, rfl, _, rfl, _, _, rfl, rfl, by rw [hlen]; exact mulok, _, _, rfl, rfl, _, _, rfl, rfl, _, rfl, iteD (fun z => absurd z (by rw [hlen]; omega)) (fun _ => ?_)⟩
  have pr3 : Paired (PtR H3) ws (ptsL hs p0 n) := pair_map (fun _ _ z => z.same s3) pr2
  refine ⟨_, rfl, l3, ws, itP hs p0, rfl, SqL.of f3, fun i v hv => (pt_at pr3 hv).2, fun i j a b => d1 i j a (by omega), by omega, fun l4 n4 => ?_⟩
  have s4 := Same.upd (o := SetO l4 ws.length) n4
  have f4 : upd H3 l4 (SetO l4 ws.length) l4 = some (SetO l4 ws.length) := upd_same
  generalize upd H3 l4 (SetO l4 ws.length) = H4 at s4 f4
  refine ⟨l4, ws.length, rfl, f4, by omega, _, rfl, _, _, rfl, .inl (SqL.of (s4 _ _ f3)), rfl, _, rfl, iteNDV (fun z => absurd rfl z) (fun _ => ?_)⟩
  have t04 := t03.trans s4
  have pr4 : Paired (PtR H4) ws (ptsL hs p0 n) := pair_map (fun _ _ z => z.same s4) pr3
  have on0 : ∀ i, OnRoad hs (trT hs p0.1 p0.2 i) p0.2 := trT_on hok P0.1 P0.2.2.2
  refine ⟨_, rfl, l3, rfl, ⟨_, SqL.of (s4 _ _ f3)⟩, for_list (K := K) (a := l3) (xs := ws) (fun i σ H5 => Same H4 H5 ∧ ∃ z, σ = [some (.ref r), some (.ref ph), some (.ref pp), some (.int (trT hs p0.1 p0.2 i)), some (.int p0.2), some (.ref q), some (.ref l3), z, none]) ⟨Same.refl _, _, rfl⟩ ?_ ?_ ?_⟩
  · rintro i σ H5 _ ⟨s5, z, rfl⟩
    exact SqL.of (s5 _ _ (s4 _ _ f3))
  · rintro i y σ H5 hy ⟨s5, z, rfl⟩
    obtain ⟨hi, a, rfl, fa⟩ := pt_at pr4 hy
    refine ⟨_, rfl, _, rfl, _, rfl, _, _, rfl, P0.1, sb0.mono (by decide), fun q6 n6 => ?_⟩
    have s6 := Same.upd (o := .tup (ptV (lowF (trT hs p0.1 p0.2 i) p0.2))) n6
    rw [← it_tr P0 i] at s6 ⊢
    refine ⟨_, _, rd_pt (SqT.of ((s5.trans s6) _ _ fa)), rd_pt SqT.new, lay_pt1 _, lay_pt1 _, dep_pt, _, rfl, ?_⟩
    refine ite_ne (eqv_self _) ?_
    exact ⟨_, rfl, _, rfl, _, rfl, ph, hs, _, _, rfl, (t04.trans (s5.trans s6)).sql hh, hok, P0.1, sb0.mono (by decide), on0 i, s5.trans s6, _, rfl⟩
  · rintro σ H5 ⟨s5, z, rfl⟩
    have t25 : Same H2 H5 := s3.trans (s4.trans s5)
    have q5 := t25 _ _ q2
    have g15 := t25 _ _ g1
    have g25 := t25 _ _ g2
    have h35 := (s4.trans s5) _ _ f3
    have pr5 : Paired (PtR H5) ws (ptsL hs p0 n) := pair_map (fun _ _ z => z.same s5) pr4
    have t05 := t04.trans s5
    have uw : u < ws.length := by omega
    obtain ⟨_, a0, ea, fa⟩ := pt_at pr5 (List.getElem?_eq_getElem uw)
    have at0 : atI (ws.drop u) (0 : Int) = some (.ref a0) := by
      have e : (ws.drop u)[0]? = some (.ref a0) := by rw [List.getElem?_drop, Nat.add_zero, List.getElem?_eq_getElem uw, ea]
      exact atI_nat e
    refine ⟨_, rfl, _, _, _, _, rfl, rfl, SqT.of q5, rfl, _, _, _, _, rfl, rfl, SqL.of g25, at0, _, rfl, _, rfl, _, _, rfl, P0.1, sb0.mono (by decide), fun q7 n7 => ?_⟩
    have s7 := Same.upd (o := .tup (ptV (lowF (trT hs p0.1 p0.2 ws.length) p0.2))) n7
    have elow : lowF (trT hs p0.1 p0.2 ws.length) p0.2 = itP hs p0 u := by rw [← it_tr P0, lw, e1]
    rw [elow] at s7 ⊢
    refine ⟨_, _, rd_pt (SqT.of (s7 _ _ fa)), rd_pt SqT.new, lay_pt1 _, lay_pt1 _, dep_pt, _, rfl, ite_ne (eqv_self _) ?_⟩
    generalize upd H5 q7 (.tup (ptV (itP hs p0 u))) = H7 at s7
    have nH1 := sNone s0 m1
    have nH2 := sNone s0 m2
    refine ⟨_, rfl, _, _, _, _, rfl, rfl, SqT.of (s7 _ _ q5), rfl, .inl ⟨rfl, _, SqL.of (s7 _ _ g15)⟩, sz2, fun t8 n8 => ?_⟩
    have s8 := Same.upd (o := .tup [.int 0, .int 1]) n8
    generalize upd H7 t8 (.tup [.int 0, .int 1]) = H8 at s8
    have t58 := s7.trans s8
    have g18 := t58 _ _ g15
    refine ⟨l1, _, .ref t8, rfl, rfl, g18, small1000 (by rw [List.length_take]; omega), ?_⟩
    have dq1 : q ≠ l1 := fun z => by rw [z, g15] at q5; cases q5
    have d31 : l3 ≠ l1 := fun z => by rw [z, g1] at n3; cases n3
    have d32 : l3 ≠ l2 := fun z => by rw [z, g2] at n3; cases n3
    have dq2 : q ≠ l2 := fun z => by rw [z, g25] at q5; cases q5
    have q9 : upd H8 l1 (.lst (ws.take u ++ [.ref t8])) q = some (.tup [.ref l1, .ref l2]) := by rw [upd_ne dq1]; exact t58 _ _ q5
    have g29 : upd H8 l1 (.lst (ws.take u ++ [.ref t8])) l2 = some (.lst (ws.drop u)) := by rw [upd_ne d12.symm]; exact t58 _ _ g25
    have h39 : upd H8 l1 (.lst (ws.take u ++ [.ref t8])) l3 = some (.lst ws) := by rw [upd_ne d31]; exact t58 _ _ h35
    have pr9 : Paired (PtR (upd H8 l1 (.lst (ws.take u ++ [.ref t8])))) ws (ptsL hs p0 n) := pair_map (fun _ _ z => (z.same t58).upd g18) pr5
    have S9 : Same H (upd H8 l1 (.lst (ws.take u ++ [.ref t8]))) := Same.upd2 (t05.trans t58) nH1
    generalize upd H8 l1 (.lst (ws.take u ++ [.ref t8])) = H9 at q9 g29 h39 pr9 S9
    refine ⟨_, rfl, _, _, _, _, rfl, rfl, SqT.of q9, rfl, .inl ⟨rfl, _, SqL.of g29⟩, sz2, fun t10 n10 => ?_⟩
    have s10 := Same.upd (o := .tup [.int 0, .int 1]) n10
    generalize upd H9 t10 (.tup [.int 0, .int 1]) = H10 at s10
    have g210 := s10 _ _ g29
    refine ⟨l2, _, .ref t10, rfl, rfl, g210, small1000 (by rw [List.length_drop]; omega), ?_⟩
    have q11 : upd H10 l2 (.lst (ws.drop u ++ [.ref t10])) q = some (.tup [.ref l1, .ref l2]) := by rw [upd_ne dq2]; exact s10 _ _ q9
    have h311 : upd H10 l2 (.lst (ws.drop u ++ [.ref t10])) l3 = some (.lst ws) := by rw [upd_ne d32]; exact s10 _ _ h39
    have g211 : upd H10 l2 (.lst (ws.drop u ++ [.ref t10])) l2 = some (.lst (ws.drop u ++ [.ref t10])) := upd_same
    have pr11 : Paired (PtR (upd H10 l2 (.lst (ws.drop u ++ [.ref t10])))) ws (ptsL hs p0 n) := pair_map (fun _ _ z => (z.same s10).upd g210) pr9
    have S11 : Same H (upd H10 l2 (.lst (ws.drop u ++ [.ref t10]))) := Same.upd2 (S9.trans s10) nH2
    generalize upd H10 l2 (.lst (ws.drop u ++ [.ref t10])) = H11 at q11 h311 g211 pr11 S11
    refine ⟨_, rfl, _, rfl, r, pp, hs, t, b, rfl, hR.same S11, hok, SqT.of (S11 _ _ hp), hb, sb.mono (by decide), hon, by rw [hpe]; exact nl, fun n' u' q' k1 k2 ws' H12 d' u1' e1' s12 m1' m2' d12' fq' f1' f2' pr' => ?_⟩
    rw [hpe] at d' e1' pr'
    obtain ⟨en, eu⟩ := walk_one d1 u1 e1 d' u1' e1'
    rw [en] at pr'
    rw [eu] at f1' f2'
    have lw' : ws'.length = n := by rw [pr'.length, ptsL_len]
    refine ⟨_, rfl, _, _, _, _, rfl, rfl, SqT.of fq', rfl, _, rfl, _, _, _, _, rfl, rfl, SqT.of fq', rfl, k1, k2, ws'.take u, ws'.drop u, rfl, rfl, f1', f2', Nat.le_of_lt (small1000 (n := (ws'.take u).length + (ws'.drop u).length) (by rw [List.length_take, List.length_drop]; omega)), fun l13 n13 => ?_⟩
    rw [List.take_append_drop]
    have s13 := Same.upd (o := .lst ws') n13
    have f13 : upd H12 l13 (.lst ws') l13 = some (.lst ws') := upd_same
    generalize upd H12 l13 (.lst ws') = H13 at s13 f13
    have t1113 := s12.trans s13
    have A1 : PtsAt H13 l13 (ptsL hs p0 n) := ⟨_, f13, pair_map (fun _ _ z => z.same s13) pr'⟩
    have A2 : PtsAt H13 l3 (ptsL hs p0 n) := ⟨_, t1113 _ _ h311, pair_map (fun _ _ z => z.same t1113) pr11⟩
    refine ⟨_, rfl, _, _, A1.rd, A2.rd, lay_ptl _, lay_ptl _, dep_ptl _ _, true, ?_, iteT ?_⟩
    · show V.bl (PyData.eqv _ _) = _
      rw [dec_ptl]
    refine ⟨_, rfl, _, _, _, _, rfl, rfl, SqT.of (s13 _ _ fq'), rfl, _, rfl, _, _, _, _, rfl, rfl, SqT.of (t1113 _ _ q11), rfl, _, rfl, _, rfl, l2, _, rfl, SqL.of (t1113 _ _ g211), fun l14 n14 => ?_⟩
    rw [cut_init]
    have s14 := Same.upd (o := .lst (ws.drop u)) n14
    have f14 : upd H13 l14 (.lst (ws.drop u)) l14 = some (.lst (ws.drop u)) := upd_same
    generalize upd H13 l14 (.lst (ws.drop u)) = H14 at s14 f14
    have B1 : PtsAt H14 k2 ((ptsL hs p0 n).drop u) := ⟨_, (s13.trans s14) _ _ f2', paired_drop u (pair_map (fun _ _ z => z.same (s13.trans s14)) pr')⟩
    have B2 : PtsAt H14 l14 ((ptsL hs p0 n).drop u) := ⟨_, f14, paired_drop u (pair_map (fun _ _ z => z.same (t1113.trans s14)) pr11)⟩
    refine ⟨_, _, B1.rd, B2.rd, lay_ptl _, lay_ptl _, dep_ptl _ _, ?_⟩
    show Q (V.bl (PyData.eqv (.list (((ptsL hs p0 n).drop u).map ptD)) (.list (((ptsL hs p0 n).drop u).map ptD)))) H14
    rw [dec_ptl]
    exact k H14 (S11.trans (t1113.trans s14))
end

section
variable {P : Program} {w : World} {K : PySem.W.Frag} {mg : Str → Option Value} {base : Heap} {C_BadLine : Addr} {C_BadBottom : Addr} {C_OffRoad : Addr} {C_BadRow : Addr} {C_TooLong : Addr} {C_Road : Addr}
theorem at_three {r : Int} (x y : Int) (h0 : 0 ≤ r) (h1 : r < 3) : atI [V.int x, V.int x, V.int y] r = some (.int (if r = 2 then y else x)) := by
  rcases (by omega : r = 0 ∨ r = 1 ∨ r = 2) with e | e | e <;> subst e <;> rfl
theorem sz3' {x y z : V} : [x, y, z].length ≤ sizeLine := by show 3 ≤ sizeLine; decide
theorem rev_ok {hs : List Int} (h : LineOk hs) : LineOk hs.reverse := by
  refine ⟨by rw [List.length_reverse]; exact h.1, by rw [List.length_reverse]; exact h.2.1, fun x hx => ?_⟩
  rw [List.length_reverse]
  exact h.2.2 x (List.mem_reverse.mp hx)
/-- a good point: it lies there, on the road, its bottom in lowest terms at most M -/
def GP (H : Hp) (a : Addr) (n : Nat) (M B : Int) : Prop := ∃ t b, H a = some (.tup [.int t, .int b]) ∧ 1 ≤ b ∧ b ≤ B ∧ (0 ≤ t ∧ t ≤ ((n : Int) - 1) * b) ∧ (lowF t b).2 ≤ M
theorem GP.same {H H' : Hp} {a : Addr} {n : Nat} {M B : Int} (h : GP H a n M B) (s : Same H H') : GP H' a n M B := by
  obtain ⟨t, b, f, r⟩ := h
  exact ⟨t, b, s _ _ f, r⟩
theorem gp_spot {H : Hp} {a : Addr} {n : Nat} {t b c M : Int} (f : H a = some (.tup [.int (t * c), .int (b * c)])) (b1 : 1 ≤ b) (b2 : b ≤ M) (c1 : 1 ≤ c) (c2 : c ≤ 3) (t0 : 0 ≤ t) (t1 : t ≤ ((n : Int) - 1) * b) (hM : M ≤ 900) : GP H a n M 3000 := by
  have e1 := Int.mul_le_mul b1 c1 (by decide) (by omega)
  have e2 := Int.mul_le_mul (show b ≤ 900 by omega) c2 (by omega) (by decide)
  refine ⟨_, _, f, by omega, by omega, ⟨Int.mul_nonneg t0 (by omega), ?_⟩, ?_⟩
  · have := Int.mul_le_mul_of_nonneg_right t1 (show 0 ≤ c by omega)
    rwa [Int.mul_assoc] at this
  · rw [low_mul b1 c1]
    exact Int.le_trans (low_le b1) b2
theorem right_of {H : Hp} {pp : Addr} {hs : List Int} {n : Nat} {mo : Int} (hok : LineOk hs) (hn : hs.length = n) (G : GP H pp n mo 3000) (hm : ((n : Int) - 1) * mo ≤ 380) : ∃ t b, H pp = some (.tup [.int t, .int b]) ∧ 1 ≤ b ∧ Sm 3000 b ∧ OnRoad hs t b ∧ ((hs.length : Int) - 1) * (lowF t b).2 ≤ 380 := by
  obtain ⟨t, b, f, b1, b2, on, lo⟩ := G
  subst hn
  refine ⟨t, b, f, b1, Sm.small (by omega) (by omega) (by decide), on, ?_⟩
  have h1 := hok.1
  have := Int.mul_le_mul_of_nonneg_left lo (show 0 ≤ (hs.length : Int) - 1 by omega)
  omega
theorem ok_law {f : Addr} {fd : FuncData} (F : Fun K "law" "law" s_law f fd) (T : Txt K mg C_BadLine C_BadBottom C_OffRoad C_BadRow C_TooLong C_Road) (c__law_pick : Cal P w K mg base "_law_pick" 2 (spPick K)) (c__law_heights : Cal P w K mg base "_law_heights" 4 (spHeights K)) (c_Road : CCal P w K mg base "Road" C_Road 2 (spInit K C_BadLine C_Road)) (c__law_spot : Cal P w K mg base "_law_spot" 3 (spLSpot K)) (c__law_right : Cal P w K mg base "_law_right" 7 (spRight K C_Road)) :
    FnOk P w K mg base (CXE P w) 8 f fd ["_law_script"] (spLaw K) := by
  have sc := sc_law
  refine F.okX sc (fun vs H Q E h => by obtain ⟨a, ns, rfl, _⟩ := h; rfl) (fun cdv A outer s H vs Q E hr h => ?_)
  obtain ⟨a, ns, rfl, hS, hl, k⟩ := h
  refine ⟨_, (pss_cons (ps_set (i := 1) sc.nd rfl (by walk_at "loc") (pe_callC c__law_heights (hr.mono (by decide)) rfl passE_def (pa_cons (pv 0) (pa_cons pe_int (pa_cons (pe_ix ix_list (pe_lst (pa_cons pe_int (pa_cons pe_int (pa_cons pe_int pa_nil)))) (pe_callC c__law_pick (hr.mono (by decide)) rfl passE_def (pa_cons (pv 0) (pa_cons pe_int (pa_cons pe_int (pa_cons pe_int pa_nil))))) (fun _ _ => rfl)) pa_nil)))))
      (pss_cons (ps_set (i := 2) sc.nd rfl (by walk_at "loc") (pe_makeC c_Road (hr.mono (by decide)) rfl passE_def (pa_cons (pe_callTy call_list_of rfl T.list_ PyProof.Rows.boot_list (pa_cons (pv 1) pa_nil)) pa_nil)))
      (pss_cons (ps_set (i := 3) sc.nd rfl (by walk_at "loc") pe_int)
      (pss_cut (ps_if (pt_cmpR op_gt (pe_callB call_len_seq rfl T.len_ PySem.boot_len (pa_cons (pv 1) pa_nil)) pe_int (nomark _)) (pss_one (ps_set (i := 3) sc.nd rfl (by walk_at "loc") pe_int)) pss_nil)
      (pss_cons (ps_set (i := 4) sc.nd rfl (by walk_at "loc") (pe_callC c__law_spot (hr.mono (by decide)) rfl passE_def (pa_cons (pv 0) (pa_cons pe_int (pa_cons (pe_op op_sub (pe_callB call_len_seq rfl T.len_ PySem.boot_len (pa_cons (pv 1) pa_nil)) pe_int) (pa_cons (pv 3) pa_nil))))))
      (pss_cons (ps_set (i := 5) sc.nd rfl (by walk_at "loc") (pe_callC c__law_spot (hr.mono (by decide)) rfl passE_def (pa_cons (pv 0) (pa_cons pe_int (pa_cons (pe_op op_sub (pe_callB call_len_seq rfl T.len_ PySem.boot_len (pa_cons (pv 1) pa_nil)) pe_int) (pa_cons (pv 3) pa_nil))))))
      (pss_cons (ps_set (i := 6) sc.nd rfl (by walk_at "loc") (pe_makeC c_Road (hr.mono (by decide)) rfl passE_def (pa_cons (pe_rev (pv 1) (pe_un un_neg pe_int)) pa_nil)))
      (pss_cons (ps_for PassesOwn.leaving rfl (pi_list (pe_lst (pa_cons (pv 4) (pa_cons (pv 5) (pa_cons (pv 4) pa_nil))))) (pg_name (i := 7) sc.nd rfl (by walk_at "loc")) (pss_one (ps_if (PW.pt (pw_or (pt_not (pt_val (pe_callC c__law_right (hr.mono (by decide)) rfl passE_def (pa_cons (pv 2) (pa_cons (pv 1) (pa_cons (pv 7) pa_nil)))))) (pw_or1 (pt_not (pt_val (pe_callC c__law_right (hr.mono (by decide)) rfl passE_def (pa_cons (pv 6) (pa_cons (pe_rev (pv 1) (pe_un un_neg pe_int)) (pa_cons (pv 7) pa_nil))))))))) (pss_one (ps_ret pe_bl)) pss_nil)))
      (pss_one (ps_ret pe_bl)))))))))), ?_⟩
  refine ⟨_, rfl, sz3', fun p0 n0 => ?_⟩
  have s0 := Same.upd (o := .lst [.int 6, .int 6, .int 24]) n0
  refine ⟨_, rfl, a, ns, _, _, _, rfl, s0.sql hS, (by omega), (by omega), (by omega), (by omega), fun r0 _ l0 u0 => ?_⟩
  refine ⟨_, _, _, _, rfl, rfl, SqL.new, at_three 6 24 l0 u0, ?_⟩
  generalize hH0 : upd H p0 (.lst [.int 6, .int 6, .int 24]) = H0 at s0
  have mb : (1 : Int) ≤ (if r0 = 2 then 24 else 6) ∧ (if r0 = 2 then (24 : Int) else 6) ≤ 24 := by split <;> omega
  refine ⟨a, ns, _, _, rfl, s0.sql hS, (by omega), mb.1, mb.2, fun p1 hs w1 n1 a1 b1 i1 => ?_⟩
  have ok1 : LineOk hs := line_of i1 a1 (by omega)
  have s1 := Same.upd (o := .lst (hs.map V.int)) n1
  have f1 : upd H0 p1 (.lst (hs.map V.int)) p1 = some (.lst (hs.map V.int)) := upd_same
  generalize hH1 : upd H0 p1 (.lst (hs.map V.int)) = H1 at s1 f1
  have ol1 := ok1.1
  have ol2 := ok1.2.1
  have hlen : (hs.map V.int).length = hs.length := List.length_map _
  refine ⟨_, rfl, _, _, rfl, .inl (SqL.of f1), fun p3 n3 => ?_⟩
  have s3 := Same.upd (o := .lst (hs.map V.int)) n3
  have f3 : upd H1 p3 (.lst (hs.map V.int)) p3 = some (.lst (hs.map V.int)) := upd_same
  generalize upd H1 p3 (.lst (hs.map V.int)) = H3 at s3 f3
  refine fun x1 d1 nx1 nd1 ne1 => ?_
  refine ⟨x1, d1, p3, hs, rfl, upd_same, SqL.of (by rw [upd_ne (ne_of_none f3 nx1), upd_ne (ne_of_none f3 nd1)]; exact f3), fun _ H4 q4 nq4 kp4 r4 l4 => ⟨rfl, ?_⟩, fun z => absurd ok1 z⟩
  have s4 : Same H3 H4 := made_same nx1 nd1 kp4
  have R1 : RoadAt C_Road H4 x1 hs := ⟨d1, q4, r4, l4⟩
  have t4 : Same H H4 := s0.trans (s1.trans (s3.trans s4))
  have P1 := (s3.trans s4) _ _ f1
  refine ⟨fun σ H' => H' = H4 ∧ ∃ mo : Int, σ = [some (.ref a), some (.ref p1), some (.ref x1), some (.int mo), none, none, none, none] ∧ 6 ≤ mo ∧ mo ≤ 60 ∧ ((hs.length : Int) - 1) * mo ≤ 380, ?_, ?_⟩
  · refine ⟨_, rfl, _, _, rfl, .inl (SqL.of P1), _, _, rfl, rfl, _, rfl, iteD (fun q => ?_) (fun q => ?_)⟩
    · exact ⟨rfl, 12, rfl, by decide, by decide, by omega⟩
    · rw [hlen] at q
      exact ⟨rfl, 60, rfl, by decide, by decide, by omega⟩
  rintro σ H5 ⟨rfl, mo, rfl, mo1, mo2, mo3⟩
  refine ⟨_, rfl, _, rfl, _, _, rfl, .inl (SqL.of P1), _, _, rfl, rfl, _, rfl, ?_⟩
  rw [hlen]
  refine ⟨a, ns, _, _, _, rfl, t4.sql hS, (by omega), (by omega), (by omega), mo1, (by omega), fun p5 t5 b5 c5 n5 b51 b52 c51 c52 t51 t52 => ?_⟩
  have s5 := Same.upd (o := .tup [.int (t5 * c5), .int (b5 * c5)]) n5
  have f5 : upd H5 p5 (.tup [.int (t5 * c5), .int (b5 * c5)]) p5 = some (.tup [.int (t5 * c5), .int (b5 * c5)]) := upd_same
  generalize upd H5 p5 (.tup [.int (t5 * c5), .int (b5 * c5)]) = H6 at s5 f5
  have G5 : GP H6 p5 hs.length mo 3000 := gp_spot f5 b51 b52 c51 c52 t51 t52 (by omega)
  have t6 := t4.trans s5
  refine ⟨_, rfl, _, rfl, _, _, rfl, .inl (SqL.of (s5 _ _ P1)), _, _, rfl, rfl, _, rfl, ?_⟩
  rw [hlen]
  refine ⟨a, ns, _, _, _, rfl, t6.sql hS, (by omega), (by omega), (by omega), mo1, (by omega), fun p7 t7 b7 c7 n7 b71 b72 c71 c72 t71 t72 => ?_⟩
  have s7 := Same.upd (o := .tup [.int (t7 * c7), .int (b7 * c7)]) n7
  have f7 : upd H6 p7 (.tup [.int (t7 * c7), .int (b7 * c7)]) p7 = some (.tup [.int (t7 * c7), .int (b7 * c7)]) := upd_same
  generalize upd H6 p7 (.tup [.int (t7 * c7), .int (b7 * c7)]) = H7 at s7 f7
  have G7 : GP H7 p7 hs.length mo 3000 := gp_spot f7 b71 b72 c71 c72 t71 t72 (by omega)
  have P7 := (s5.trans s7) _ _ P1
  refine ⟨_, rfl, _, rfl, rfl, p1, _, rfl, SqL.of P7, fun p8 n8 => ?_⟩
  rw [← List.map_reverse]
  have s8 := Same.upd (o := .lst (hs.reverse.map V.int)) n8
  have f8 : upd H7 p8 (.lst (hs.reverse.map V.int)) p8 = some (.lst (hs.reverse.map V.int)) := upd_same
  generalize upd H7 p8 (.lst (hs.reverse.map V.int)) = H8 at s8 f8
  have okr := rev_ok ok1
  refine fun x2 d2 nx2 nd2 ne2 => ?_
  refine ⟨x2, d2, p8, hs.reverse, rfl, upd_same, SqL.of (by rw [upd_ne (ne_of_none f8 nx2), upd_ne (ne_of_none f8 nd2)]; exact f8), fun _ H9 q9 nq9 kp9 r9 l9 => ⟨rfl, ?_⟩, fun z => absurd okr z⟩
  have s9 : Same H8 H9 := made_same nx2 nd2 kp9
  have R2 : RoadAt C_Road H9 x2 hs.reverse := ⟨d2, q9, r9, l9⟩
  have t79 := s8.trans s9
  have t59 := s5.trans (s7.trans t79)
  refine ⟨_, rfl, _, rfl, _, rfl, sz3', fun l10 n10 => ?_⟩
  have s10 := Same.upd (o := .lst [.ref p5, .ref p7, .ref p5]) n10
  have f10 : upd H9 l10 (.lst [.ref p5, .ref p7, .ref p5]) l10 = some (.lst [.ref p5, .ref p7, .ref p5]) := upd_same
  generalize upd H9 l10 (.lst [.ref p5, .ref p7, .ref p5]) = H10 at s10 f10
  have Ga : GP H10 p5 hs.length mo 3000 := G5.same (s7.trans (t79.trans s10))
  have Gb : GP H10 p7 hs.length mo 3000 := G7.same (t79.trans s10)
  refine ⟨l10, rfl, ⟨_, SqL.of f10⟩, for_list (K := K) (a := l10) (xs := [.ref p5, .ref p7, .ref p5]) (fun i σ H11 => Same H10 H11 ∧ ∃ z, σ = [some (.ref a), some (.ref p1), some (.ref x1), some (.int mo), some (.ref p5), some (.ref p7), some (.ref x2), z]) ⟨Same.refl _, _, rfl⟩ ?_ ?_ ?_⟩
  · rintro i σ H11 _ ⟨s11, z, rfl⟩
    exact SqL.of (s11 _ _ f10)
  · rintro i y σ H11 hy ⟨s11, z, rfl⟩
    obtain ⟨pp, rfl, G⟩ : ∃ pp, y = .ref pp ∧ GP H10 pp hs.length mo 3000 := by
      match i, hy with
      | 0, hy => cases hy; exact ⟨p5, rfl, Ga⟩
      | 1, hy => cases hy; exact ⟨p7, rfl, Gb⟩
      | 2, hy => cases hy; exact ⟨p5, rfl, Ga⟩
      | n + 3, hy => cases hy
    have t511 := t59.trans (s10.trans s11)
    obtain ⟨t, b, g1, g2, g3, g4, g5⟩ := right_of ok1 rfl (G.same s11) mo3
    refine ⟨_, rfl, _, rfl, _, rfl, x1, p1, pp, hs, t, b, rfl, R1.same t511, ok1, SqL.of (t511 _ _ P1), g1, g2, g3, g4, g5, fun H12 s12 => ⟨_, rfl, ?_⟩⟩
    refine iteF ?_
    have t512 := t511.trans s12
    refine ⟨_, rfl, _, rfl, _, rfl, rfl, p1, _, rfl, SqL.of (t512 _ _ P1), fun p13 n13 => ?_⟩
    rw [← List.map_reverse]
    have s13 := Same.upd (o := .lst (hs.reverse.map V.int)) n13
    have t13 := s11.trans (s12.trans s13)
    obtain ⟨t', b', e1, e2, e3, e4, e5⟩ := right_of okr List.length_reverse (G.same t13) mo3
    refine ⟨_, rfl, x2, p13, pp, hs.reverse, t', b', rfl, R2.same (s10.trans t13), okr, SqL.of upd_same, e1, e2, e3, e4, e5, fun H14 s14 => ⟨_, rfl, ?_⟩⟩
    refine iteF ?_
    exact ⟨t13.trans s14, _, rfl⟩
  · rintro σ H11 ⟨s11, z, rfl⟩
    exact k _
end

section
theorem all_mk {l : PySem.W.OpenLaw} {w : World} {K : PySem.W.Frag} {h : Heap} {mg : Str → Option Value} {fa : Addr} {C_BadLine : Addr} {C_BadBottom : Addr} {C_OffRoad : Addr} {C_BadRow : Addr} {C_TooLong : Addr} {C_Road : Addr} {t_WIDEST : Tok} {t_LONGEST_TRACE : Tok} (X : K.In h) (G : h.Ns mainGlobals mg) (hfa : mg "law" = some (.ref fa))
    (d__law_cell : DefIn K "_law_cell" s__law_cell)
    (d__law_pick : DefIn K "_law_pick" s__law_pick)
    (d_check_bottom : DefIn K "check_bottom" s_check_bottom)
    (d_common_divisor : DefIn K "common_divisor" s_common_divisor)
    (d_lowest : DefIn K "lowest" s_lowest)
    (d_is_line : DefIn K "is_line" s_is_line)
    (d_trace : DefIn K "trace" s_trace)
    (d_tail_ring : DefIn K "tail_ring" s_tail_ring)
    (d__law_climb : DefIn K "_law_climb" s__law_climb)
    (d__law_heights : DefIn K "_law_heights" s__law_heights)
    (d__law_step : DefIn K "_law_step" s__law_step)
    (d__law_whole : DefIn K "_law_whole" s__law_whole)
    (d__law_common : DefIn K "_law_common" s__law_common)
    (d__law_low : DefIn K "_law_low" s__law_low)
    (d__law_point : DefIn K "_law_point" s__law_point)
    (d__law_points : DefIn K "_law_points" s__law_points)
    (d__law_spot : DefIn K "_law_spot" s__law_spot)
    (d__law_pair : DefIn K "_law_pair" s__law_pair)
    (d__law_right : DefIn K "_law_right" s__law_right)
    (d_law : DefIn K "law" s_law)
    (a_BadLine : PySem.W.nsIn K mainGlobals "BadLine" = some (some (.ref C_BadLine)))
    (x_BadLine : PySem.W.excIn K C_BadLine [.type "ValueError", .type "Exception", .type "BaseException", .type "object"] "ValueError.__new__" = true)
    (a_BadBottom : PySem.W.nsIn K mainGlobals "BadBottom" = some (some (.ref C_BadBottom)))
    (x_BadBottom : PySem.W.excIn K C_BadBottom [.type "ValueError", .type "Exception", .type "BaseException", .type "object"] "ValueError.__new__" = true)
    (a_OffRoad : PySem.W.nsIn K mainGlobals "OffRoad" = some (some (.ref C_OffRoad)))
    (x_OffRoad : PySem.W.excIn K C_OffRoad [.type "ValueError", .type "Exception", .type "BaseException", .type "object"] "ValueError.__new__" = true)
    (a_BadRow : PySem.W.nsIn K mainGlobals "BadRow" = some (some (.ref C_BadRow)))
    (x_BadRow : PySem.W.excIn K C_BadRow [.type "ValueError", .type "Exception", .type "BaseException", .type "object"] "ValueError.__new__" = true)
    (a_TooLong : PySem.W.nsIn K mainGlobals "TooLong" = some (some (.ref C_TooLong)))
    (x_TooLong : PySem.W.excIn K C_TooLong [.type "ValueError", .type "Exception", .type "BaseException", .type "object"] "ValueError.__new__" = true)
    (a_Road : PySem.W.nsIn K mainGlobals "Road" = some (some (.ref C_Road)))
    (pg_Road : PySem.W.plainGet K C_Road Str.empty = true)
    (hd_Road : PySem.W.hasDictIn K C_Road = true)
    (po_Road : PySem.W.plainOver K C_Road = true)
    (sa_Road : PySem.W.findIn K (.ref C_Road) "__setattr__" = some (some (.builtin "object.__setattr__")))
    (mk_Road : PySem.W.makesIn K C_Road = true)
    (kc_Road : PySem.W.keepIn K (.ref C_Road) = true)
    (m_Road___init__ : MethIn K C_Road "__init__" "Road.__init__" s_Road___init__)
    (m_Road_width : MethIn K C_Road "width" "Road.width" s_Road_width)
    (m_Road_ends : MethIn K C_Road "ends" "Road.ends" s_Road_ends)
    (m_Road_on_road : MethIn K C_Road "on_road" "Road.on_road" s_Road_on_road)
    (m_Road_at : MethIn K C_Road "at" "Road.at" s_Road_at)
    (na_Road_heights : PySem.W.findIn K (.ref C_Road) "heights" = some none)
    (g_WIDEST : PySem.W.nsIn K mainGlobals "WIDEST" = some (some (.int 24 t_WIDEST)))
    (g_LONGEST_TRACE : PySem.W.nsIn K mainGlobals "LONGEST_TRACE" = some (some (.int 1000 t_LONGEST_TRACE)))
    (z_len : PySem.W.nsIn K mainGlobals "len" = some none)
    (z_abs : PySem.W.nsIn K mainGlobals "abs" = some none)
    (z_range : PySem.W.nsIn K mainGlobals "range" = some none)
    (z_isinstance : PySem.W.nsIn K mainGlobals "isinstance" = some none)
    (z_int : PySem.W.nsIn K mainGlobals "int" = some none)
    (z_bool : PySem.W.nsIn K mainGlobals "bool" = some none)
    (z_list : PySem.W.nsIn K mainGlobals "list" = some none)
    (z_tuple : PySem.W.nsIn K mainGlobals "tuple" = some none)
    (z_min : PySem.W.nsIn K mainGlobals "min" = some none)
    (z_max : PySem.W.nsIn K mainGlobals "max" = some none)
    (z_all : PySem.W.nsIn K mainGlobals "all" = some none)
    (z_set : PySem.W.nsIn K mainGlobals "set" = some none) :
    ∃ fd : FuncData, (∀ (s : Shared) (v : Value), BindsTo s fd ⟨[v], []⟩ [("_law_script", v)]) ∧ ∀ base : Heap, K.In base → base.Ns mainGlobals mg → FnOk l.prog w K mg base (CXE l.prog w) 8 fa fd ["_law_script"] (spLaw K) := by
  have T : Txt K mg C_BadLine C_BadBottom C_OffRoad C_BadRow C_TooLong C_Road := ⟨PySem.W.mg_none_of X G z_len, PySem.W.mg_none_of X G z_abs, PySem.W.mg_none_of X G z_range, PySem.W.mg_none_of X G z_isinstance, PySem.W.mg_none_of X G z_int, PySem.W.mg_none_of X G z_bool, PySem.W.mg_none_of X G z_list, PySem.W.mg_none_of X G z_tuple, PySem.W.mg_none_of X G z_min, PySem.W.mg_none_of X G z_max, PySem.W.mg_none_of X G z_all, PySem.W.mg_none_of X G z_set, PySem.W.mg_of X G a_BadLine, ⟨x_BadLine⟩, PySem.W.mg_of X G a_BadBottom, ⟨x_BadBottom⟩, PySem.W.mg_of X G a_OffRoad, ⟨x_OffRoad⟩, PySem.W.mg_of X G a_BadRow, ⟨x_BadRow⟩, PySem.W.mg_of X G a_TooLong, ⟨x_TooLong⟩, ⟨pg_Road, hd_Road, po_Road, sa_Road⟩, na_Road_heights, ⟨t_WIDEST, PySem.W.mg_of X G g_WIDEST⟩, PySem.W.mg_of X G a_Road, ⟨t_LONGEST_TRACE, PySem.W.mg_of X G g_LONGEST_TRACE⟩⟩
  obtain ⟨f, fd, a, F⟩ := d_law.ex
  have e := hfa.symm.trans (PySem.W.mg_of X G a)
  cases e
  refine ⟨fd, fun s v => ?_, fun base kb nb => ?_⟩
  · obtain ⟨oc, od, kV, doc, pm, an, cdv, ct, osl, rfl, lk, hcd⟩ := F.ex
    exact .of_eq rfl
  · have c1 : Cal l.prog w K mg base "_law_cell" 1 (spCell K) := d__law_cell.cal X G bd__law_cell fun f fd F => ok_cell F T 
    have c2 : Cal l.prog w K mg base "_law_pick" 2 (spPick K) := d__law_pick.cal X G bd__law_pick fun f fd F => ok_pick F T c1
    have c3 : Cal l.prog w K mg base "check_bottom" 1 (spCheck C_BadBottom) := d_check_bottom.cal X G bd_check_bottom fun f fd F => ok_check F T 
    have c4 : Cal l.prog w K mg base "common_divisor" 1 spGcd := d_common_divisor.cal X G bd_common_divisor fun f fd F => ok_gcd F T 
    have c5 : Cal l.prog w K mg base "lowest" 2 (spLowest C_BadBottom) := d_lowest.cal X G bd_lowest fun f fd F => ok_lowest F T c3 c4
    have c6 : Cal l.prog w K mg base "is_line" 1 (spIsLine K) := d_is_line.cal X G bd_is_line fun f fd F => ok_is_line F T 
    have c7 : CCal l.prog w K mg base "Road" C_Road 2 (spInit K C_BadLine C_Road) := m_Road___init__.ccal T.g_Road mk_Road kc_Road bd_Road___init__ fun f fd F => ok_init F T c6
    have c8 : MCal l.prog w K mg base C_Road "width" 1 (spWidth C_Road) := m_Road_width.cal bd_Road_width fun f fd F => ok_width F T 
    have c9 : MCal l.prog w K mg base C_Road "ends" 2 (spEnds C_Road C_BadRow) := m_Road_ends.cal bd_Road_ends fun f fd F => ok_ends F T c8
    have c10 : MCal l.prog w K mg base C_Road "on_road" 3 (spOnRoad K C_Road C_BadBottom C_OffRoad) := m_Road_on_road.cal bd_Road_on_road fun f fd F => ok_on_road F T c8 c5
    have c11 : MCal l.prog w K mg base C_Road "at" 4 (spAt K C_Road C_BadBottom C_OffRoad) := m_Road_at.cal bd_Road_at fun f fd F => ok_at F T c8 c5 c9 c10
    have c12 : Cal l.prog w K mg base "trace" 5 (spTrace C_Road C_TooLong) := d_trace.cal X G bd_trace fun f fd F => ok_trace F T c11
    have c13 : Cal l.prog w K mg base "tail_ring" 6 (spTail K C_Road) := d_tail_ring.cal X G bd_tail_ring fun f fd F => ok_tail_ring F T c10 c12
    have c14 : Cal l.prog w K mg base "_law_climb" 3 (spClimb K) := d__law_climb.cal X G bd__law_climb fun f fd F => ok_climb F T c2
    have c15 : Cal l.prog w K mg base "_law_heights" 4 (spHeights K) := d__law_heights.cal X G bd__law_heights fun f fd F => ok_heights F T c2 c14
    have c16 : Cal l.prog w K mg base "_law_step" 1 (spStep K) := d__law_step.cal X G bd__law_step fun f fd F => ok_step F T 
    have c17 : Cal l.prog w K mg base "_law_whole" 1 spWhole := d__law_whole.cal X G bd__law_whole fun f fd F => ok_whole F T 
    have c18 : Cal l.prog w K mg base "_law_common" 1 spGcd := d__law_common.cal X G bd__law_common fun f fd F => ok_common F T 
    have c19 : Cal l.prog w K mg base "_law_low" 2 spLow := d__law_low.cal X G bd__law_low fun f fd F => ok_low F T c18
    have c20 : Cal l.prog w K mg base "_law_point" 2 (spPoint K) := d__law_point.cal X G bd__law_point fun f fd F => ok_point F T c17 c18
    have c21 : Cal l.prog w K mg base "_law_points" 3 (spPoints K) := d__law_points.cal X G bd__law_points fun f fd F => ok_points F T c20
    have c22 : Cal l.prog w K mg base "_law_spot" 3 (spLSpot K) := d__law_spot.cal X G bd__law_spot fun f fd F => ok_lspot F T c2
    have c23 : Cal l.prog w K mg base "_law_pair" 4 (spPair K) := d__law_pair.cal X G bd__law_pair fun f fd F => ok_pair F T c21
    have c24 : Cal l.prog w K mg base "_law_right" 7 (spRight K C_Road) := d__law_right.cal X G bd__law_right fun f fd F => ok_right F T c19 c16 c13 c23
    exact ok_law F T c2 c15 c7 c22 c24
theorem walk {l : PySem.W.OpenLaw} {q : Program} {loose : List Str} {XP : (Str → Option Value) → Heap → Prop} {YP : World → Heap → Prop} {d : DefRec} {K : Params → PySem.W.Frag} (hn : l.most = some 63) (hdf : d.params.defaults = [])
    (hY : ∀ (w : World) (h : Heap), YP w h → (K w.params).In h)
    (F : ∀ (w : World) (mg : Str → Option Value) (fa : Addr) (h : Heap), (K w.params).In h → h.Ns mainGlobals mg → mg d.name = some (.ref fa) →
      ∃ fd : FuncData, (∀ (s : Shared) (u : Value), BindsTo s fd ⟨[u], []⟩ [("_law_script", u)]) ∧ ∀ base : Heap, (K w.params).In base → base.Ns mainGlobals mg → FnOk l.prog w (K w.params) mg base (CXE l.prog w) 8 fa fd ["_law_script"] (spLaw (K w.params))) :
    PySem.W.WalkO q loose XP YP l.row.toRowW d [] (fun f vs => PySem.call f vs) :=
  L2.walk_of (n := 63) (k := 8) (x := "_law_script") (CX := fun w => CXE l.prog w) (sp := fun w => spLaw (K w.params)) hn (by decide) hdf ⟨rfl, by decide, by decide⟩ hY F (fun _ _ a ns hl _ hS => ⟨a, ns, rfl, hS, hl, fun _ => rfl⟩) fun _ _ _ _ _ z => CXE.no z
end
end My
open PySem PySem.W PyProof.Rows
local macro_rules | `(tactic| walk_at "def") => `(tactic| (refine' L2.def_mk ?a ?l ?c ?k; (case a => k_is); (case l => k_is); (case c => k_is); (case k => k_is)))
local macro_rules | `(tactic| walk_at "defD") => `(tactic| (refine' L2.defD_mk ?a ?l ?c ?k ?t; (case a => k_is); (case l => k_is); (case c => k_is); (case k => k_is); (case t => k_is)))
local macro_rules | `(tactic| walk_at "meth") => `(tactic| (refine' L2.meth_mk ?a ?i ?l ?c ?k; (case a => k_is); (case i => k_is); (case l => k_is); (case c => k_is); (case k => k_is)))
/-- the table as it is laid out wants no second form: nothing asks for it -/
theorem PySem.W.Fast.te12673661212552036054 : True := trivial
set_option maxRecDepth 100000 in
set_option maxHeartbeats 0 in
theorem PySem.Challenge.cw_crookroad_k09_tail_and_ring_holds : PySem.Challenge.rw_crookroad_k09_tail_and_ring.Holds := by
  w_on; o_law; k_head; (case hw => w_witness2)
  k_fill
  refine My.walk (l := PySem.Challenge.rw_crookroad_k09_tail_and_ring) rfl rfl (fun w h Y => PySem.W.kIn_of Y) ?F
  case F =>
    intro w mg fa h KX G hmg
    refine' My.all_mk KX G hmg ?d__law_cell ?d__law_pick ?d_check_bottom ?d_common_divisor ?d_lowest ?d_is_line ?d_trace ?d_tail_ring ?d__law_climb ?d__law_heights ?d__law_step ?d__law_whole ?d__law_common ?d__law_low ?d__law_point ?d__law_points ?d__law_spot ?d__law_pair ?d__law_right ?d_law ?a_BadLine ?x_BadLine ?a_BadBottom ?x_BadBottom ?a_OffRoad ?x_OffRoad ?a_BadRow ?x_BadRow ?a_TooLong ?x_TooLong ?a_Road ?pg_Road ?hd_Road ?po_Road ?sa_Road ?mk_Road ?kc_Road ?m_Road___init__ ?m_Road_width ?m_Road_ends ?m_Road_on_road ?m_Road_at ?na_Road_heights ?g_WIDEST ?g_LONGEST_TRACE ?z_len ?z_abs ?z_range ?z_isinstance ?z_int ?z_bool ?z_list ?z_tuple ?z_min ?z_max ?z_all ?z_set
    (case d__law_cell => walk_at "def")
    (case d__law_pick => walk_at "def")
    (case d_check_bottom => walk_at "def")
    (case d_common_divisor => walk_at "def")
    (case d_lowest => walk_at "def")
    (case d_is_line => walk_at "def")
    (case d_trace => walk_at "def")
    (case d_tail_ring => walk_at "def")
    (case d__law_climb => walk_at "def")
    (case d__law_heights => walk_at "def")
    (case d__law_step => walk_at "def")
    (case d__law_whole => walk_at "def")
    (case d__law_common => walk_at "def")
    (case d__law_low => walk_at "def")
    (case d__law_point => walk_at "def")
    (case d__law_points => walk_at "def")
    (case d__law_spot => walk_at "def")
    (case d__law_pair => walk_at "def")
    (case d__law_right => walk_at "def")
    (case d_law => walk_at "def")
    (case a_BadLine => k_is)
    (case x_BadLine => k_exc)
    (case a_BadBottom => k_is)
    (case x_BadBottom => k_exc)
    (case a_OffRoad => k_is)
    (case x_OffRoad => k_exc)
    (case a_BadRow => k_is)
    (case x_BadRow => k_exc)
    (case a_TooLong => k_is)
    (case x_TooLong => k_exc)
    (case a_Road => k_is)
    (case pg_Road => k_is)
    (case hd_Road => k_is)
    (case po_Road => k_is)
    (case sa_Road => k_is)
    (case mk_Road => k_is)
    (case kc_Road => k_is)
    (case m_Road___init__ => walk_at "meth")
    (case m_Road_width => walk_at "meth")
    (case m_Road_ends => walk_at "meth")
    (case m_Road_on_road => walk_at "meth")
    (case m_Road_at => walk_at "meth")
    (case na_Road_heights => k_is)
    (case g_WIDEST => k_is)
    (case g_LONGEST_TRACE => k_is)
    (case z_len => k_is)
    (case z_abs => k_is)
    (case z_range => k_is)
    (case z_isinstance => k_is)
    (case z_int => k_is)
    (case z_bool => k_is)
    (case z_list => k_is)
    (case z_tuple => k_is)
    (case z_min => k_is)
    (case z_max => k_is)
    (case z_all => k_is)
    (case z_set => k_is)

